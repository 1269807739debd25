import PyProof.Rows.All
import Wide.All
import OpenK.AllK
import Wide.FinOn
import Lean
import PyProof.EqAt
import PyProof.EqKinds
import PyProof.TupleCall
import PySem.Challenge.RW_bellferry_k73_whole_the_same_standstill
import PyProof.Rows.SetFrom
import PyProof.FactsAll.set_1
import PyProof.CollectWalk
import PyProof.Rows.SortStr
import PyProof.IsiH_list
import PyProof.AttrMissHeap
import PyProof.ConsumeWalk
import PyProof.StrWalks
import PyProof.IsiH_tuple
import PyProof.SliceStr2
import PyProof.ListRange
import PyProof.Rows.Range3
import PyProof.Rows.CallKwBuiltin
import PyProof.WalkInts
import PyProof.NeKinds
import PyProof.FString5
set_option Elab.async false
set_option tactic.hygienic false
set_option linter.all false
set_option maxRecDepth 100000
set_option maxHeartbeats 8000000
set_option genSizeOf false
set_option genSizeOfSpec false
set_option bootstrap.genMatcherCode false
set_option compiler.extract_closed false
noncomputable section
open Option renaming some->wc,none->we
open Bool renaming true->wf,false->wg
local macro_rules|`(tactic|erw[$e:term])=>`(tactic|refine $e)
open Lean in
def wh:Nat->Term->MacroM (TSyntax `rcasesPat)|0,_=>`(rcasesPat|_)|n+1,x=>match x with|`(⟨$[$a],*⟩)=>do let b<-a.mapM (wh n);`(rcasesPat|⟨$[$b:rcasesPat],*⟩)|`($i:ident)=>`(rcasesPat|$i:ident)|_=>`(rcasesPat|_)
local macro_rules|`(tactic|have⟨$[$a],*⟩:=$e)=>do let b<-a.mapM (wh 9);`(tactic|obtain⟨$[$b:rcasesPat],*⟩:=$e)
local macro_rules|`(#v[])=>`(.nil)|`(#v[$a])=>`(.cons $a .nil)|`(#v[$a,$b,*])=>`(.cons $a #v[$b,*])|`(($a)^$b)=>`(.cons $a $b)|`($c:char)=>let n:=c.getChar.toNat;if n<97 then`(.int $(Lean.quote (n-65)))else`(.var $(Lean.quote (n-97)))
open Lean in
def wj(s:Syntax):List Char->Nat->List Syntax|[],_=>[]|c::l,n=>let m:=n*85+c.toNat-35;if m<85^10 then wj s l m else s.setArg 1 ((s[1].setArg 1 (s[1][1].setArg 0 (mkIdent (.str `PySem.W.Fast ("tw"++(m-85^10).repr))))).setArg 3 (s[1][3].setArg 1 (mkIdent `trivial)))::wj s l 1
open Lean in
local macro_rules(kind:=Lean.Parser.Command.declaration)|s=>match(if s[1][0].getAtomVal=="theorem"then s[1][3][1].isStrLit? else none)with|some t=>return mkNullNode (wj s t.toList 1).toArray|_=>match s.getHeadInfo with|.none=>Macro.throwUnsupported|_=>if s[1][1][0].getId.getRoot==`PySem then Macro.throwUnsupported else return s.rewriteBottomUp (·.setInfo .none)
open PySem renaming Value->X0,World->Xm,Program->Xr,sysModules->YN,mainGlobals->Xp,bootBuiltins->YE,Around->Xw,Shared->X1,wpAny->X4,model->X8,backTo->Y5,starEach->Xx,wpAny_mono->ZN,holding->Zc,wpAny_truthy_bool->ZO,swapsWith->ZP,assignEach->ZQ,wpAny_bind->X2,wpAny_holding->YO,wpAny_passesOwn->V3,letOwnedTupleGo->AN,wpAny_pure->Xd,rawInt->Yc,foldedSetIterable->AO,Operator->UA,binaryOp->Yk,compareOp->Y8,codeAny->YY,attributeBase->UB,FuncData->Zd,codeAny_mono->Vy,wpAny_Call_Name_kw->UC,backToKw->U7,keywordEach->U8,Keyword->Ze,NameKind->Zf,wpAny_callSpecial?_slot->AQ,wpAny_call_entry->Zg,wpAny_typeOf->V4,wpAny_newObj_type->U9,sliceBounds->V5,call_meets->Ua,valueAt->Z4,tupleKind_room_in1->AR,wpAny_richCompare_same_room->Vz,wpAny_loadPart'->Yh,plainId_quiet->ZR,codeAny_builtin->Zh,wpAny_dictEntries->AS,wpAny_isInstance->VA,SetTable->Yx,wpAny_setState_of->Ws,wpAny_askSetting->Wt,wpAny_pyIter_list->AT,wpAny_setField->VB
open List renaming getElem?_eq_getElem->X6,mem_of_getElem?->Xb,length_map->X5,getElem?_eq_some_iff->Xo,getElem?_map->Xe,replicate->Xj,mem_cons->Xk,getD_eq_getElem?_getD->Y6,mem_cons_of_mem->XJ,size_toArray->XM,length_append->XR,not_mem_nil->XN,map_cons->Xz,map_append->XI,mem_singleton->Y1,mem_cons_self->Y3,getElem_mem->XS,mem_map->XA,range->Xq,getElem_of_mem->Yq,mem_append->Ye,getElem?_append_right->Zi,nodup_cons->Yf,length_cons->Yi,length_take->Yl,getElem?_append_left->Zv,getD_cons_zero->YQ,nodup_append->Yy,length_replicate->Z5,map_map->Y9,nil_append->Yr,getElem?_eq_none->Zj,getD_cons_succ->Z6,mem_append_right->Zw,cons_append->YR,replicate_succ->Zk,take_add_one->Z7,append_nil->YS,getElem?_of_mem->ZS,map_nil->Ys,flatten_cons->Zx,eq_of_mem_replicate->V6,length_singleton->UD,lookup_cons->Zy,take_of_length_le->V7,mem_range->Zl,length_set->ZT,length_dropLast->V8,append_assoc->UE,length_range->UF,eraseIdx_eq_take_drop_succ->AU,getElem?_inj->UG,eq_nil_of_length_eq_zero->AV,any_cons->ZU,length_eq_zero_iff->Wu,getElem?_set->V9,getElem?_range->VC,take_length->Va,mem_flatMap->Vb,mem_or_eq_of_mem_set->AW,foldl_cons->Vc,all_eq_true->VD,mem_flatten->VE,getElem?_set_self->AX,map_replicate->Wv,lookup->Ub,find?_cons->VF,map_set->UH,all_cons->Vd,ext_getElem?->Ww,length_eraseIdx_of_lt->CY,forall_mem_cons->AY,mem_append_left->AZ,getElem?_set_ne->B3,dropLast_subset->B4,getElem?_eq_none_iff->CZ,foldl_append->B5,nodup_nil->Wx,getElem?_toArray->D0,getElem_inj->B6,length_drop->B7,ext_getElem->B8,take_append_of_le_length->FS,filterMap_cons->D3,length_zip->B9,length_pos_iff->D4,pairwise_cons->D5,foldl->VG,count_append->D6,pairwise_map->D7,idxOf_lt_length_iff->FT,length->Wy,getElem?_replicate->FU,map_take->Ba,getElem_map->D8,getElem_set->D9,drop_eq_nil_of_le->FV,mem_filter->Da,of_mem_zip->Db,map_id'->Bb,range_succ->Dd,drop_zero->De,getD->Wz,map->WB
open PySem.W renaming Frag->X3,nsIn->XD,findIn->Y7,keepIn->Zm,kia_one->Zz,kia_tup->ZA,emptyDict->Uc,fnOf->ZB,instObj->UI,kitOne->Ve,kitx_list->Bc,kitx_dict->Bd,plainGet->Be,plainGet_of->Df,callWith_K->Dg,lookIn->Bf,codeIn->Bg,kitAny->Bh,methodObj->Dh,hasDictIn->Di,mg_of->Bi,cellsFrom_some->FW,isFn->Bj,takerIn->Dj,makesIn->Dk,methodCall_KW->FX,OpenLaw->Dl
open Nat renaming le_refl->Xa,le_trans->Xy,ne_of_lt->XG,lt_of_lt_of_le->Yz,zero_le->Yg,lt_succ_self->ZC,two_pow_pos->ZD,le_succ->YT,lt_irrefl->ZE,le_add_right->UJ,le_of_lt->ZF,lt_succ_of_lt->VH,add_comm->UK,le_of_lt_succ->WC,pow_le_pow_right->Bk,le_of_eq->Vf,lt_succ_iff_lt_or_eq->Dm,not_lt_zero->WD,mod_lt->UL,succ_le_succ->Bl,lt_of_le_of_lt->Do,ne_of_gt->Bm,lt_trans->Bn,sub_zero->Bo
open PySem.Heap renaming get?_push_of_some->Xt,get?_push_size->XT,lt_size->Xu,size_push->Ud,get?_update_self->WE,SameBut->Ue,get?_update_other->Bp,ExtBut->Bq
open Bool renaming false_ne_true->XB,and_eq_true->XU,false_eq_true->YZ,false_and->WF,eq_iff_iff->Br,and_false->Bs,not_true->Bt,true_and->Bu,or_eq_true->Dp,or_self->Bv,not_false->Dq,false_or->Dr
open Option.some renaming inj->Y2,injEq->Bw
open Array renaming length_toList->Yt,getElem?_eq_getElem->Vg,getElem?_eq_none->Ds,getElem?_toList->Dt
open PySem.Value renaming ref->XC,str->Z8,type->ZG,none->UM,bool->UN,int->VI,float->Bx
open Sum renaming inr->Xn,inl->Vh
open Int renaming toNat_natCast->Z0,toNat_of_nonneg->ZV,emod_nonneg->Z9,emod_lt_of_pos->ZW,natCast_nonneg->Uf,lt_of_lt_of_le->VJ,natCast_pow->Vi,le_refl->Ug,zero_add->VL,natCast_mul->By,ofNat_le->WG,natCast_emod->Du,sub_emod->Bz
open PySem.NameKind renaming free->Ym,cell->VM
open PySem.Around renaming under_plainId->ZH,under->Dv
open False renaming elim->Ya
open PyProof.Rows renaming slot_tuple_getitem->VN,callWith_type1->WH,callWith_builtin1->FY,bitAnd_pp->FZ
open PySem.Heap.SameBut renaming update->Uh
open Ne renaming symm->XW
open Iff renaming rfl->XX
open Option renaming map_eq_some_iff->VO,map_some->BA,isSome_map->Dw
open True renaming intro->YF
open PySem.Builtin.Tuple renaming tupleCompareSizes->BB,tupleExact->BC,tupleItemsOf->G0,tupleTooMany->G1,tupleIsExact->G2
open PySem.AutoSeq1 renaming wpAny_loadPart'->BD,sub_tuple_tuple->G3,sub_list_list->G4,idx_int->G5
open PySem renaming mem_of_lookup->VP,Within->Dx
open PySem.Builtin.Slice renaming slicePlaces->BE,sliceAdjust->Dy,sliceApplied->G6
open PySem.Builtin.Dict renaming dictSlotArgs->BF,updateFrom->G7,samePairs->G8
open PySem.Builtin.List renaming listTooLong->BG,listExtendWith->G9,listSameRef->Ga
open PySem.SetTable renaming grown->Vj,below->BH
open PySem.F renaming slot_tuple_mul->BJ,called_set->UO,slot_dict_keyiterator_iter->Gb,args_tuple_add_2->Gc,args_tuple_mul_2->Gd,entry_tuple_add->Gf,slot_tuple_rmul->Gg,entry_tuple_mul->Gh,slot_tuple_add->Gi,sub_dict_dict->Gj,slot_int_rmul->Gk,slot_dict_eq->Gm,slot_dict_ne->Gn,slot_list_eq->Dz,slot_list_ne->DA
open PySem.Calls renaming spliced_cons->WI,spliced_nil->WJ,Name_function_global->Go,callWith_builtin->Gp
open PySem.Obj renaming mapSeq->Ui
open Sum.inr renaming inj->Vk
open PySem.Str renaming ofString->VQ,empty->VR
open ForInStep renaming yield->BK
open Nat.succ renaming inj->WK
open PySem.Builtin renaming bitAnd->BL,bitXor->BM
open PySem.Builtin.Frozenset renaming sizeOf->Gq
open PySem.Builtin.Range renaming rangeSize->Gr
open PySem.Shared renaming TypeIs->BN
open List.Pairwise renaming sublist->Gs,imp->Gu
open PySem.SeqAt.EqAt renaming int_str->Gw,str_int->Gx
open PySem.ScopeKind renaming function->Gy
open PySem.SetTable.below renaming go->Gz
open Char renaming toNat->BO
open PySem.Heap.DictOf renaming new->GA
namespace L2
open PySem PySem.Spec PyProof.Rows
def nl0 {j:Type _}{p:j->Prop}:∀x∈([]:List j),p x:=λ_ h=>nomatch h
def fMc{j:Type _}{p:j->Prop}{a:j}{l:List j}(h:p a)(k:∀x∈l,p x):∀x∈a::l,p x:=AY.2 ⟨h,k⟩
noncomputable abbrev Key:=Sum Int Str
def VS:Key->X0->Bool
 |.inl k,v=>Value.isInt k v
 |.inr x,v=>Value.isStrOf x v
def keyH(w:Xm):Key->Int
 |.inl k=>hashInt k
 |.inr x=>hashStr w x
def _X:∀{k:Key} {v:X0},VS k v=wf->(∃i t,k=Vh i/\v=VI i t)\/(∃x t,k=Xn x/\v=Z8 x t)
 |.inl i,v,h=>by
  have⟨t,e⟩:=Value.isInt_shape (k:=i) (v:=v) h;erw[.inl ⟨i,t,rfl,e⟩]
 |.inr x,v,h=>by
  have⟨t,e⟩:=Value.isStrOf_shape (x:=x) (v:=v) h;erw[.inr ⟨x,t,rfl,e⟩]
def RE(i:Int)(t:Tok):VS (.inl i) (.int i t)=wf:=by simp[VS,Value.isInt]
def RF(x:Str)(t:Tok):VS (.inr x) (.str x t)=wf:=by simp[VS,Value.isStrOf]
def RG(a b:Int):decide ((Vh a:Key)=Vh b)=(a==b):=by
 by_cases e:a=b
 .subst e;simp
 .have h:¬(Vh a:Key)=Vh b:=λq=>e (Sum.inl.inj q);rw[decide_eq_false h];erw[(beq_eq_false_iff_ne.mpr e).symm]
def RI(a b:Str):decide ((Xn a:Key)=Xn b)=decide (a=b):=by
 by_cases e:a=b
 .subst e;simp
 .have h:¬(Xn a:Key)=Xn b:=λq=>e (Vk q);rw[decide_eq_false h,decide_eq_false e]
def RJ(a:Int)(b:Str):decide ((Vh a:Key)=Xn b)=wg:=decide_eq_false (λq=>nomatch q)
def RK(a:Str)(b:Int):decide ((Xn a:Key)=Vh b)=wg:=decide_eq_false (λq=>nomatch q)
def YA(l:Xr)(w:Xm):PySem.KeyKind l w Key where
 is:=VS
 hash:=keyH w
 inj:=λv a b g m=>by
  rcases _X g with⟨i,t,rfl,rfl⟩|⟨x,t,rfl,rfl⟩
  .rcases _X m with⟨j,u,rfl,e⟩|⟨y,u,rfl,e⟩
   .injection e with e1 _;rw[e1]
   .erw[nomatch e]
  .rcases _X m with⟨j,u,rfl,e⟩|⟨y,u,rfl,e⟩
   .erw[nomatch e]
   .injection e with e1 _;rw[e1]
 byValue:=λk v h=>by
  rcases _X h with⟨i,t,rfl,rfl⟩|⟨x,t,rfl,rfl⟩<;>rfl
 pyHash:=λz h=>by
  rcases _X z with⟨i,t,rfl,rfl⟩|⟨x,t,rfl,rfl⟩
  .erw[wpAny_pyHash_int h]
  .erw[wpAny_pyHash_str h]
 eqBool:=λd z h=>by
  rcases _X d with⟨i,t,rfl,rfl⟩|⟨x,t,rfl,rfl⟩
  .rcases _X z with⟨j,u,rfl,rfl⟩|⟨y,u,rfl,rfl⟩
   .rw[RG]at h;erw[wpAny_eqBool_int h]
   .rw[RJ]at h;erw[Gw i t y u _ _ _ _ h]
  .rcases _X z with⟨j,u,rfl,rfl⟩|⟨y,u,rfl,rfl⟩
   .rw[RK]at h;erw[Gx x t j u _ _ _ _ h]
   .rw[RI]at h;erw[wpAny_eqBool_str h]
 «strs»:=λk x t v h=>by
  rcases _X h with⟨i,u,rfl,e⟩|⟨y,u,rfl,e⟩
  .erw[nomatch e]
  .injection e with e1 _;subst e1;cases v<;>rfl
def RL(j:Xr)(w:Xm)(i:Int)(t:Tok):(YA j w).is (.inl i) (.int i t)=wf:=RE i t
def RN(j:Xr)(w:Xm)(x:Str)(t:Tok):(YA j w).is (.inr x) (.str x t)=wf:=RF x t
inductive V where
 |non|bl (b:Bool)|int (i:Int)|str (x:Str)|byt (b:Array UInt8)|flt (b:UInt64)|ref (a:Addr)|ty (n:String)
  deriving DecidableEq
def RelV:V->X0->Prop
 |.non,u=>u=UM
 |.bl b,u=>u=UN b
 |.int i,u=>∃t,u=VI i t
 |.str x,u=>∃t,u=Z8 x t
 |.byt b,u=>∃t,u=Value.bytes b t
 |.flt b,u=>∃t,u=Bx b t
 |.ref a,u=>u=XC a
 |.ty n,u=>u=ZG n
abbrev Vals:List V->List X0->Prop:=Paired RelV
theorem Vals.length(r:Vals xs us):xs.length=us.length:=Paired.length r
theorem Vals.get:∀{xs:List V} {us:List X0} {i:Nat} {x:V},Vals xs us->xs[i]?=wc x->∃u,us[i]?=wc u/\RelV x u
 |_,_,_,_,.nil,e=>by simp at e
 |_,_,0,_,.cons r _,e=>by simp at e;subst e;erw[⟨_,rfl,r⟩]
 |_,_,i+1,x,.cons _ t,e=>by
  have⟨u,j,l⟩:=Vals.get (i:=i) (x:=x) t (by simpa using e)
  erw[⟨u,by simpa using j,l⟩]
theorem Vals.set(r:RelV x u):∀{xs:List V} {us:List X0} (i:Nat),Vals xs us->Vals (xs.set i x) (us.set i u)
 |_,_,_,.nil=>.nil
 |_,_,0,.cons _ t=>.cons r t
 |_,_,i+1,.cons q t=>.cons q (Vals.set r i t)
theorem Vals.append:∀{xs j:List V} {us ws:List X0},Vals xs us->Vals j ws->Vals (xs++j) (us++ws)
 |_,_,_,_,.nil,s=>s
 |_,_,_,_,.cons r t,s=>.cons r (Vals.append t s)
theorem Vals.take:∀{xs:List V} {us:List X0} (n:Nat),Vals xs us->Vals (xs.take n) (us.take n)
 |_,_,0,_=>.nil
 |_,_,_+1,.nil=>.nil
 |_,_,n+1,.cons r t=>.cons r (Vals.take n t)
theorem Vals.drop:∀{xs:List V} {us:List X0} (n:Nat),Vals xs us->Vals (xs.drop n) (us.drop n)
 |_,_,0,r=>r
 |_,_,_+1,.nil=>.nil
 |_,_,n+1,.cons _ t=>Vals.drop n t
def RelO:Option V->Option X0->Prop
 |wc v,wc u=>RelV v u
 |we,we=>True
 |_,_=>False
def KV{j:Type}:List (j×V)->List (j×X0)->Prop:=Paired fun(p:j×V) (q:j×X0)=>p.1=q.1/\RelV p.2 q.2
def kV:Key->V
 |.inl i=>.int i
 |.inr x=>.str x
inductive HO where
 |lst (xs:List V)
 |tup (xs:List V)
 |dK (kvs:List (Key×V))|dT (kvs:List (List Key×V))
 |set (S:Int->Bool)(n:Nat)
 |ins (C dx:Addr)(fs:List (Str×V))
 |own (x:Addr)
 |xd (fs:List (Str×V))
 |met (f x:Addr)
 |rng (lo hi:Int)
 |frz (o:Obj)(u:HO)
 |tbl (ps:Array X0)
 |ext (φ:Heap->Prop)
noncomputable abbrev Hp:=Addr->Option HO
noncomputable def upd(H:Hp)(a:Addr)(o:HO):Hp:=λb=>if b=a then wc o else H b
def _I{H:Hp}{a:Addr}{o:HO}:upd H a o a=wc o:=by unfold upd;rw[if_pos rfl]
def XE{H:Hp}{a b:Addr}{o:HO}(h:b≠a):upd H a o b=H b:=by unfold upd;rw[if_neg h]
def GD{H:Hp}{a b:Addr}{o u:HO}(h:H a=wc o)(j:H b=wc u)(d:o≠u):a≠b:=by
 intro e;subst e;rw[h]at j;erw[d (Y2 j)]
def Vl{H:Hp}{a b:Addr}{o:HO}(h:H a=wc o)(j:H b=we):a≠b:=by
 intro e;subst e;rw[h]at j;cases j
section
variable(P:Xr)(w:Xm)
def ObjOk(H:Hp)(h:Heap)(a:Addr):HO->Prop
 |.lst l=>l.length<=sizeLine/\∃(j:List X0) (n:Nat),Vals l j/\h.get? a=wc {cls:=.type "list",data:=.seq j.toArray n}
 |.tup l=>l.length<=sizeLine/\∃j:List X0,Vals l j/\IsTup h a j.toArray/\∃o,h.get? a=wc o/\o.dict=we
 |.dK kvs=>kvs.length<=sizeLine/\(a==YN)=wg/\∃z,KV kvs z/\h.DictOf (YA P w) a z
 |.dT kvs=>kvs.length<=sizeLine/\(a==YN)=wg/\∃l:List (List Key×Addr×X0),
   Paired (fun(p:List Key×V) (q:List Key×Addr×X0)=>p.1=q.1/\H q.2.1=wc (.tup (p.1.map kV))/\RelV p.2 q.2.2) kvs l/\
   ∃o m c,h.get? a=wc o/\o.ExactDict/\o.data=.dict m c/\m.toList=l.map (entryOfKey (tupleKind (YA P w)))/\(l.map (·.1)).Nodup
 |.set S n=>h.SetOf (intKind P w) a S n
 |.ins C dx fs=>H dx=wc (.own a)/\fs.length<=1000/\dx≠a/\h.get? a=wc (UI C dx)/\
   ∃y,h.Ns1 dx y/\(∀f,RelO (fs.lookup f) (y f))/\Dx y (fs.map (·.1))
 |.own _=>∃o,h.get? a=wc o
 |.xd fs=>∃y,h.Ns1 a y/\∀f,RelO (fs.lookup f) (y f)
 |.rng lo hi=>∃t u v,h.get? a=wc {cls:=.type "range",data:=.fields #[.int lo t,.int hi u,.int 1 v]}
 |.frz o u=>h.get? a=wc o/\ObjOk H h a u
 |.tbl ps=>h.get? a=wc {cls:=.none,data:=.fields ps}
 |.met f x=>h.get? a=wc (Dh (.ref f) (.ref x))
 |.ext φ=>φ h/\(∃o,h.get? a=wc o)/\∀g d:Heap,φ g->(∀o,g.get? a=wc o->d.get? a=wc o)->φ d
def HOk(H:Hp)(h:Heap):Prop:=∀a o,H a=wc o->ObjOk P w H h a o
end
section
variable{P:Xr}{w:Xm}{H H':Hp}{h h':Heap}{a:Addr}{o:HO}
theorem ObjOk.lt(x:ObjOk P w H h a o):a<h.objs.size:=by
 cases o with
 |lst l=>have⟨_,_,_,_,e⟩:=x;erw[Xu e]
 |tup l=>have⟨_,_,_,p⟩:=x;erw[p.1.lt]
 |dK j=>have⟨_,_,_,_,o,_,_,e,_⟩:=x;erw[Xu e]
 |dT j=>have⟨_,_,_,_,o,_,_,e,_⟩:=x;erw[Xu e]
 |set S n=>have⟨o,_,_,_,e,_⟩:=x;erw[Xu e]
 |ins C z fs=>have⟨_,_,_,e,_⟩:=x;erw[Xu e]
 |own y=>have⟨_,e⟩:=x;erw[Xu e]
 |xd fs=>have⟨_,⟨_,_,_,e,_⟩,_⟩:=x;erw[Xu e]
 |rng lo m=>have⟨_,_,_,e⟩:=x;erw[Xu e]
 |frz g u=>have⟨e,_⟩:=x;erw[Xu e]
 |tbl d=>erw[Xu (show h.get? a=wc _ from x)]
 |met f y=>erw[Xu (show h.get? a=wc _ from x)]
 |ext c=>have⟨_,⟨_,e⟩,_⟩:=x;erw[Xu e]
theorem Paired.mapP{u y:Type}{F G:u->y->Prop}:∀{j:List u} {l:List y},Paired F j l->(∀a b,F a b->G a b)->Paired G j l
 |_,_,.nil,_=>.nil
 |_,_,.cons r t,f=>.cons (f _ _ r) (Paired.mapP t f)
def ObjOk.stay(x:ObjOk P w H h a o)(k:∀b u,(b=a\/H b=wc (.own a))->h.get? b=wc u->h'.get? b=wc u)
  (U:∀b,H b=wc (.own a)->H' b=wc (.own a))(W:∀b xs,H b=wc (.tup xs)->H' b=wc (.tup xs)):ObjOk P w H' h' a o:=by
 induction o with
 |lst xs=>have⟨z,g,n,r,e⟩:=x;erw[⟨z,g,n,r,k _ _ (.inl rfl) e⟩]
 |tup xs=>have⟨z,g,r,⟨j,e,c⟩,Y,L,Z⟩:=x;erw[⟨z,g,r,⟨j,k _ _ (.inl rfl) e,c⟩,Y,k _ _ (.inl rfl) L,Z⟩]
 |dK N=>have⟨z,y,A,r,j,l,m,e,c⟩:=x;erw[⟨z,y,A,r,j,l,m,k _ _ (.inl rfl) e,c⟩]
 |dT N=>
  have⟨z,y,xs,r,j,l,m,e,c⟩:=x;erw[⟨z,y,xs,Paired.mapP r λp q z=>⟨z.1,W _ _ z.2.1,z.2.2⟩,j,l,m,k _ _ (.inl rfl) e,c⟩]
 |set S n=>have⟨j,l,m,t,e,c⟩:=x;erw[⟨j,l,m,t,k _ _ (.inl rfl) e,c⟩]
 |ins C E fs=>
  have⟨d,z,B,e,O,⟨R,l,m,L,c⟩,r⟩:=x;erw[⟨U _ d,z,B,k _ _ (.inl rfl) e,O,⟨R,l,m,k _ _ (.inr d) L,c⟩,r⟩]
 |own y=>have⟨j,e⟩:=x;erw[⟨j,k _ _ (.inl rfl) e⟩]
 |xd fs=>have⟨O,⟨R,l,m,e,c⟩,r⟩:=x;erw[⟨O,⟨R,l,m,k _ _ (.inl rfl) e,c⟩,r⟩]
 |rng lo F=>have⟨t,u,v,e⟩:=x;erw[⟨t,u,v,k _ _ (.inl rfl) e⟩]
 |frz j u D=>have⟨e,q⟩:=x;erw[⟨k _ _ (.inl rfl) e,D q⟩]
 |tbl T=>
  have e:h.get? a=wc {cls:=.none,data:=.fields T}:=x;show h'.get? a=wc {cls:=.none,data:=.fields T};erw[k a _ (.inl rfl) e]
 |met f y=>
  have e:h.get? a=wc (Dh (.ref f) (.ref y)):=x;show h'.get? a=wc (Dh (.ref f) (.ref y));erw[k a _ (.inl rfl) e]
 |ext G=>have⟨p,⟨o,e⟩,st⟩:=x;erw[⟨st _ _ p λo q=>k _ _ (.inl rfl) q,⟨o,k _ _ (.inl rfl) e⟩,st⟩]
theorem HOk.lt(x:HOk P w H h)(e:H a=wc o):a<h.objs.size:=(x a o e).lt
def HOk.fresh(x:HOk P w H h)(e:h.objs.size<=a):H a=we:=by
 cases q:H a with
 |none=>rfl
 |some u=>erw[absurd (Yz (x.lt q) e) (ZE _)]
def HOk.kept(x:HOk P w H h)(k:∀b u,h.get? b=wc u->h'.get? b=wc u):HOk P w H h':=λa o e=>
 (x a o e).stay (λb u _ q=>k b u q) (λ_ q=>q) λ_ _ q=>q
def HOk.laid(x:HOk P w H h)(k:∀b u,h.get? b=wc u->h'.get? b=wc u)(l:h.objs.size<=a)(new:ObjOk P w (upd H a o) h' a o):HOk P w (upd H a o) h':=λb u e=>by
 have j:=x.fresh l;by_cases hb:b=a
 .subst hb;rw[_I]at e;cases e;erw[new]
 .rw[XE hb]at e;erw[(x b u e).stay (λc v _ q=>k c v q) (λc q=>by rw[XE (Vl q j)];erw[q]) λc y q=>by rw[XE (Vl q j)];erw[q]]
end
def Rd(H:Hp)(a:Addr)(u:HO):Prop:=H a=wc u\/∃o,H a=wc (.frz o u)
def Rd.ok(r:Rd H a u)(x:HOk P w H h):ObjOk P w H h a u:=by
 rcases r with r|⟨o,r⟩
 .erw[x a u r]
 .have⟨_,q⟩:=x a _ r;erw[q]
def Mut:Option HO->Prop
 |wc (.lst _)=>True
 |wc (.dK _)=>True
 |wc (.dT _)=>True
 |wc (.set _ _)=>True
 |wc (.ins _ _ _)=>True
 |wc (.ext _)=>True
 |_=>False
section
variable{P:Xr}{w:Xm}{H:Hp}{h h':Heap}{x e:Addr}{o':HO}
def HOk.write(ok:HOk P w H h)(m:Mut (H x))(p:e=x\/H e=wc (.own x))(k:∀b u,b≠e->h.get? b=wc u->h'.get? b=wc u)(f:∃u,h'.get? e=wc u)
  (new:ObjOk P w (upd H x o') h' x o'):HOk P w (upd H x o') h':=λb u q=>by
 have j:∀c y,H c=wc (.own y)->c≠x:=λc y r z=>by subst z;rw[r]at m;erw[m]
 have l:∀c g,H c=wc (.tup g)->c≠x:=λc g r z=>by subst z;rw[r]at m;erw[m]
 by_cases hb:b=x
 .subst hb;rw[_I]at q;cases q;erw[new]
 .rw[XE hb]at q;by_cases hbe:b=e
  .have L:H b=wc (.own x):=by
    rcases p with z|z
    .erw[absurd (hbe.trans z) hb]
    .rw[hbe];erw[z]
   rw[q]at L;cases L;have⟨v,N⟩:=f;erw[⟨v,by rw[hbe];erw[N]⟩]
  .erw[(ok b u q).stay (λc v d r=>k c v ?_ r) (λc r=>by rw[XE (j c b r)];erw[r]) λc g r=>by rw[XE (l c g r)];erw[r]]
   rcases d with rfl|d
   .erw[hbe]
   .rintro rfl;rcases p with z|z
    .erw[j c b d z]
    .rw[d]at z;cases z;erw[hb rfl]
end
structure Un (fs ex:List Addr)(H H':Hp)(h h':Heap):Prop where
 keep:∀b o,h.get? b=wc o->H b=we->b∉fs->b∉ex->h'.get? b=wc o
 slot:∀b o,h.get? b=wc o->H b=we->b∈fs->b∉ex->∃sl,h'.get? b=wc {o with slots:=sl}
 free:∀b o,h.get? b=wc o->H b=we->b∉ex->H' b=we
 there:∀b o,h.get? b=wc o->b∉ex->∃o',h'.get? b=wc o'
 tups:∀b xs,H b=wc (.tup xs)->H' b=wc (.tup xs)
 frzs:∀b o u,H b=wc (.frz o u)->H' b=wc (.frz o u)
 tbls:∀b ps,H b=wc (.tbl ps)->∃more,H' b=wc (.tbl (ps++more))
section
variable{fs fs' ex ex':List Addr}{H H1 H2:Hp}{h h1 h2 h':Heap}{a x e:Addr}{o:HO}
def Un.any(u:Un fs ex H H1 h h1)(q:h.get? b=wc ob)(n:H b=we)(j:b∉ex):∃l,h1.get? b=wc {ob with slots:=l}:=by
 by_cases hb:b∈fs
 .erw[u.slot b ob q n hb j]
 .erw[⟨ob.slots,u.keep b ob q n hb j⟩]
def Un.kept(k:∀b u,h.get? b=wc u->h'.get? b=wc u):Un fs ex H H h h':=
 ⟨λb j q _ _ _=>k b j q,λb j q _ _ _=>⟨j.slots,k b j q⟩,λ_ _ _ n _=>n,λb j q _=>⟨j,k b j q⟩,λ_ _ q=>q,λ_ _ _ q=>q,λ_ l q=>⟨#[],by rw[q];simp⟩⟩
def Un.refl:Un fs ex H H h h:=Un.kept λ_ _ q=>q
def Un.laid(k:∀b u,h.get? b=wc u->h'.get? b=wc u)(l:h.objs.size<=a)(j:H a=we):Un fs ex H (upd H a o) h h' where
 keep:=λb u q _ _ _=>k b u q
 slot:=λb u q _ _ _=>⟨u.slots,k b u q⟩
 free:=λb u q n _=>by rw[XE (XG (Yz (Xu q) l))];erw[n]
 there:=λb u q _=>⟨u,k b u q⟩
 tups:=λb w q=>by rw[XE (Vl q j)];erw[q]
 frzs:=λb u w q=>by rw[XE (Vl q j)];erw[q]
 tbls:=λb y q=>⟨#[],by rw[XE (Vl q j),q];simp⟩
def Un.write(j:Mut (H x))(g:e=x\/H e=wc (.own x))(k:∀b u,b≠e->h.get? b=wc u->h'.get? b=wc u)(l:∃u,h'.get? e=wc u):Un fs ex H (upd H x o) h h':=by
 have y:∀b,H b=we->b≠x:=λb n z=>by subst z;rw[n]at j;erw[j]
 have m:∀b,H b=we->b≠e:=λb n z=>by
  subst z;rcases g with r|r
  .erw[y b n r]
  .rw[n]at r;cases r
 have w:∀b u,H b=wc u->¬Mut (wc u)->b≠x:=λb u q d z=>by subst z;rw[q]at j;erw[d j]
 erw[⟨λb u q n _ _=>k b u (m b n) q,λb u q n _ _=>⟨u.slots,k b u (m b n) q⟩,λb u q n _=>by rw[XE (y b n)];erw[n],λb u q _=>?_,
  λb c q=>by rw[XE (w b _ q λz=>z)];erw[q],λb u c q=>by rw[XE (w b _ q λz=>z)];erw[q],λb f q=>⟨#[],by rw[XE (w b _ q λz=>z),q];simp⟩⟩]
 by_cases hbe:b=e
 .subst hbe;erw[l]
 .erw[⟨u,k b u hbe q⟩]
end
noncomputable def trk(h:Heap)(H:Hp):List Addr:=(Xq h.objs.size).filter λa=>(H a).isSome
def hidT(h:Heap)(H:Hp):Heap:=PySem.W.hideAll h (trk h H)
def RP(h:Heap)(H:Hp):(hidT h H).objs.size=h.objs.size:=PySem.W.hideAll_size _ _
def RQ(e:h.get? b=wc o)(n:H b=we):(hidT h H).get? b=wc o:=
 PySem.W.hideAll_get _ e λj=>by
  have q:(H b).isSome=wf:=(Da.mp j).2;rw[n]at q;simp at q
def RT(e:(hidT h H).get? b=wc o):h.get? b=wc o/\H b=we:=by
 have j:h.get? b=wc o:=PySem.W.of_hideAll (trk h H) e;erw[⟨j,?_⟩];cases q:H b with
 |none=>rfl
 |some x=>
  have l:b∈trk h H:=Da.mpr ⟨Zl.mpr (Xu j),by simp[q]⟩
  have z:(hidT h H).get? b=we:=PySem.W.hideAll_none (trk h H) l;rw[z]at e;cases e
noncomputable def RU(g h:Heap)(L:Addr):List (Addr×Obj):=(Xq h.objs.size).filterMap λa=>if a=L\/(g.get? a).isSome=wf then we else(h.get? a).map λo=>(a,o)
def rest(g h:Heap)(L d:Addr):List (Addr×Obj):=(RU g h L).filter λp=>decide (p.1≠d)
structure Mod (K:X3)(mg:Str->Option X0)(base:Heap):Prop where
 kin:K.In base
 glob:base.Ns Xp mg
 blt:∃mb,base.Ns builtinsNs mb/\∀x:Str,x≠"__name__"->mb x=YE x
 nolimit:base.NoLimit
structure Cx where
 prog:Xr
 w:Xm
 K:X3
 mg:Str->Option X0
 base:Heap
 A:Xw
 N:List Str
 s₀:X1
 H₀:Hp
 env:Env
 outer:List Env
 stack:List Env
 ex:List Addr
 fn:Str->Bool
 calm:Bool
 pn:List (Addr×Obj)
 xe:X0->X1->Prop
noncomputable def frs(l:List Env):List Addr:=l.filterMap (·.frame)
abbrev Cx.fs(X:Cx):List Addr:=frs X.outer
def Vis(j:Scope)(x:Str):Prop:=j.names.lookup x=wc .local\/j.names.lookup x=wc .cell\/j.names.lookup x=wc .free
def Loc(j:Scope)(x:Str):Prop:=j.names.lookup x=wc .local\/j.names.lookup x=wc .cell
def Look(j:Env)(h:Heap)(m:Str->Option X0)(x:Str)(u:X0):Prop:=
 (j.kindOf x=wc .local/\m x=wc u)\/((j.kindOf x=wc .cell\/j.kindOf x=wc .free)/\∃c,j.cells.lookup x=wc c/\h.IsCell c (wc u))
structure Cx.Ok (X:Cx):Prop where
 mod:Mod X.K X.mg X.base
 kind:X.env.scope.kind=.function
 glob:X.env.globals=Xp
 blt:X.env.builtins=builtinsNs
 above:X.s₀.heap.objs.size<=X.env.locals
 inj:∀x y c,X.env.cells.lookup x=wc c->X.env.cells.lookup y=wc c->x=y
 has:∀x,(X.env.kindOf x=wc .cell\/X.env.kindOf x=wc .free)->∃c,X.env.cells.lookup x=wc c
 cab:∀x c,X.fn x=wf->X.env.cells.lookup x=wc c->X.s₀.heap.objs.size<=c
 hd:X.calm=wf->X.A.handled=we
 frames:X.A.frames=wc X.stack
 stk:X.stack=X.outer\/(X.stack=X.env::X.outer/\X.env.frame=wc X.env.locals)
 exf:∀b∈X.ex,b≠X.env.locals/\∀x c,X.env.cells.lookup x=wc c->c≠b
 bs:∀b o,X.base.get? b=wc o->X.s₀.heap.get? b=wc o/\X.H₀ b=we
 bsz:X.base.objs.size<=X.s₀.heap.objs.size
 noex:∀b o,X.base.get? b=wc o->b∉X.ex
 exfs:∀b∈X.ex,b∉X.fs
 funs:X.s₀.heap.FunFrames X.base X.outer
 frf:∀b∈X.fs,X.H₀ b=we
structure Inv (X:Cx)(pq:List (Addr×Obj))(σ:List (Option V))(H:Hp)(s:X1):Prop where
 ok:X.Ok
 os:s.os=X.s₀.os
 bare:AllBare s.gens
 base:Un X.fs X.ex X.H₀ H X.s₀.heap s.heap
 loc:∃m,s.heap.Ns X.env.locals m/\∀(i:Nat)(x:Str)(v:V),X.N[i]?=wc x->σ[i]?=wc (wc v)->Vis X.env.scope x->∃u,RelV v u/\Look X.env s.heap m x u
 cell:∀x c,X.env.cells.lookup x=wc c->∃v,s.heap.IsCell c v
 free:H X.env.locals=we
 freeC:∀x c,X.env.cells.lookup x=wc c->H c=we
 pin:∀p∈X.pn++pq,s.heap.get? p.1=wc p.2/\H p.1=we/\p.1≠X.env.locals/\p.1∉X.fs/\∀v,p.2.data≠.cell v
 hok:HOk X.prog X.w H s.heap
 len:σ.length=X.N.length
section
variable{X:Cx}{pq:List (Addr×Obj)}{σ:List (Option V)}{H H':Hp}{s:X1}{h':Heap}
def Cx.Ok.nofr(ok:X.Ok)(e:X.base.get? b=wc o):b∉X.fs:=λj=>by
 have:=(ok.funs.mem j).1;rw[e]at this;cases this
theorem Inv.bs(I:Inv X pq σ H s):∀b o,X.base.get? b=wc o->s.heap.get? b=wc o/\H b=we:=λb o e=>
 ⟨I.base.keep b o (I.ok.bs b o e).1 (I.ok.bs b o e).2 (I.ok.nofr e) (I.ok.noex b o e),I.base.free b o (I.ok.bs b o e).1 (I.ok.bs b o e).2 (I.ok.noex b o e)⟩
def Inv.bk(I:Inv X pq σ H s):∀b o,X.base.get? b=wc o->s.heap.get? b=wc o:=λb o e=>(I.bs b o e).1
theorem Inv.mod(I:Inv X pq σ H s):Mod X.K X.mg X.base:=I.ok.mod
def Inv.kIn(I:Inv X pq σ H s):X.K.In s.heap:=I.ok.mod.kin.keeps I.bk
theorem Inv.lt(I:Inv X pq σ H s):X.env.locals<s.heap.objs.size:=let⟨_,hn,_⟩:=I.loc;hn.lt
def Inv.sz(I:Inv X pq σ H s):X.s₀.heap.objs.size<=s.heap.objs.size:=Xy I.ok.above (ZF I.lt)
def Inv.nofs(I:Inv X pq σ H s)(h:s.heap.objs.size<=a):a∉X.fs:=λj=>by
 have⟨_,o,l,_⟩:=I.ok.funs.mem j;erw[absurd (Yz (Xu l) (Xy I.sz h)) (ZE _)]
def Inv.cne(I:Inv X pq σ H s):∀x c,X.env.cells.lookup x=wc c->c≠X.env.locals:=λx c e z=>by
 have⟨v,o,u,hd⟩:=I.cell x c e;have⟨m,⟨w,y,g,j,l,_⟩,_⟩:=I.loc;rw[z,j]at u;cases u;rw[l]at hd;cases hd
theorem Inv.funs(I:Inv X pq σ H s):s.heap.FunFrames X.base X.outer:=by
 have all:∀(l:List Env),(∀b∈frs l,b∈X.fs)->X.s₀.heap.FunFrames X.base l->s.heap.FunFrames X.base l:=by
  intro l
  induction l with
  |nil=>intro _ _;trivial
  |cons m r g=>
   intro y d;have⟨c,⟨L,o,j,f,q,hd⟩,p⟩:=d;have u:L∈X.fs:=y L (by unfold frs;rw[D3,j];erw[Y3])
   have⟨N,e⟩:=I.base.slot L o q (I.ok.frf L u) u λz=>I.ok.exfs L z u;erw[⟨c,⟨L,_,j,f,e,hd⟩,g (λb w=>y b (by unfold frs;rw[D3,j];erw[XJ _ w])) p⟩]
 erw[all X.outer (λ_ w=>w) I.ok.funs]
theorem Inv.stack(I:Inv X pq σ H s):s.heap.FunFrames X.base X.stack:=by
 rcases I.ok.stk with e|⟨e,j⟩
 .rw[e];erw[I.funs]
 .rw[e];have⟨m,l,_⟩:=I.loc;erw[.cons (by rw[I.ok.kind];decide) j l ?_ I.funs]
  erw[Heap.get?_none_of_le (Xy I.ok.bsz I.ok.above)]
def Inv.stkSub(I:Inv X pq σ H s):∀b∈frs X.stack,b∈X.env.locals::X.fs:=λb j=>by
 rcases I.ok.stk with e|⟨e,l⟩
 .rw[e]at j;erw[XJ _ j]
 .rw[e]at j;unfold frs at j;rw[D3,l]at j;erw[j]
def Inv.stkFree(I:Inv X pq σ H s):∀b∈frs X.stack,H b=we:=λb j=>by
 rcases Xk.mp (I.stkSub b j)with e|j
 .rw[e];erw[I.free]
 .have⟨_,o,l,_⟩:=I.ok.funs.mem j;erw[I.base.free b o l (I.ok.frf b j) λz=>I.ok.exfs b z j]
def Inv.step{M:Array GenState}{a:Nat}{d':Drawn}{N:List Addr}(I:Inv X pq σ H s)
  (w:∀b∈N,(b∈X.ex\/X.s₀.heap.objs.size<=b)/\b≠X.env.locals/\(∀x c,X.env.cells.lookup x=wc c->c≠b)/\∀p∈X.pn++pq,p.1≠b)
  (keep:∀b o,b≠X.env.locals->b∉X.fs->b∉N->s.heap.get? b=wc o->H b=we->h'.get? b=wc o)
  (O:∀b o,b≠X.env.locals->b∈X.fs->b∉N->s.heap.get? b=wc o->H b=we->∃F,h'.get? b=wc {o with slots:=F})(free:∀b o,b∉N->s.heap.get? b=wc o->H b=we->H' b=we)
  (R:∀b o,b∉N->s.heap.get? b=wc o->∃W,h'.get? b=wc W)
  (Y:∀b P,H b=wc (.tup P)->H' b=wc (.tup P))(Z:∀b o u,H b=wc (.frz o u)->H' b=wc (.frz o u))(A:∀b E,H b=wc (.tbl E)->∃B,H' b=wc (.tbl (E++B)))
  (ns:∀m,s.heap.Ns X.env.locals m->h'.Ns X.env.locals m)(G:HOk X.prog X.w H' h')(hg:AllBare M):
  Inv X pq σ H' {s with heap:=h',gens:=M,drawn:=d',toks:=a}:=by
 have C:∀b o,X.s₀.heap.get? b=wc o->b≠X.env.locals:=λb o e=>XG (Yz (Xu e) I.ok.above);have f:∀b o,X.s₀.heap.get? b=wc o->b∉X.ex->b∉N:=λb o e j T=>by
  rcases(w b T).1 with z|z
  .erw[j z]
  .erw[absurd (Yz (Xu e) z) (ZE _)]
 have y:∀x c,X.env.cells.lookup x=wc c->∀v,s.heap.IsCell c v->h'.IsCell c v:=λx c e v ⟨o,U,hd⟩=>by
  have g:c∉N:=λz=>(w c z).2.2.1 x c e rfl;by_cases hc:c∈X.fs
  .have⟨F,q⟩:=O c o (I.cne x c e) hc g U (I.freeC x c e);erw[⟨_,q,hd⟩]
  .erw[⟨o,keep c o (I.cne x c e) hc g U (I.freeC x c e),hd⟩]
 erw[⟨I.ok,I.os,hg,⟨λb o e n T j=>?_,λb o e n T j=>?_,λb o e n j=>?_,λb o e j=>?_,λb P e=>Y b P (I.base.tups b P e),λb o P e=>Z b o P (I.base.frzs b o P e),λb E e=>?_⟩,?_,λx c e=>?_,?_,λx c e=>?_,λp Q=>?_,G,I.len⟩]
 .erw[keep b o (C b o e) T (f b o e j) (I.base.keep b o e n T j) (I.base.free b o e n j)]
 .have⟨F,L⟩:=I.base.slot b o e n T j;have⟨J,D⟩:=O b _ (C b o e) T (f b o e j) L (I.base.free b o e n j);erw[⟨J,D⟩]
 .have⟨W,L⟩:=I.base.there b o e j;erw[free b W (f b o e j) L (I.base.free b o e n j)]
 .have⟨W,L⟩:=I.base.there b o e j;erw[R b W (f b o e j) L]
 .have⟨m1,L⟩:=I.base.tbls b E e;have⟨m2,D⟩:=A b _ L;erw[⟨m1++m2,by rw[D,Array.append_assoc]⟩]
 .have⟨m,hn,hl⟩:=I.loc;erw[⟨m,ns m hn,λi x v L D e3=>?_⟩];have⟨u,r,l⟩:=hl i x v L D e3;erw[⟨u,r,?_⟩];rcases l with l|⟨k,c,e,z⟩
  .erw[.inl l]
  .erw[.inr ⟨k,c,e,y x c e _ z⟩]
 .have⟨v,z⟩:=I.cell x c e;erw[⟨v,y x c e v z⟩]
 .have⟨m,⟨o,_,_,U,_⟩,_⟩:=I.loc;erw[free _ o (λz=>(w _ z).2.1 rfl) U I.free]
 .have⟨v,o,U,hd⟩:=I.cell x c e;erw[free c o (λz=>(w c z).2.2.1 x c e rfl) U (I.freeC x c e)]
 .have⟨e,n,S,h,d⟩:=I.pin p Q;have g:p.1∉N:=λz=>(w p.1 z).2.2.2 p Q rfl;erw[⟨keep p.1 p.2 S h g e n,free p.1 p.2 g e n,S,h,d⟩]
def Inv.un{c:Nat}(I:Inv X pq σ H s)(u:Un X.fs [] H H' s.heap h')(l:HOk X.prog X.w H' h'):Inv X pq σ H' {s with heap:=h',toks:=c}:=by
 have⟨m,⟨o,L,N,d,r⟩,_⟩:=id I.loc;have⟨O,f⟩:=u.any d I.free (by simp)
 erw[I.step (M:=s.gens) (d':=s.drawn) (N:=[]) (λ_ z=>nomatch z) (λb o _ w _ e n=>u.keep b o e n w (by simp)) (λb o _ w _ e n=>u.slot b o e n w (by simp)) (λb o _ e n=>u.free b o e n (by simp)) (λb o _ e=>u.there b o e (by simp)) u.tups u.frzs u.tbls (λP q=>by
  have⟨R,y,g,j,p⟩:=q;rw[d]at j;cases j;erw[⟨_,y,g,f,p⟩]) l I.bare]
def Inv.call{L:Array GenState}{O:Nat}{P:Drawn}{y:List Addr}(I:Inv X pq σ H s)(u:Un (frs X.stack) y H H' s.heap h')(g:HOk X.prog X.w H' h')(R:AllBare L)
  (l:∀b∈y,(b∈X.ex\/X.s₀.heap.objs.size<=b)/\b≠X.env.locals/\(∀x c,X.env.cells.lookup x=wc c->c≠b)/\∀p∈X.pn++pq,p.1≠b):
  Inv X pq σ H' {s with heap:=h',gens:=L,drawn:=P,toks:=O}:=by
 have⟨m,⟨o,Y,Z,N,r⟩,_⟩:=id I.loc;have⟨A,d⟩:=u.any N I.free λz=>(l _ z).2.1 rfl;erw[I.step (N:=y) l (λb o d T j e n=>u.keep b o e n (λz=>(Xk.mp (I.stkSub b z)).elim d T) j) (λb o _ _ j e n=>u.any e n j) (λb o j e n=>u.free b o e n j) (λb o j e=>u.there b o e j) u.tups u.frzs u.tbls (λB U=>by
  have⟨C,f,q,w,W⟩:=U;rw[N]at w;cases w;erw[⟨_,f,q,d,W⟩]) g R]
def Inv.turned{g:Nat}{j:Addr}(I:Inv X pq σ H s)(k:∀b o,b≠j->s.heap.get? b=wc o->h'.get? b=wc o)(d:H j=we)(y:j≠X.env.locals)
  (f:j∈X.ex\/X.s₀.heap.objs.size<=j)(L:∀x c,X.env.cells.lookup x=wc c->c≠j)(N:∀p∈X.pn++pq,p.1≠j):Inv X pq σ H {s with heap:=h',toks:=g}:=by
 have w:∀b u,H b=wc u->b≠j:=λb u e z=>by rw[z,d]at e;cases e
 erw[I.step (M:=s.gens) (d':=s.drawn) (N:=[j]) (λb O=>?_) (λb o _ _ l e _=>k b o (λz=>l (by simp[z])) e) (λb o _ _ l e _=>⟨o.slots,k b o (λz=>l (by simp[z])) e⟩) (λ_ _ _ _ n=>n)
  (λb o l e=>⟨o,k b o (λz=>l (by simp[z])) e⟩) (λ_ _ e=>e) (λ_ _ _ e=>e) (λb W e=>⟨#[],by rw[e];simp⟩) (λm P=>?_) (λb u e=>?_) I.bare]
 .have e:b=j:=by simpa using O
  subst e;erw[⟨f,y,L,N⟩]
 .have⟨o,R,T,U,r⟩:=P;erw[⟨o,R,T,k _ o (XW y) U,r⟩]
 .erw[(I.hok b u e).stay (λc v l q=>k c v ?_ q) (λ_ q=>q) λ_ _ q=>q];rcases l with z|z
  .rw[z];erw[w b u e]
  .erw[w c _ z]
def Inv.tok(I:Inv X pq σ H s)(t:Nat):Inv X pq σ H {s with toks:=t}:=I.un (h':=s.heap) (c:=t) Un.refl I.hok
theorem Inv.kept(I:Inv X pq σ H s)(k:∀b u,s.heap.get? b=wc u->h'.get? b=wc u):Inv X pq σ H {s with heap:=h',toks:=t'}:=I.un (Un.kept k) (I.hok.kept k)
theorem Inv.laid(I:Inv X pq σ H s)(k:∀b u,s.heap.get? b=wc u->h'.get? b=wc u)(j:s.heap.objs.size<=a)(new:ObjOk X.prog X.w (upd H a o) h' a o):
  Inv X pq σ (upd H a o) {s with heap:=h',toks:=t'}:=I.un (Un.laid k j (I.hok.fresh j)) (I.hok.laid k j new)
theorem Inv.write(I:Inv X pq σ H s)(l:Mut (H x))(w:e=x\/H e=wc (.own x))(k:∀b u,b≠e->s.heap.get? b=wc u->h'.get? b=wc u)(j:∃u,h'.get? e=wc u)
  (new:ObjOk X.prog X.w (upd H x o) h' x o):Inv X pq σ (upd H x o) {s with heap:=h',toks:=t'}:=I.un (Un.write l w k j) (I.hok.write l w k j new)
def Inv.weak(I:Inv X pq σ H s)(j:σ'.length=σ.length)(w:∀(i:Nat)v,σ'[i]?=wc (wc v)->σ[i]?=wc (wc v)):Inv X pq σ' H s:=
 ⟨I.ok,I.os,I.bare,I.base,let⟨m,hn,hl'⟩:=I.loc;⟨m,hn,λi x v l u y=>hl' i x v l (w i v u) y⟩,I.cell,I.free,I.freeC,I.pin,I.hok,j.trans I.len⟩
def Inv.pins_of(I:Inv X pq σ H s)(h:∀p∈pins',s.heap.get? p.1=wc p.2/\H p.1=we/\p.1≠X.env.locals/\p.1∉X.fs/\∀v,p.2.data≠.cell v):Inv X pins' σ H s:=
 ⟨I.ok,I.os,I.bare,I.base,I.loc,I.cell,I.free,I.freeC,λp j=>(Ye.mp j).elim (λz=>I.pin p (AZ _ z)) (h p),I.hok,I.len⟩
def GE{N:List Str}(l:N.Nodup){i j:Nat}{x:Str}(a:N[i]?=wc x)(b:N[j]?=wc x):i=j:=by
 have⟨y,u⟩:=Xo.mp a;have⟨z,w⟩:=Xo.mp b;erw[(B6 l).mp (u.trans w.symm)]
def GF{M:Model}{A:Xw}{E:X0->X1->Prop}{i:Nat}{x:Str}{v:V}{u:X0}{Q:Unit->X1->Prop}(I:Inv X pq σ H s)(hN:X.N.Nodup)(U:X.N[i]?=wc x)(L:Loc X.env.scope x)(r:RelV v u)
  (h:∀G,Inv X pq (σ.set i (wc v)) H G->(∃a,Ue a s.heap G.heap/\(a=X.env.locals\/X.env.cells.lookup x=wc a))->Q () G)(hf:X.fn x=wf\/X.env.scope.names.lookup x=wc .local:=by first|erw[.inl rfl]|erw[.inr rfl]|assumption):X4 M A (storeName X.env x u) Q E s:=by
 have⟨m,J,hl⟩:=id I.loc;have W:(X.env.scope.kind==.class||(X.env.scope.kind==.module&&X.env.locals != X.env.globals))=wg:=by rw[I.ok.kind];rfl
 have O:i<σ.length:=by rw[I.len];erw[(Xo.mp U).1]
 have cne:=I.cne;have w:∀{a:Addr} {h':Heap},(∃o,s.heap.get? a=wc o/\H a=we)->Ue a s.heap h'->HOk X.prog X.w H h':=fun{a h'} ha l b ob e=>by
  have⟨_,_,cy⟩:=ha;erw[(I.hok b ob e).stay (λc C f q=>(l.2 c ?_).trans q) (λ_ q=>q) λ_ _ q=>q];rintro rfl;rcases f with rfl|f
  .rw[cy]at e;cases e
  .rw[cy]at f;cases f
 rcases L with P|P
 .erw[wpAny_storeName_local P J (λh' S l=>?_) W];have⟨oL,_,_,hoL,_⟩:=id J;erw[h _ ⟨I.ok,I.os,I.bare,⟨λb o e n R L=>?_,λb o e n R L=>?_,I.base.free,λb o e L=>?_,I.base.tups,I.base.frzs,I.base.tbls⟩,⟨_,S,λj y v' g N e3=>?_⟩,λy c e=>?_,I.free,I.freeC,λp hp=>?_,w ⟨oL,hoL,I.free⟩ l,by simpa using I.len⟩ ⟨_,l,.inl rfl⟩]
  .erw[(l.2 b (XG (Yz (Xu e) I.ok.above))).trans (I.base.keep b o e n R L)]
  .have⟨sl,g⟩:=I.base.slot b o e n R L;erw[⟨sl,(l.2 b (XG (Yz (Xu e) I.ok.above))).trans g⟩]
  .have⟨o',g⟩:=I.base.there b o e L;erw[⟨o',(l.2 b (XG (Yz (Xu e) I.ok.above))).trans g⟩]
  .by_cases hj:j=i
   .subst hj;rw[U]at g;cases g;rw[AX O]at N;cases N;erw[⟨u,r,.inl ⟨P,by simp⟩⟩]
   .rw[B3 (XW hj)]at N;have⟨u',r',q⟩:=hl j y v' g N e3;erw[⟨u',r',?_⟩];rcases q with⟨k,e⟩|⟨k,c,e,z⟩
    .erw[.inl ⟨k,?_⟩];have:y≠x:=λe=>hj (GE hN g (e▸U));simp[this,e]
    .erw[.inr ⟨k,c,e,z.sameBut l (cne y c e)⟩]
  .have⟨C,z⟩:=I.cell y c e;erw[⟨C,z.sameBut l (cne y c e)⟩]
  .have⟨e,n,D,nf,d⟩:=I.pin p hp;erw[⟨(l.2 p.1 D).trans e,n,D,nf,d⟩]
 .have T:X.fn x=wf:=by
   rcases hf with z|z
   .erw[z]
   .rw[z]at P;cases P
  have⟨c,f⟩:=I.ok.has x (.inl P);have⟨C,z⟩:=I.cell x c f;erw[wpAny_storeName_cell I.ok.kind P f z (λh' Y l=>?_)];have⟨oc,Z,B⟩:=id z;erw[h {s with heap:=h'} ⟨I.ok,I.os,I.bare,⟨λb o e n R L=>?_,λb o e n R L=>?_,I.base.free,λb o e L=>?_,I.base.tups,I.base.frzs,I.base.tbls⟩,⟨m,J.sameBut l (XW (cne x c f)),λj y v' g N e3=>?_⟩,λy F e=>?_,I.free,I.freeC,λp hp=>?_,w ⟨oc,Z,I.freeC x c f⟩ l,by simpa using I.len⟩ ⟨c,l,.inr f⟩]
  .erw[(l.2 b (XG (Yz (Xu e) (I.ok.cab x c T f)))).trans (I.base.keep b o e n R L)]
  .have⟨sl,g⟩:=I.base.slot b o e n R L;erw[⟨sl,(l.2 b (XG (Yz (Xu e) (I.ok.cab x c T f)))).trans g⟩]
  .have⟨o',g⟩:=I.base.there b o e L;erw[⟨o',(l.2 b (XG (Yz (Xu e) (I.ok.cab x c T f)))).trans g⟩]
  .by_cases hj:j=i
   .subst hj;rw[U]at g;cases g;rw[AX O]at N;cases N;erw[⟨u,r,.inr ⟨.inl P,c,f,Y⟩⟩]
   .rw[B3 (XW hj)]at N;have⟨u',r',q⟩:=hl j y v' g N e3;erw[⟨u',r',?_⟩];rcases q with q|⟨k,F,e,z'⟩
    .erw[.inl q]
    .erw[.inr ⟨k,F,e,z'.sameBut l ?_⟩];rintro rfl;erw[hj (GE hN g (I.ok.inj _ _ _ e f▸U))]
  .by_cases hcc:F=c
   .subst hcc;erw[⟨_,Y⟩]
   .have⟨w2,z2⟩:=I.cell y F e;erw[⟨w2,z2.sameBut l hcc⟩]
  .have⟨e,n,D,nf,d⟩:=I.pin p hp;erw[⟨(l.2 p.1 ?_).trans e,n,D,nf,d⟩];intro q;rw[q,Z]at e;have q':oc=p.2:=Y2 e;erw[d C (by rw[<-q'];erw[B])]
def GG(I:Inv X pq σ H s)(l:X.N.Nodup)(w:X.N[i]?=wc x)(y:Loc X.env.scope x)(r:RelV v u)
  (h:∀j,Inv X pq (σ.set i (wc v)) H j->Q () j)(z:X.fn x=wf\/X.env.scope.names.lookup x=wc .local:=by first|erw[.inl rfl]|erw[.inr rfl]|assumption):X4 M A (storeName X.env x u) Q E s:=
 GF I l w y r (λj m _=>h j m) z
def Inv.call'(I:Inv X pq σ H s)(w:s'.os=s.os)(u:Un (frs X.stack) ch H H' s.heap s'.heap)(j:HOk X.prog X.w H' s'.heap)(y:AllBare s'.gens)
  (l:∀b∈ch,(b∈X.ex\/X.s₀.heap.objs.size<=b)/\b≠X.env.locals/\(∀x c,X.env.cells.lookup x=wc c->c≠b)/\∀p∈X.pn++pq,p.1≠b):Inv X pq σ H' s':=by
 have⟨h',z,m,g,d⟩:=s';have e:d=s.os:=w;subst e;erw[I.call (L:=z) (O:=g) (P:=m) u j y l]
end
abbrev XK:=X0->Option Addr->Hp->Prop
noncomputable abbrev St:=List (Option V)
abbrev VK:=V->Hp->Prop
abbrev TE:=St->Hp->VK->Prop
abbrev TT:=St->Hp->(Bool->Hp->Prop)->Prop
abbrev TA:=St->Hp->(List V->Hp->Prop)->Prop
structure Ends where
 nx:St->Hp->Prop
 rt:VK
 bk:St->Hp->Prop:=λ_ _=>False
 ct:St->Hp->Prop:=λ_ _=>False
abbrev TS:=Ends->St->Hp->Prop
def EP(X:Cx)(l:List (Addr×Obj))(w:St)(Q:VK)(u:X0)(y:X1):Prop:=∃v j,Inv X l w j y/\RelV v u/\Q v j
def TP(X:Cx)(l:List (Addr×Obj))(u:St)(Q:Bool->Hp->Prop)(b:Bool)(w:X1):Prop:=∃j,Inv X l u j w/\Q b j
def AP(X:Cx)(u:List (Addr×Obj))(w:St)(Q:List V->Hp->Prop)(y:List X0)(z:X1):Prop:=∃j l,Inv X u w l z/\Vals j y/\Q j l
def SP(X:Cx)(w:List (Addr×Obj))(D:Ends)(f:Flow)(y:X1):Prop:=
 match f with
 |.next=>∃j l,Inv X w j l y/\D.nx j l
 |.brk=>∃j l,Inv X w j l y/\D.bk j l
 |.cont=>∃j l,Inv X w j l y/\D.ct j l
 |.ret u=>∃v j l,Inv X w j l y/\RelV v u/\D.rt v l
def PE(X:Cx)(e:Expr)(t:TE):Prop:=
 ∀(l:List (Addr×Obj))(s:X1)(j:St)(H:Hp)(Q:VK),Inv X l j H s->t j H Q->X4 (X8 X.prog X.w) X.A (eval e X.env) (EP X l j Q) X.xe s
def PT(X:Cx)(e:Expr)(t:TT):Prop:=
 ∀(l:List (Addr×Obj))(s:X1)(j:St)(H:Hp)(Q:Bool->Hp->Prop),Inv X l j H s->t j H Q->X4 (X8 X.prog X.w) X.A (isTrue e X.env (eval e X.env)) (TP X l j Q) X.xe s
def PW(X:Cx)(e:Expr)(t:TT):Prop:=
 ∀(j:Sem X0)(u:List (Addr×Obj))(s:X1)(l:St)(H:Hp)(Q:Bool->Hp->Prop),Inv X u l H s->t l H Q->X4 (X8 X.prog X.w) X.A (isTrue e X.env j) (TP X u l Q) X.xe s
def PW.pt{t:TT}(h:PW X e t):PT X e t:=h _
def PA(X:Cx)(w:List Expr)(t:TA):Prop:=
 ∀(j:Pos)(u:List (Addr×Obj))(s:X1)(l:St)(H:Hp)(Q:List V->Hp->Prop),Inv X u l H s->t l H Q->X4 (X8 X.prog X.w) X.A (spliced (Y5 j (Xx w X.env))) (AP X u l Q) X.xe s
def PS(X:Cx)(st:Stmt)(t:TS):Prop:=
 ∀(j:List (Addr×Obj))(s:X1)(l:St)(H:Hp)(D:Ends),Inv X j l H s->t D l H->X4 (X8 X.prog X.w) X.A (exec st X.env) (SP X j D) X.xe s
def PSs(X:Cx)(st:List Stmt)(t:TS):Prop:=
 ∀(j:List (Addr×Obj))(s:X1)(l:St)(H:Hp)(D:Ends),Inv X j l H s->t D l H->X4 (X8 X.prog X.w) X.A (execs st X.env) (SP X j D) X.xe s
def thn{j:Type}{t:Sem j}{Q l:j->X1->Prop}{M:Model}{A:Xw}{E:X0->X1->Prop}{s:X1}(h:X4 M A t Q E s)(u:∀a s,Q a s->l a s):X4 M A t l E s:=ZN h u λ_ _ x=>x
section
variable{X:Cx}
def bin{a b:Expr}{q r:TE}(e:PE X a q)(L:PE X b r){m:List (Addr×Obj)}{s:X1}{j:St}{H:Hp}{R:V->V->Hp->Prop}(I:Inv X m j H s)(h:q j H λx d=>r j d λy l=>R x y l)
  {p:Type} {Q:p->X1->Prop} {f:X0->X0->Sem p}
  (N:∀v u g x y l,Inv X m j l g->RelV x v->RelV y u->R x y l->X4 (X8 X.prog X.w) X.A (f v u) Q X.xe g):
  X4 (X8 X.prog X.w) X.A (eval a X.env) (λv w=>X4 (X8 X.prog X.w) X.A (eval b X.env) (λu z=>X4 (X8 X.prog X.w) X.A (f v u) Q X.xe z) X.xe w) X.xe s:=by
 erw[thn (e m s j H _ I h) λv O c=>?_];have⟨x,d,P,T,U⟩:=c;erw[thn (L m O j d _ P U) λu g c=>?_];have⟨y,l,W,Y,Z⟩:=c;erw[N v u g x y l W T Y Z]
def tVar(i:Nat):TE:=λj H Q=>∃v,j[i]?=wc (wc v)/\Q v H
def tC(v:V):TE:=λ_ H Q=>Q v H
def GH{i:Nat}{x:Str}{z:Pos}(f:X.N[i]?=wc x)(q:Vis X.env.scope x)(hd:(x==("__debug__":Str))=wg:=by decide)(g:(x==("__classdict__":Str))=wg:=by decide):PE X (.Name x z) (tVar i):=by
 intro p s L H Q I h;have⟨v,e,h⟩:=h;have⟨m,N,O⟩:=I.loc;have⟨u,r,l⟩:=O i x v f e q;have w:EP X p L Q u s:=⟨v,H,I,r,h⟩;rcases l with⟨y,P⟩|⟨y,c,d,j⟩
 .erw[wpAny_Name (wpAny_loadName_local I.ok.kind y N P w) hd]
 .rcases y with y|y
  .erw[wpAny_Name (wpAny_loadName_cell I.ok.kind y d j w) hd]
  .erw[wpAny_Name (wpAny_loadName_free I.ok.kind y d j w g) hd]
def pe_int{i j l}:PE X (.Constant (.int i) j l) (tC (.int i)):=λ_ _ _ H _ I h=>wpAny_Constant_int ⟨.int i,H,I.tok _,⟨_,rfl⟩,h⟩
def pe_bl{b j l}:PE X (.Constant (.bool b) j l) (tC (.bl b)):=λ_ _ _ H _ I h=>Constant_bool ⟨.bl b,H,I,rfl,h⟩
def pe_non{j l}:PE X (.Constant .none j l) (tC .non):=λ_ _ _ H _ I h=>Constant_none ⟨.non,H,I,rfl,h⟩
def pe_str{x j l}:PE X (.Constant (.str x) j l) (tC (.str x)):=λ_ _ _ H _ I h=>Calls.Constant_str ⟨.str x,H,I.tok _,⟨_,rfl⟩,h⟩
def Gl(X:Cx)(x:Str):Prop:=X.env.kindOf x=wc .globalImplicit
def DB(I:Inv X pq σ H s)(j:Gl X x)(l:X.mg x=wc u)(h:Q u s)
  (hd:(x==("__debug__":Str))=wg:=by decide):X4 (X8 X.prog X.w) X.A (eval (.Name x pos) X.env) Q E s:=
 Go I.ok.kind j (Calls.loadGlobal_global (by rw[I.ok.glob];erw[I.mod.glob.keeps I.bk]) l h) hd
def UP(I:Inv X pq σ H s)(j:Gl X x)(l:X.mg x=we)(w:YE x=wc u)(h:Q u s)
  (y:x≠"__name__":=by decide)(hd:(x==("__debug__":Str))=wg:=by decide):X4 (X8 X.prog X.w) X.A (eval (.Name x pos) X.env) Q E s:=by
 have⟨g,z,m⟩:=I.mod.blt;erw[Go I.ok.kind j (Calls.loadGlobal_builtin (by rw[I.ok.glob];erw[I.mod.glob.keeps I.bk]) l (by rw[I.ok.blt];erw[z.keeps I.bk]) ((m x y).trans w) h) hd]
def RV{x:Str}{v:V}{u:X0}{j:Pos}(l:Gl X x)(w:X.mg x=wc u)(r:RelV v u)(hd:(x==("__debug__":Str))=wg:=by decide):PE X (.Name x j) (tC v):=
 λ_ _ _ H _ I h=>DB I l w ⟨v,H,I,r,h⟩ hd
def RW{x:Str}{v:V}{u:X0}{j:Pos}(l:Gl X x)(w:X.mg x=we)(y:YE x=wc u)(r:RelV v u)(z:x≠"__name__":=by decide)(hd:(x==("__debug__":Str))=wg:=by decide):PE X (.Name x j) (tC v):=
 λ_ _ _ H _ I h=>UP I l w y ⟨v,H,I,r,h⟩ z hd
variable{a b:Expr}{ta tb:TE}{pos:Pos}
def tB(t:TE):TT:=λj H Q=>t j H λx l=>∃c,x=.bl c/\Q c l
def RX{e:Expr}{t:TE}(h:PE X e t)(l:∀j,isTrue e X.env j=(do let v<- j;standAt e.pos;Zc [v] (truthy v)):=by intro _;rfl):PT X e (tB t):=by
 intro u s w H Q I y;erw[isTrue_plain (thn (h u s w H _ I y) λv r z=>?_) (l _)];have⟨x,m,g,c,f⟩:=z;have⟨d,rfl,q⟩:=f;cases c;erw[ZO ⟨m,g,q⟩]
variable{tA tB':TT}{rest:List Expr}
def tAnd(t u:TT):TT:=λj H Q=>t j H λc l=>if c=wf then u j l Q else Q wg l
def tOr(t u:TT):TT:=λj H Q=>t j H λc l=>if c=wf then Q wf l else u j l Q
def tNot(t:TT):TT:=λj H Q=>t j H λc l=>Q (!c) l
def pw_and1(j:PT X a tA):PW X (.BoolOp .And [a] pos) tA:=by
 intro w l s u H Q I h;erw[isTrue_and (thn (j l s u H Q I h) λc y e=>?_)];cases c with
 |true=>erw[isTrue_and_nil e]
 |false=>erw[e]
def pw_or1(j:PT X a tA):PW X (.BoolOp .Or [a] pos) tA:=by
 intro w l s u H Q I h;erw[isTrue_or (thn (j l s u H Q I h) λc y e=>?_)];cases c with
 |false=>erw[isTrue_or_nil e]
 |true=>erw[e]
def pw_and(z:PT X a tA)(m:PW X (.BoolOp .And (b::rest) pos) tB'):PW X (.BoolOp .And (a::b::rest) pos) (tAnd tA tB'):=by
 intro g j s l H Q I h;erw[isTrue_and (thn (z j s l H _ I h) λc d f=>?_)];have⟨u,w,y⟩:=f;cases c with
 |true=>erw[m g j d l u Q w y]
 |false=>erw[⟨u,w,y⟩]
def pw_or(z:PT X a tA)(m:PW X (.BoolOp .Or (b::rest) pos) tB'):PW X (.BoolOp .Or (a::b::rest) pos) (tOr tA tB'):=by
 intro g j s l H Q I h;erw[isTrue_or (thn (z j s l H _ I h) λc d f=>?_)];have⟨u,w,y⟩:=f;cases c with
 |true=>erw[⟨u,w,y⟩]
 |false=>erw[m g j d l u Q w y]
def RY(j:PT X a tA):PT X (.UnaryOp .Not a pos) (tNot tA):=by
 intro l s u H Q I h;erw[isTrue_not (j l s u H (λc w=>Q (!c) w) I h)]
def RZ(ta tb:TE):TE:=λj H Q=>ta j H λx l=>∃c,x=.bl c/\if c=wf then tb j l Q else Q (.bl wg) l
def tOrV(ta tb:TE):TE:=λj H Q=>ta j H λx l=>∃c,x=.bl c/\if c=wf then Q (.bl wf) l else tb j l Q
def S0(ta:TE):TE:=λj H Q=>ta j H λx l=>∃c,x=.bl c/\Q (.bl (!c)) l
def GJ{j}{t:TE}(h:PE X a t):PE X (.BoolOp j [a] pos) t:=λl s u H Q I w=>BoolOp_one (h l s u H Q I w)
def S1(z:PE X a ta)(m:PE X (.BoolOp .And (b::rest) pos) tb):PE X (.BoolOp .And (a::b::rest) pos) (RZ ta tb):=by
 intro l s u H Q I h;erw[BoolOp_and (thn (z l s u H _ I h) λv g d=>?_)];have⟨x,w,y,f,j⟩:=d;have⟨c,rfl,j⟩:=j;cases f;erw[ZO ?_];cases c with
 |true=>erw[m l g u w Q y j]
 |false=>erw[⟨.bl wg,w,y,rfl,j⟩]
def S3(z:PE X a ta)(m:PE X (.BoolOp .Or (b::rest) pos) tb):PE X (.BoolOp .Or (a::b::rest) pos) (tOrV ta tb):=by
 intro l s u H Q I h;erw[BoolOp_or (thn (z l s u H _ I h) λv g d=>?_)];have⟨x,w,y,f,j⟩:=d;have⟨c,rfl,j⟩:=j;cases f;erw[ZO ?_];cases c with
 |false=>erw[m l g u w Q y j]
 |true=>erw[⟨.bl wf,w,y,rfl,j⟩]
def S4(l:PE X a ta):PE X (.UnaryOp .Not a pos) (S0 ta):=by
 intro u s w H Q I h;erw[UnaryOp_ (thn (l u s w H _ I h) λv d y=>?_)];have⟨x,z,m,g,j⟩:=y;have⟨c,rfl,j⟩:=j;cases g;erw[not_of (ZO ⟨.bl (!c),z,m,rfl,j⟩)]
def tIf(t:TT)(ta tb:TE):TE:=λj H Q=>t j H λc l=>if c=wf then ta j l Q else tb j l Q
def S5{c:Expr}(m:PT X c tA)(g:PE X a ta)(f:PE X b tb):PE X (.IfExp c a b pos) (tIf tA ta tb):=by
 intro j s l H Q I h;erw[wpAny_IfExp (thn (m j s l H _ I h) λd u q=>?_)];have⟨w,y,z⟩:=q;cases d with
 |true=>erw[g j u l w Q y z]
 |false=>erw[f j u l w Q y z]
end
def SqL(K:X3)(H:Hp)(a:Addr)(l:List V):Prop:=
 Rd H a (.lst l)\/
  ∃(o:Obj) (j:Array X0) (n:Nat),K.lookup a=wc o/\o.cls=.type "list"/\o.dict=we/\o.data=.seq j n/\j.size<=sizeLine/\Vals l j.toList
def SqT(K:X3)(H:Hp)(a:Addr)(l:List V):Prop:=
 Rd H a (.tup l)\/
  ∃(o:Obj) (j:Array X0) (n:Nat),K.lookup a=wc o/\o.cls=.type "tuple"/\o.data=.seq j n/\j.size<=sizeLine/\Vals l j.toList
noncomputable def absV:X0->Option V
 |.none=>wc .non
 |.bool b=>wc (.bl b)
 |.int i _=>wc (.int i)
 |.str x _=>wc (.str x)
 |.bytes b _=>wc (.byt b)
 |.float b _=>wc (.flt b)
 |.ref a=>wc (.ref a)
 |.type n=>wc (.ty n)
 |_=>we
def RelV.abs(r:RelV x u):absV u=wc x:=by
 cases x with
 |non=>cases r;rfl
 |bl _=>cases r;rfl
 |int _=>have⟨t,rfl⟩:=r;rfl
 |str _=>have⟨t,rfl⟩:=r;rfl
 |byt _=>have⟨t,rfl⟩:=r;rfl
 |flt _=>have⟨t,rfl⟩:=r;rfl
 |ref _=>cases r;rfl
 |ty _=>cases r;rfl
def RelV.inj(r:RelV x u)(q:RelV y u):x=y:=Y2 (r.abs.symm.trans q.abs)
theorem Vals.inj:∀{xs j:List V} {us:List X0},Vals xs us->Vals j us->xs=j
 |_,_,_,.nil,.nil=>rfl
 |_,_,_,.cons r t,.cons r' t'=>by rw[r.inj r',Vals.inj t t']
section
variable{X:Cx}{pq:List (Addr×Obj)}{σ:St}{H:Hp}{s:X1}{a:Addr}{xs ys:List V}
def SqL.of{K:X3}(h:H a=wc (.lst xs)):SqL K H a xs:=.inl (.inl h)
def SqT.of{K:X3}(h:H a=wc (.tup xs)):SqT K H a xs:=.inl (.inl h)
def Inv.list(I:Inv X pq σ H s)(h:SqL X.K H a xs):∃j:List X0,Vals xs j/\PlainL s.heap a j.toArray/\xs.length<=sizeLine:=by
 rcases h with h|⟨o,j,n,l,u,hd,w,y,r⟩
 .have⟨z,j,n,r,e⟩:=h.ok I.hok;erw[⟨j,r,⟨_,n,e,rfl,rfl,rfl⟩,z⟩]
 .erw[⟨j.toList,r,⟨o,n,I.kIn a o l,u,hd,by simpa using w⟩,?_⟩]
  have e:=r.length;simp only[Yt]at e;lia
def Inv.tuple(I:Inv X pq σ H s)(h:SqT X.K H a xs):∃j:List X0,Vals xs j/\IsTup s.heap a j.toArray/\xs.length<=sizeLine:=by
 rcases h with h|⟨o,j,n,l,u,w,y,r⟩
 .have⟨z,j,r,p⟩:=h.ok I.hok;erw[⟨j,r,p.1,z⟩]
 .erw[⟨j.toList,r,⟨o,I.kIn a o l,u,n,by simpa using w⟩,?_⟩]
  have e:=r.length;simp only[Yt]at e;lia
def Inv.list_inj(I:Inv X pq σ H s)(h:SqL X.K H a xs)(y:SqL X.K H a ys):xs=ys:=by
 have⟨l,r,⟨o,n,e,_,_,d⟩,_⟩:=I.list h;have⟨j,z,⟨m,g,u,_,_,w⟩,_⟩:=I.list y;rw[e]at u;cases u;rw[d]at w;injection w with d1 _;have:l=j:=by simpa using congrArg Array.toList d1
 subst this;erw[r.inj z]
def Inv.tuple_inj(I:Inv X pq σ H s)(h:SqT X.K H a xs)(y:SqT X.K H a ys):xs=ys:=by
 have⟨l,r,⟨o,e,_,n,d⟩,_⟩:=I.tuple h;have⟨j,z,⟨m,u,_,g,w⟩,_⟩:=I.tuple y;rw[e]at u;cases u;rw[d]at w;injection w with d1 _;have:l=j:=by simpa using congrArg Array.toList d1
 subst this;erw[r.inj z]
end
noncomputable abbrev Cx.wish(X:Cx)(E:X0->X1->Prop):Cx:={X with xe:=E}
noncomputable abbrev Cx.nox(X:Cx):Cx:=X.wish λ_ _=>False
theorem Cx.Ok.wish{X:Cx}(ok:X.Ok)(E:X0->X1->Prop):(X.wish E).Ok:=
 ⟨ok.mod,ok.kind,ok.glob,ok.blt,ok.above,ok.inj,ok.has,ok.cab,ok.hd,ok.frames,ok.stk,ok.exf,ok.bs,ok.bsz,ok.noex,ok.exfs,ok.funs,ok.frf⟩
def Cx.Ok.unwish{X:Cx}{E:X0->X1->Prop}(ok:(X.wish E).Ok):X.Ok:=
 ⟨ok.mod,ok.kind,ok.glob,ok.blt,ok.above,ok.inj,ok.has,ok.cab,ok.hd,ok.frames,ok.stk,ok.exf,ok.bs,ok.bsz,ok.noex,ok.exfs,ok.funs,ok.frf⟩
section
variable{X:Cx}{pq:List (Addr×Obj)}{σ:St}{H:Hp}{s:X1}{E:X0->X1->Prop}
theorem Inv.wish(I:Inv X pq σ H s)(E:X0->X1->Prop):Inv (X.wish E) pq σ H s:=⟨I.ok.wish E,I.os,I.bare,I.base,I.loc,I.cell,I.free,I.freeC,I.pin,I.hok,I.len⟩
theorem Inv.unwish(I:Inv (X.wish E) pq σ H s):Inv X pq σ H s:=⟨I.ok.unwish,I.os,I.bare,I.base,I.loc,I.cell,I.free,I.freeC,I.pin,I.hok,I.len⟩
theorem SP.unwish(h:SP (X.wish E) pq D f s'):SP X pq D f s':=by
 cases f with
 |next=>have⟨j,l,I,q⟩:=h;erw[⟨j,l,I.unwish,q⟩]
 |brk=>have⟨j,l,I,q⟩:=h;erw[⟨j,l,I.unwish,q⟩]
 |cont=>have⟨j,l,I,q⟩:=h;erw[⟨j,l,I.unwish,q⟩]
 |ret u=>have⟨v,j,l,I,r,q⟩:=h;erw[⟨v,j,l,I.unwish,r,q⟩]
theorem PSs.nox{st:List Stmt}{t:TS}(h:PSs X.nox st t):PSs X st t:=λpq s σ H D I j=>
 ZN (h pq s σ H D (I.wish _) j) (λ_ _ q=>q.unwish) λ_ _ z=>Ya z
end
section
variable{X:Cx}{st:Stmt}{rest:List Stmt}{t u:TS}{e:Expr}{te:TE}{pos:Pos}
def S6:TS:=λD j H=>D.nx j H
def tSeq(t u:TS):TS:=λD j H=>t {D with nx:=u D} j H
def pss_nil:PSs X [] S6:=λ_ _ j H _ I h=>wpAny_execs_nil ⟨j,H,I,h⟩
def S7(w:PS X st t)(y:PSs X rest u):PSs X (st::rest) (tSeq t u):=by
 intro l s z H D I h;erw[wpAny_execs_cons (thn (w l s z H {D with nx:=u D} I h) λf m q=>?_)];cases f with
 |next=>
  have⟨j,g,d,q⟩:=q;erw[y l m j g D d q]
 |ret v=>erw[q]
 |brk=>erw[q]
 |cont=>erw[q]
def Inv.quiet(I:Inv X pq σ H s):interactive X.env=wg:=by simp[interactive,I.ok.kind]
def S8(te:TE):TS:=λD j H=>te j H λ_ l=>D.nx j l
def S9(l:PE X e te)(w:ZP e we pos.line X.env=pure wg:=by rfl):PS X (.Expr e pos) (S8 te):=by
 intro y s j H D I h;erw[wpAny_Expr_any (thn (l y s j H _ I h) λv d ⟨x,z,m,c,g⟩=>⟨j,z,m,g⟩) I.quiet w]
def tRet(te:TE):TS:=λD j H=>te j H D.rt
def Sa(l:PE X e te):PS X (.Return (wc e) pos) (tRet te):=by
 intro w s j H D I h;erw[wpAny_Return_some (thn (l w s j H _ I h) λv d ⟨x,y,z,m,g⟩=>⟨x,j,y,z,m,g⟩)]
def tIfS(c:TT)(t u:TS):TS:=λD j H=>c j H λb l=>if b=wf then t D j l else u D j l
def Sb{c:Expr}{a b:List Stmt}{w:TT}(f:PT X c w)(q:PSs X a t)(r:PSs X b u):PS X (.If c a b pos) (tIfS w t u):=by
 intro j s l H D I h;erw[wpAny_If (thn (f j s l H _ I h) λd y p=>?_)];have⟨z,m,g⟩:=p;cases d with
 |true=>erw[q j y l z D m g]
 |false=>erw[r j y l z D m g]
def Sc:TS:=λ_ _ _=>False
def ps_never:PS X st Sc:=λ_ _ _ _ _ _ h=>h.elim
end
abbrev TG:=V->St->Hp->(St->Hp->Prop)->Prop
abbrev TGs:=List V->St->Hp->(St->Hp->Prop)->Prop
def PG(X:Cx)(j:Expr)(t:TG):Prop:=
 ∀(w:List (Addr×Obj))(s:X1)(y:St)(H:Hp)(v:V)(u:X0)(Q:St->Hp->Prop),Inv X w y H s->RelV v u->t v y H Q->
  X4 (X8 X.prog X.w) X.A (assign j X.env u) (λ_ m=>∃l z,Inv X w l z m/\Q l z) X.xe s
def PGs(X:Cx)(m:List Expr)(t:TGs):Prop:=
 ∀(l:List (Addr×Obj))(s:X1)(u:St)(H:Hp)(w:List V)(y:List X0)(Q:St->Hp->Prop),Inv X l u H s->Vals w y->t w u H Q->
  X4 (X8 X.prog X.w) X.A (assignInOrder ((ZQ m X.env).map (·.2)) y) (λ_ g=>∃j z,Inv X l j z g/\Q j z) X.xe s
abbrev TSet:=V->V->V->Hp->(Hp->Prop)->Prop
def PSet(X:Cx)(t:TSet):Prop:=
 ∀(j:List (Addr×Obj))(s:X1)(l:St)(H:Hp)(o i v:V)(w y u:X0)(Q:Hp->Prop),Inv X j l H s->RelV o w->RelV i y->RelV v u->t o i v H Q->
  X4 (X8 X.prog X.w) X.A (setItem w y u) (λ_ m=>∃z,Inv X j l z m/\Q z) X.xe s
section
variable{X:Cx}{pos:Pos}
def BP(i:Nat):TG:=λv j H Q=>Q (j.set i (wc v)) H
def GK(j:X.N.Nodup)(l:X.N[i]?=wc x)(w:Loc X.env.scope x)(y:X.fn x=wf\/X.env.scope.names.lookup x=wc .local:=by first|erw[.inl rfl]|erw[.inr rfl]|assumption):PG X (.Name x pos) (BP i):=by
 intro m s g H v u Q I r h;erw[wpAny_assign_Name (GG I j l w r (λd z=>⟨_,H,z,h⟩) y)]
def gNil:TGs:=λj l H Q=>j=[]/\Q l H
def GM(t:TG)(u:TGs):TGs:=λl w H Q=>∃v r,l=v::r/\t v w H λj y=>u r j y Q
def Sd:PGs X [] gNil:=by
 intro l s j H u w Q I r h;have⟨e,h⟩:=h;subst e;cases r;erw[assignInOrder_nil ⟨j,H,I,h⟩]
def Se{e:Expr}{j:List Expr}{t:TG}{u:TGs}(y:PG X e t)(z:PGs X j u)
  (m:(ZQ (e::j) X.env).map (·.2)=assign e X.env::(ZQ j X.env).map (·.2):=by rfl):PGs X (e::j) (GM t u):=by
 intro w s g H O P Q I r h;have⟨v,R,d,h⟩:=h;subst d;cases r with
 |cons r c=>
  rw[m];erw[assignInOrder_cons (thn (y w s g H _ _ _ I r h) λ_ f q=>?_)];have⟨l,p,L,N⟩:=q;erw[z w f l p _ _ Q L c N]
def gTup(K:X3)(n:Nat)(t:TGs):TG:=λv l H Q=>∃a j,v=.ref a/\SqT K H a j/\j.length=n/\t j l H Q
def Sf{k:Nat}{t:TGs}(m:X.calm=wf)(h:PGs X es t)
  (g:(ZQ es X.env).length=n:=by rfl)(j:(ZQ es X.env).findIdx? (·.1)=we:=by rfl):PG X (.Tuple es k pos) (gTup X.K n t):=by
 intro w s y H v u Q I r l;have⟨a,d,c,f,q,l⟩:=l;subst c;cases r;have⟨p,z,L,R⟩:=I.tuple f;erw[assign_Tuple_tuple (I.ok.hd m) L (by simp[g,<-q,z.length]) j λN O=>?_]
 have P:Inv X w y H {s with heap:=N}:=I.kept (t':=s.toks) λb o e=>O b o (XG (Xu e)) e;erw[h w _ y H d _ Q P (by simpa using z) l]
def gSub(to l:TE)(t:TSet):TG:=λv j H Q=>to j H λo u=>l j u λi w=>t o i v w λy=>Q j y
def Sg{o i:Expr}{to g:TE}{t:TSet}(d:PE X o to)(c:PE X i g)(f:PSet X t)
  (q:∀v,assign (.Subscript o i pos) X.env v=(do
   let j<- Zc [v] (eval o X.env)
   let w<- Zc [v,j] (eval i X.env)
   standAt pos
   Zc [v,j,w] (setItem j w v)
   release [v,j,w] []):=by intro _;rfl):PG X (.Subscript o i pos) (gSub to g t):=by
 intro m s z H v u Q I r h;rw[q];erw[X2 (YO (thn (d m s z H _ I h) λj p l=>?_))];have⟨x,e,L,N,O⟩:=l;erw[X2 (YO (thn (c m p z e _ L O) λw P l=>?_))];have⟨y,R,T,U,W⟩:=l;erw[X2 (wpAny_standAt (X2 (YO (thn (f m P z R x y v j w u _ T N U r W) λ_ B l=>?_))))];have⟨Y,Z,A⟩:=l;erw[wpAny_release ⟨z,Y,Z,A⟩]
def tAsg(l:TE)(g:TG):TS:=λD j H=>l j H λx u=>g x j u D.nx
def GN{j e:Expr}{l:TE}{g:TG}(y:PE X e l)(z:PG X j g)(m:swapsWithSole [j] e pos.line X.env=pure wg:=by rfl)(hw:swappedStores [j] e X.env=pure we:=by rfl)
  (d:(ZQ [j] X.env).map (·.2)=[assign j X.env]:=by rfl):PS X (.Assign [j] e pos) (tAsg l g):=by
 intro u s w H D I h;erw[wpAny_Assign_stores (thn (y u s w H _ I h) λv c f=>?_) m hw];have⟨x,r,p,L,N⟩:=f;rw[d];erw[thn (z u c w r x v _ p L N) λ_ O q=>q]
def GO{i:Nat}{x:Str}{e:Expr}{l:TE}{j:Pos}(u:X.N.Nodup)(w:X.N[i]?=wc x)(z:Loc X.env.scope x)(m:PE X e l)(g:ZP e (wc (.Name x j)) pos.line X.env=pure wg:=by rfl)(d:X.fn x=wf\/X.env.scope.names.lookup x=wc .local:=by first|erw[.inl rfl]|erw[.inr rfl]|assumption):
  PS X (.Assign [.Name x j] e pos) (tAsg l (BP i)):=by
 intro c s f H D I h;erw[wpAny_Assign_Name (thn (m c s f H _ I h) λv P q=>?_) g];have⟨y,r,p,L,N⟩:=q;erw[GG p u w z L (λR O=>⟨_,r,O,N⟩) d]
def Sh(c:TT)(z:TS):TS:=λD j H=>∃W:Nat->St->Hp->Prop,(∃m,W m j H)/\∀m j H,W m j H->
 c j H λb u=>if b=wf then∃N:St->Hp->Prop,(∀l w,N l w->∃y,y<m/\W y l w)/\z {D with nx:=N,ct:=N,bk:=D.nx} j u else D.nx j u
def Si{c:Expr}{u:List Stmt}{O:TT}{P:TS}(R:PassesOwn (X8 X.prog X.w) X.A X.env X.xe)(B:PT X c O)(C:PSs X u P):PS X (.While c u [] pos) (Sh O P):=by
 intro d s E H D I h;have⟨W,⟨F,G⟩,w⟩:=h;erw[wpAny_While (codeAny_whileLoop (λn J=>∃y T,Inv X d y T J/\W n y T) ?_ F ⟨E,H,I,G⟩)];rintro n M ⟨l,U,Q,S⟩;erw[V3 R (thn (B d M l U _ Q (w n l U S)) λb o i=>?_)];have⟨Y,Z,m⟩:=i;cases b with
 |true=>
  have⟨N,A,m⟩:=m;rw[if_pos rfl];erw[V3 R (thn (C d o l Y _ Z m) λf x g=>?_)];cases f with
  |next=>
   have⟨j,z,q,r⟩:=g;have⟨p,e,L⟩:=A j z r;erw[⟨p,e,j,z,q,L⟩]
  |cont=>
   have⟨j,z,q,r⟩:=g;have⟨p,e,L⟩:=A j z r;erw[⟨p,e,j,z,q,L⟩]
  |brk=>erw[g]
  |ret v=>erw[g]
 |false=>
  rw[if_neg XB];erw[wpAny_execs_nil ⟨l,Y,Z,m⟩]
end
structure It where
 go:Nat->Hp->Prop
 yld:Nat->Hp->V->Hp->Prop
 stop:Nat->Hp->Prop
def FpOk(X:Cx)(j:List (Addr×Obj))(H:Hp)(b:Addr):Prop:=
 H b=we/\b≠X.env.locals/\b∉X.fs/\(b∈X.ex\/X.s₀.heap.objs.size<=b)/\(∀x c,X.env.cells.lookup x=wc c->c≠b)/\∀p∈X.pn++j,p.1≠b
def Inv.fpOk(I:Inv X pq σ H s)(j:s.heap.objs.size<=b)(l:H' b=we):FpOk X pq H' b:=by
 erw[⟨l,Bm (Yz I.lt j),I.nofs j,.inr (Xy I.sz j),λx c e z=>?_,λp u z=>?_⟩]
 .have⟨v,q⟩:=I.cell x c e;erw[absurd (Yz q.lt (by rw[z];erw[j])) (ZE _)]
 .erw[absurd (Yz (Xu (I.pin p u).1) (by rw[z];erw[j])) (ZE _)]
structure Turn (P:Xr)(w:Xm)(K:X3)(tg:Expr)(J:It)(fp:List Addr)(it:Addr)(tn:Nat->Heap->Prop):Prop where
 mem:it∈fp
 obj:∀i h,tn i h->∀b∈fp,∃o,h.get? b=wc o/\∀v,o.data≠.cell v
 keep:∀i h h',tn i h->(∀b∈fp,∀o,h.get? b=wc o->h'.get? b=wc o)->tn i h'
 item:∀(X:Cx),X.prog=P->X.w=w->X.K=K->X.calm=wf->∀(i:Nat)(pq:List (Addr×Obj))(s:X1)(σ:St)(H:Hp)(E:X0->X1->Prop),Inv X pq σ H s->(∀b∈fp,FpOk X pq H b)->tn i s.heap->J.go i H->
  X4 (X8 P w) X.A (pyNext (.ref it)) (λr s1=>∃u,r=wc u/\
   X4 (X8 P w) X.A (AN tg (.ref it) u) (λ_ s2=>∃x H',Inv X pq σ H' s2/\RelV x u/\J.yld i H x H'/\tn (i+1) s2.heap/\∀b∈fp,H' b=we) E s1) E s
 done:∀(X:Cx),X.prog=P->X.w=w->X.K=K->X.calm=wf->∀(i:Nat)(pq:List (Addr×Obj))(s:X1)(σ:St)(H:Hp)(E:X0->X1->Prop),Inv X pq σ H s->(∀b∈fp,FpOk X pq H b)->tn i s.heap->J.stop i H->
  X4 (X8 P w) X.A (pyNext (.ref it)) (λr s1=>r=we/\Inv X pq σ H s1) E s
 self:∀(A:Xw)(i:Nat)(s:X1)(Q:X0->X1->Prop)(E:X0->X1->Prop),tn i s.heap->Q (.ref it) s->X4 (X8 P w) A (pyIter (.ref it)) Q E s
abbrev TI:=St->Hp->(It->Hp->Prop)->Prop
def PIE(X:Cx)(u:List (Addr×Obj))(g:St)(d:Expr)(R:It->Hp->Prop)(j:X0)(w:X1):Prop:=
 ∃(y:Addr) (z:List Addr) (m:Nat->Heap->Prop) (J:It) (l:Hp),j=.ref y/\Inv X u g l w/\Turn X.prog X.w X.K d J z y m/\m 0 w.heap/\(∀b∈z,FpOk X u l b)/\R J l
def PI(X:Cx)(w j:Expr)(y:TI):Prop:=
 ∀(u:List (Addr×Obj))(s:X1)(l:St)(H:Hp)(R:It->Hp->Prop),Inv X u l H s->y l H R->
  X4 (X8 X.prog X.w) X.A (eval j X.env) (λv z=>X4 (X8 X.prog X.w) X.A (pyIter v) (PIE X u l w R) X.xe z) X.xe s
def VT(l:s.heap.get? it=wc o)(w:o.cls=.type n)(hd:o.data=.fields vs)
  (y:["enumerate","zip","dict_itemiterator","dict_reverseitemiterator","odict_iterator","itertools.zip_longest","itertools.pairwise"].contains n=wg)(j:Q () s):X4 M A (AN tg (.ref it) u) Q E s:=by
 unfold AN;cases tg<;>first
  |erw[Xd j]
  |(cases u<;>first
    |erw[Xd j]
    |(erw[X2 (wpAny_load l ?_)]
      rw[w,hd];show X4 M A (if(["enumerate","zip","dict_itemiterator","dict_reverseitemiterator","odict_iterator","itertools.zip_longest","itertools.pairwise"].contains n&&vs[0]?==wc (Yc _))=wf then _ else _) Q E s;rw[if_neg (by intro h;rw[y,WF]at h;cases h)]
      erw[Xd j]))
noncomputable def Itl(K:X3)(a:Addr):It:=
 ⟨λi H=>∃j x,SqL K H a j/\j[i]?=wc x,λi H x l=>l=H/\∀j,SqL K H a j->j[i]?=wc x,λi H=>∃j,SqL K H a j/\j.length<=i⟩
noncomputable def Itt(K:X3)(a:Addr):It:=
 ⟨λi H=>∃j x,SqT K H a j/\j[i]?=wc x,λi H x l=>l=H/\∀j,SqT K H a j->j[i]?=wc x,λi H=>∃j,SqT K H a j/\j.length<=i⟩
noncomputable def Itr(lo:Int)(n:Nat):It:=⟨λi _=>i<n,λi H x j=>j=H/\x=.int (lo+i),λi _=>n<=i⟩
def Sj{K:X3}(a j:Addr):Turn P w K tg (Itl K a) [j] j (λi h=>h.IsListIter j a i)where
 mem:=by simp
 obj:=λi h st b l=>by
  have e:b=j:=by simpa using l
  subst e;have⟨o,e,c,d⟩:=st;erw[⟨o,e,λv z=>by rw[d]at z;cases z⟩]
 keep:=λi h m st k=>st.at λo e=>k j (by simp) o e
 item:=by
  intro X q r L A i B s C H E I g st N;subst q r L;have⟨D,x,f,O⟩:=N;have⟨R,T,p,F⟩:=I.list f;have⟨u,G,J⟩:=T.get O;have⟨f0,U,M,W,Y,Z⟩:=g j (by simp)
  erw[wpAny_pyNext_list_item st p.isList (x:=u) (by simpa using G) λm y Q=>?_]
  have S:Inv X B C H {s with heap:=m}:=I.turned (g:=s.toks) (λb o l e=>(Q.2 b l).trans e) f0 U W Y Z;have⟨o,e,c,d⟩:=id y;erw[⟨u,rfl,VT (s:={s with heap:=m}) e c d (by decide) ⟨x,H,S,J,⟨rfl,λys n=>by rw[I.list_inj n f];erw[O]⟩,y,λb l=>(g b l).1⟩⟩]
 done:=by
  intro X q r L A i B s C H E I g st N;subst q r L;have⟨D,f,O⟩:=N;have⟨R,T,p,F⟩:=I.list f;have⟨f0,U,M,W,Y,Z⟩:=g j (by simp)
  have hl:=T.length;erw[wpAny_pyNext_list_end (I.ok.hd A) st p.isList (by simp;lia) λm eb=>⟨rfl,I.turned (g:=s.toks) (λb o l e=>eb b o l e) f0 U W Y Z⟩]
 self:=λ_ _ _ _ _ st h=>wpAny_pyIter_listiter st h
def Sl{K:X3}(a j:Addr):Turn P w K tg (Itt K a) [j] j (λi h=>h.IsTupleIter j a i)where
 mem:=by simp
 obj:=λi h st b l=>by
  have e:b=j:=by simpa using l
  subst e;have⟨o,e,c,d⟩:=st;erw[⟨o,e,λv z=>by rw[d]at z;cases z⟩]
 keep:=λi h g st k=>st.at λo e=>k j (by simp) o e
 item:=by
  intro X r L N A i B s C H E I f st O;subst r L N;have⟨D,x,q,R⟩:=O;have⟨y,T,p,F⟩:=I.tuple q;have⟨u,G,J⟩:=T.get R;have⟨f0,U,M,W,Y,Z⟩:=f j (by simp)
  erw[wpAny_pyNext_tuple_item st (show s.heap.IsTuple a y.toArray from p) (x:=u) (by simpa using G) λg m Q=>?_]
  have S:Inv X B C H {s with heap:=g}:=I.turned (g:=s.toks) (λb o l e=>(Q.2 b l).trans e) f0 U W Y Z;have⟨o,e,c,d⟩:=id m;erw[⟨u,rfl,VT (s:={s with heap:=g}) e c d (by decide) ⟨x,H,S,J,⟨rfl,λys n=>by rw[I.tuple_inj n q];erw[R]⟩,m,λb l=>(f b l).1⟩⟩]
 done:=by
  intro X r L N A i B s C H E I f st O;subst r L N;have⟨D,q,R⟩:=O;have⟨y,T,p,F⟩:=I.tuple q;have⟨f0,U,M,W,Y,Z⟩:=f j (by simp)
  have hl:=T.length;erw[wpAny_pyNext_tuple_end (I.ok.hd A) st (show s.heap.IsTuple a y.toArray from p) (by simp;lia) λg eb=>⟨rfl,I.turned (g:=s.toks) (λb o l e=>eb b o l e) f0 U W Y Z⟩]
 self:=λ_ _ _ _ _ st h=>wpAny_pyIter_tupleiter st h
def Sn{K:X3}(j:Addr)(lo:Int)(n:Nat):Turn P w K tg (Itr lo n) [j] j (λi h=>IsRangeIter h j (lo+(i:Nat)*1) ((n:Int) - (i:Nat)) 1)where
 mem:=by simp
 obj:=λi h st b l=>by
  have e:b=j:=by simpa using l
  subst e;erw[⟨_,st,λv z=>by
   have U:Data.fields _=Data.cell v:=z;cases U⟩]
 keep:=λi h y st k=>k j (by simp) _ st
 item:=by
  intro X g d c f i O s R H E I m st q;subst g d c;have⟨f0,r,Y,p,L,N⟩:=m j (by simp)
  have W:=Walks.range (prog:=X.prog) (w:=X.w) (I.ok.hd f) j lo 1 n;erw[W.item i s _ _ q st λv y T Z u A=>?_];have⟨t,rfl⟩:=Z;have B:Inv X O R H {s with heap:=y,toks:=T}:=I.turned (λb o l e=>A b o (by simpa using l) e) f0 r p L N
  erw[⟨_,rfl,VT (s:={s with heap:=y,toks:=T}) (n:="range_iterator") u rfl rfl (by decide) ⟨.int (lo+i),H,B,⟨t,?_⟩,⟨rfl,rfl⟩,u,fun b l=>(m b l).1⟩⟩]
  rw[Int.mul_one]
 done:=by
  intro X g d c f i O s R H E I m st q;subst g d c;have⟨f0,r,Y,p,L,N⟩:=m j (by simp)
  erw[wpAny_pyNext_range_end (I.ok.hd f) st (by have:n<=i:=q;lia) λy C=>⟨rfl,I.turned (g:=s.toks) (λb o l e=>C b o l e) f0 r p L N⟩]
 self:=λ_ _ _ _ _ st h=>wpAny_pyIter_rangeiter st h
section
variable{X:Cx}{tg:Expr}
def So{lo:Int}{t:Tok}(I:Inv X pq σ H s)(l:-(2^62)<=lo)(w:lo<2^62)(y:-(2^62)<=hi)(z:hi<2^62)
  (q:R (Itr lo (hi - lo).toNat) H):X4 (X8 X.prog X.w) X.A (pyIter (.ref s.heap.objs.size)) (PIE X pq σ tg R) E {s with heap:=s.heap.push {cls:=.type "range",data:=.fields #[.int lo t,.int hi u,.int 1 v]},toks:=tk}:=by
 erw[wpAny_pyIter_range (IsRange.new ..) (small_one l w y z) ?_];have j:Inv X pq σ H {s with heap:=s.heap.push {cls:=.type "range",data:=.fields #[.int lo t,.int hi u,.int 1 v]},toks:=tk}:=I.kept fun b o e=>Xt _ e;erw[⟨(s.heap.push {cls:=.type "range",data:=.fields #[.int lo t,.int hi u,.int 1 v]}).objs.size,[(s.heap.push {cls:=.type "range",data:=.fields #[.int lo t,.int hi u,.int 1 v]}).objs.size],_,_,H,rfl,
  j.kept (t':=tk) λb o e=>Xt _ e,Sn _ lo (hi - lo).toNat,?_,λb m=>?_,q⟩]
 .have g:lo+((0:Nat):Int)*1=lo:=by simp
  have d:(((hi - lo).toNat:Nat):Int) - ((0:Nat):Int)=Gr lo hi 1:=by rw[rangeSize_one];split<;>lia
  show IsRangeIter _ _ (lo+((0:Nat):Int)*1) ((((hi - lo).toNat:Nat):Int) - ((0:Nat):Int)) 1;rw[g,d];erw[XT _ rfl]
 .have e:b=(s.heap.push {cls:=.type "range",data:=.fields #[.int lo t,.int hi u,.int 1 v]}).objs.size:=by simpa using m
  subst e;erw[j.fpOk (Xa _) (j.hok.fresh (Xa _))]
def Sq(l:TA):TI:=λu H R=>l u H λw y=>∃j:Int,w=[.int j]/\ -(2^62)<=j/\j<2^62/\R (Itr 0 j.toNat) y
def Sr{a:Expr}{w:TA}{p l:Pos}(y:Gl X "range")(z:X.mg "range"=we)(m:PA X [a] w)(g:Xx [a] X.env=[(wg,eval a X.env)]:=by rfl):PI X tg (.Call (.Name "range" p) [a] [] l) (Sq w):=by
 intro d s c H R I h;erw[Call_ (UP I y z boot_range (WH (thn (m l d s c H _ I h) λT U f=>?_) g rfl))];have⟨W,Y,L,N,u⟩:=f;have⟨j,e,u,O,q⟩:=u;subst e;cases N with
 |cons r P=>
  cases P;have⟨t,rfl⟩:=r;erw[call_range_1 (So L (by lia) (by lia) u O (by simpa using q))]
def tFor(z:TI)(g:TG)(d:TS):TS:=λD j H=>z j H λJ c=>∃W:Nat->Nat->St->Hp->Prop,(∃m,W 0 m j c)/\∀i m j H,W i m j H->
 (J.stop i H/\D.nx j H)\/(J.go i H/\∃N:St->Hp->Prop,(∀l u,N l u->∃y,y<m/\W (i+1) y l u)/\∀x u,J.yld i H x u->g x j u λw f=>d {D with nx:=N,ct:=N,bk:=D.nx} w f)
noncomputable def VU(j:List Addr)(h:Heap):List (Addr×Obj):=j.filterMap λb=>(h.get? b).map λo=>(b,o)
def BQ(j:b∈fp)(e:h.get? b=wc o):(b,o)∈VU fp h:=List.mem_filterMap.mpr ⟨b,j,by rw[e];rfl⟩
def Su(j:p∈VU fp h):p.1∈fp/\h.get? p.1=wc p.2:=by
 have⟨b,l,e⟩:=List.mem_filterMap.mp j;cases q:h.get? b with
 |none=>rw[q]at e;cases e
 |some o=>
  rw[q]at e;have u:(b,o)=p:=Y2 e;subst u;erw[⟨l,q⟩]
def Inv.pinned(I:Inv X pq σ H s)(u:∀b∈fp,FpOk X pq H b)(w:∀b∈fp,∃o,s.heap.get? b=wc o/\∀v,o.data≠.cell v):Inv X (pq++VU fp s.heap) σ H s:=
 I.pins_of λp y=>(Ye.mp y).elim (λz=>I.pin p (Zw _ z)) λz=>by
  have⟨j,e⟩:=Su z;have⟨f0,m,g,_⟩:=u p.1 j;have⟨o,l,d⟩:=w p.1 j;rw[e]at l;cases l;erw[⟨e,f0,m,g,d⟩]
def Inv.unpinned(I:Inv X (pq++pl) σ H s):Inv X pq σ H s:=I.pins_of λp j=>I.pin p (Zw _ (AZ _ j))
def Sv{l:Expr}{O:List Stmt}{wi:TI}{g:TG}{tb:TS}{M:Pos}(Z:PassesOwn (X8 X.prog X.w) X.A X.env X.xe)(hc:X.calm=wf)(hi:PI X tg l wi)(hg:PG X tg g)(w:PSs X O tb)
  (hs:∀x,AO l X.env x=pure x:=by intro _;rfl):PS X (.For tg l O [] M) (tFor wi g tb):=by
 intro R s σ H D I h;erw[wpAny_For (thn (hi R s σ H _ I h) λv s1 h1=>thn h1 λitv s2 h2=>?_) hs];have⟨it,A,tn,J,H2,e,I2,T,Q,f2,W,⟨m0,w0⟩,B⟩:=h2;subst e;have y:∀{L:Hp},(∀b∈A,L b=we)->∀b∈A,FpOk X R L b:=λhn b w=>⟨hn b w,(f2 b w).2⟩;erw[codeAny_forLoop_any (λn s'=>∃i z L,Inv X R z L s'/\tn i s'.heap/\(∀b∈A,L b=we)/\W i n z L) ?_ m0 ⟨0,σ,H2,I2,Q,λb w=>(f2 b w).1,w0⟩];rintro n s3 ⟨i,c,G,I3,st3,C,w3⟩;rcases B i n c G w3 with⟨E,qn⟩|⟨go,N,hN,step⟩
 .erw[V3 Z (thn (T.done X rfl rfl rfl hc i R s3 c G X.xe I3 (y C) st3 E) λr s4 U=>?_)];have⟨S,I4⟩:=U;subst S;erw[wpAny_execs_nil ⟨c,G,I4,qn⟩]
 .erw[V3 Z (thn (T.item X rfl rfl rfl hc i R s3 c G X.xe I3 (y C) st3 go) λr s4 U=>?_)];have⟨u,S,h4⟩:=U;subst S;erw[V3 Z (thn h4 λ_ s5 U=>?_)];have⟨x,H5,I5,r5,y5,Y,a⟩:=U;have I5':=I5.pinned (y a) (T.obj _ _ Y);erw[V3 Z (thn (hg _ s5 c H5 x u _ I5' r5 (step x H5 y5)) λ_ s6 U=>?_)];have⟨σ6,H6,I6,q6⟩:=U;erw[V3 Z (thn (w _ s6 σ6 H6 _ I6 q6) λf s7 P=>?_)];have again:∀{j:St} {q:Hp},Inv X (R++VU A s5.heap) j q s7->N j q->∃m,m<n/\∃i z L,Inv X R z L s7/\tn i s7.heap/\(∀b∈A,L b=we)/\W i m z L:=fun{j q} p F=>by
   have⟨m',hm,w7⟩:=hN j q F;erw[⟨m',hm,i+1,j,q,p.unpinned,T.keep _ _ _ Y λb w o e=>(p.pin (b,o) (Zw _ (Zw _ (BQ w e)))).1,λb w=>?_,w7⟩];have⟨o,e,d⟩:=T.obj _ _ Y b w;erw[(p.pin (b,o) (Zw _ (Zw _ (BQ w e)))).2.1]
  cases f with
  |next=>have⟨j,q,p,F⟩:=P;erw[again p F]
  |cont=>have⟨j,q,p,F⟩:=P;erw[again p F]
  |brk=>have⟨j,q,p,P⟩:=P;erw[⟨j,q,p.unpinned,P⟩]
  |ret v=>have⟨x7,j,q,p,r7,P⟩:=P;erw[⟨x7,j,q,p.unpinned,r7,P⟩]
end
abbrev R2:=V->V->Hp->VK->Prop
def OpR(X:Cx)(f:X0->X0->Sem X0)(r:R2):Prop:=
 ∀(j:List (Addr×Obj))(s:X1)(l:St)(H:Hp)(x y:V)(v u:X0)(Q:VK),Inv X j l H s->RelV x v->RelV y u->r x y H Q->
  X4 (X8 X.prog X.w) X.A (f v u) (EP X j l Q) X.xe s
def UnR(X:Cx)(f:X0->Sem X0)(r:V->Hp->VK->Prop):Prop:=
 ∀(j:List (Addr×Obj))(s:X1)(l:St)(H:Hp)(x:V)(v:X0)(Q:VK),Inv X j l H s->RelV x v->r x H Q->
  X4 (X8 X.prog X.w) X.A (f v) (EP X j l Q) X.xe s
def YG(X:Cx)(f:X0)(r:List V->Hp->VK->Prop):Prop:=
 ∀(j:List (Addr×Obj))(s:X1)(l:St)(H:Hp)(u:List V)(w:List X0)(Q:VK),Inv X j l H s->Vals u w->r u H Q->
  X4 (X8 X.prog X.w) X.A (call f w) (EP X j l Q) X.xe s
def tOp(r:R2)(l u:TE):TE:=λj H Q=>l j H λx w=>u j w λy z=>r x y z Q
def tUn(r:V->Hp->VK->Prop)(j:TE):TE:=λl H Q=>j l H λx u=>r x u Q
def rI(C:Int->Int->Prop)(g:Int->Int->V):R2:=λx y H Q=>∃i j,x=.int i/\y=.int j/\C i j/\Q (g i j) H
def rI0(g:Int->Int->V):R2:=λx y H Q=>∃i j,x=.int i/\y=.int j/\Q (g i j) H
def rU(g:Int->V):V->Hp->VK->Prop:=λx H Q=>∃i,x=.int i/\Q (g i) H
section
variable{X:Cx}{a b c:Expr}{ta tb tc:TE}{pos:Pos}
def binT(r:PE X a ta)(p:PE X b tb){m:List (Addr×Obj)}{s:X1}{j:St}{H:Hp}{R:V->V->Hp->Prop}(I:Inv X m j H s)
  (h:ta j H λx d=>tb j d λy l=>R x y l){Q:X0->X1->Prop} {f:X0->X0->Sem X0}
  (e:∀v u g x y l,Inv X m j l g->RelV x v->RelV y u->R x y l->X4 (X8 X.prog X.w) X.A (f v u) Q X.xe g):
  X4 (X8 X.prog X.w) X.A (eval a X.env) (λv w=>X4 (X8 X.prog X.w) X.A (eval b X.env) (λu z=>X4 (X8 X.prog X.w) X.A (f v u) Q X.xe z) X.xe w) X.xe s:=by
 erw[thn (r m s j H _ I h) λv L q=>?_];have⟨x,d,N,O,P⟩:=q;erw[thn (p m L j d _ N P) λu g q=>?_];have⟨y,l,T,U,W⟩:=q;erw[e v u g x y l T O U W]
def Sw{j:UA}{r:R2}(l:OpR X (Yk j) r)(w:PE X a ta)(z:PE X b tb):PE X (.BinOp a j b pos) (tOp r ta tb):=by
 intro m s g H Q I h;erw[wpAny_BinOp (binT w z I h λv u d x y f p e L q=>l m d g f x y v u Q p e L q)]
def Sx{j:UnaryOp}{r:V->Hp->VK->Prop}(w:UnR X (unaryOp j) r)(y:PE X a ta):PE X (.UnaryOp j a pos) (tUn r ta):=by
 intro l s u H Q I h;erw[UnaryOp_ (thn (y l s u H _ I h) λv z ⟨x,m,g,d,f⟩=>w l z u m x v Q g d f)]
def opI{f:X0->X0->Sem X0}{C:Int->Int->Prop}{g:Int->Int->Int}
  (rule:∀(i j:Int)(t u:Tok)(s:X1)(Q:X0->X1->Prop)(E:X0->X1->Prop),C i j->Q (.int (g i j) s.toks) {s with toks:=s.toks+1}->X4 (X8 X.prog X.w) X.A (f (.int i t) (.int j u)) Q E s):
  OpR X f (rI C λi j=>.int (g i j)):=by
 intro d s r H x y v u Q I l w h;have⟨i,j,rfl,rfl,z,q⟩:=h;have⟨t,rfl⟩:=l;have⟨m,rfl⟩:=w;erw[rule i j t m s _ _ z ⟨.int (g i j),H,I.tok _,⟨_,rfl⟩,q⟩]
def opI0{f:X0->X0->Sem X0}{g:Int->Int->Int}
  (rule:∀(i j:Int)(t u:Tok)(s:X1)(Q:X0->X1->Prop)(E:X0->X1->Prop),Q (.int (g i j) s.toks) {s with toks:=s.toks+1}->X4 (X8 X.prog X.w) X.A (f (.int i t) (.int j u)) Q E s):
  OpR X f (rI0 λi j=>.int (g i j)):=by
 intro m s d H x y v u Q I l w h;have⟨i,j,rfl,rfl,q⟩:=h;have⟨t,rfl⟩:=l;have⟨z,rfl⟩:=w;erw[rule i j t z s _ _ ⟨.int (g i j),H,I.tok _,⟨_,rfl⟩,q⟩]
def opB0{f:X0->X0->Sem X0}{g:Int->Int->Bool}
  (rule:∀(i j:Int)(t u:Tok)(s:X1)(Q:X0->X1->Prop)(E:X0->X1->Prop),Q (.bool (g i j)) s->X4 (X8 X.prog X.w) X.A (f (.int i t) (.int j u)) Q E s):
  OpR X f (rI0 λi j=>.bl (g i j)):=by
 intro m s d H x y v u Q I l w h;have⟨i,j,rfl,rfl,q⟩:=h;have⟨t,rfl⟩:=l;have⟨z,rfl⟩:=w;erw[rule i j t z s _ _ ⟨.bl (g i j),H,I,rfl,q⟩]
def CPow(i j:Int):Prop:=0<=j/\j<=1000000/\i.natAbs<2^64
def CMul(i j:Int):Prop:=(-(2^64)<i/\i<2^64)\/(-(2^64)<j/\j<2^64)
def CMul.ok(h:CMul i j):IntMulOk i j:=by
 rcases h with⟨l,u⟩|⟨l,u⟩
 .erw[.of_left (intBits_le_64 l u)]
 .erw[.of_right (intBits_le_64 l u)]
def Sy:OpR X (Yk .Add) (rI0 λi j=>.int (i+j)):=opI0 λ_ _ _ _ _ _ _ q=>add_int q
def Sz:OpR X (Yk .Sub) (rI0 λi j=>.int (i - j)):=opI0 λ_ _ _ _ _ _ _ q=>sub_int q
def SA:OpR X (Yk .Mult) (rI CMul λi j=>.int (i*j)):=opI λ_ _ _ _ _ _ _ l q=>mul_int q l.ok
def SC:OpR X (Yk .Mod) (rI (λ_ j=>0<j) λi j=>.int (i%j)):=opI λi j _ _ _ _ _ l q=>by
 have u:(0:Int)<j:=l;erw[mod_int' (by lia) (by rw[Int.fmod_eq_emod_of_nonneg i (by lia)];erw[q])]
def SD:OpR X (Yk .Pow) (rI CPow λi j=>.int (i^j.toNat)):=opI λ_ _ _ _ _ _ _ l q=>pow_int_small l.1 l.2.1 l.2.2 q
def SE:OpR X (Yk .BitAnd) (rI0 λi j=>.int (BL i j)):=opI0 λ_ _ _ _ _ _ _ q=>and_int q
def SF:OpR X (Yk .BitXor) (rI0 λi j=>.int (BM i j)):=opI0 λ_ _ _ _ _ _ _ q=>xor_int q
def unI{f:X0->Sem X0}{g:Int->Int}
  (rule:∀(i:Int)(t:Tok)(s:X1)(Q:X0->X1->Prop)(E:X0->X1->Prop),Q (.int (g i) s.toks) {s with toks:=s.toks+1}->X4 (X8 X.prog X.w) X.A (f (.int i t)) Q E s):
  UnR X f (rU λi=>.int (g i)):=by
 intro l s u H x v Q I j h;have⟨i,rfl,q⟩:=h;have⟨t,rfl⟩:=j;erw[rule i t s _ _ ⟨.int (g i),H,I.tok _,⟨_,rfl⟩,q⟩]
def SG:UnR X (unaryOp .USub) (rU λi=>.int (-i)):=unI λ_ _ _ _ _ q=>neg_int q
end
noncomputable def scal:V->V->Bool
 |.non,.non=>wf|.non,.int _=>wf|.int _,.non=>wf|.non,.bl _=>wf|.bl _,.non=>wf|.non,.str _=>wf|.str _,.non=>wf
 |.int _,.int _=>wf|.bl _,.bl _=>wf|.str _,.str _=>wf|.byt _,.byt _=>wf
 |.int _,.str _=>wf|.str _,.int _=>wf|.bl _,.str _=>wf|.str _,.bl _=>wf
 |_,_=>wg
def rEq:R2:=λx y H Q=>scal x y=wf/\Q (.bl (decide (x=y))) H
def rNe:R2:=λx y H Q=>scal x y=wf/\Q (.bl (!decide (x=y))) H
def GP:decide (V.int i=V.int j)=(i==j):=by
 rw[Br];simp
def GQ:decide (V.bl i=V.bl j)=(i==j):=by
 rw[Br];simp
def GR:decide (V.str i=V.str j)=(i==j):=by
 rw[Br];simp
def GS:decide (V.byt i=V.byt j)=(i.toList==j.toList):=by
 rw[Br];cases i;cases j;simp
section
variable{X:Cx}{a b c:Expr}{ta tb tc:TE}{pos:Pos}
def XH{k:Bool}(I:Inv X pq σ H s)(q:Q (.bl k) H)(e:k=k'):EP X pq σ Q (.bool k') s:=by
 subst e;erw[⟨.bl k,H,I,rfl,q⟩]
def SH:OpR X (Y8 .Eq) rEq:=by
 intro g s d H x y v u Q I m l h;have⟨z,q⟩:=h;cases x with
 |non=>
  cases m;cases y with
  |non=>cases l;erw[PySem.EqNone.eq_none_none (XH I q (by simp))]
  |bl j=>cases l;erw[PySem.EqNone.eq_none_bool (XH I q (by simp))]
  |int j=>have⟨w,rfl⟩:=l;erw[PySem.EqNone.eq_none_int (XH I q (by simp))]
  |str j=>have⟨w,rfl⟩:=l;erw[PySem.EqNone.eq_none_str (XH I q (by simp))]
  |_=>erw[absurd (show wg=wf from z) XB]
 |bl i=>
  cases m;cases y with
  |non=>cases l;erw[PySem.EqNone.eq_bool_none (XH I q (by simp))]
  |bl j=>cases l;erw[eq_bool (XH I q GQ)]
  |str j=>have⟨w,rfl⟩:=l;erw[PySem.EqMixed.eq_bool_str (XH I q (by simp))]
  |_=>erw[absurd (show wg=wf from z) XB]
 |int i=>
  have⟨t,rfl⟩:=m;cases y with
  |non=>cases l;erw[PySem.EqNone.eq_int_none (XH I q (by simp))]
  |int j=>have⟨w,rfl⟩:=l;erw[eq_int (XH I q GP)]
  |str j=>have⟨w,rfl⟩:=l;erw[PySem.EqMixed.eq_int_str (XH I q (by simp))]
  |_=>erw[absurd (show wg=wf from z) XB]
 |str i=>
  have⟨t,rfl⟩:=m;cases y with
  |non=>cases l;erw[PySem.EqNone.eq_str_none (XH I q (by simp))]
  |bl j=>cases l;erw[PySem.EqMixed.eq_str_bool (XH I q (by simp))]
  |int j=>have⟨w,rfl⟩:=l;erw[PySem.EqMixed.eq_str_int (XH I q (by simp))]
  |str j=>have⟨w,rfl⟩:=l;erw[eq_str (XH I q GR)]
  |_=>erw[absurd (show wg=wf from z) XB]
 |byt i=>
  have⟨t,rfl⟩:=m;cases y with
  |byt j=>have⟨w,rfl⟩:=l;erw[PySem.W.eq_bytes (XH I q GS)]
  |_=>erw[absurd (show wg=wf from z) XB]
 |_=>cases y<;>erw[absurd (show wg=wf from z) XB]
def SI:OpR X (Y8 .NotEq) rNe:=by
 intro g s d H x y v u Q I m l h;have⟨z,q⟩:=h;cases x with
 |non=>
  cases m;cases y with
  |non=>cases l;erw[PySem.EqNone.ne_none_none (XH I q (by simp))]
  |bl j=>cases l;erw[PySem.EqNone.ne_none_bool (XH I q (by simp))]
  |int j=>have⟨w,rfl⟩:=l;erw[PySem.EqNone.ne_none_int (XH I q (by simp))]
  |str j=>have⟨w,rfl⟩:=l;erw[PySem.EqNone.ne_none_str (XH I q (by simp))]
  |_=>erw[absurd (show wg=wf from z) XB]
 |bl i=>
  cases m;cases y with
  |non=>cases l;erw[PySem.EqNone.ne_bool_none (XH I q (by simp))]
  |bl j=>cases l;erw[ne_bool (XH I q (congrArg not GQ))]
  |str j=>have⟨w,rfl⟩:=l;erw[PySem.EqMixed.ne_bool_str (XH I q (by simp))]
  |_=>erw[absurd (show wg=wf from z) XB]
 |int i=>
  have⟨t,rfl⟩:=m;cases y with
  |non=>cases l;erw[PySem.EqNone.ne_int_none (XH I q (by simp))]
  |int j=>have⟨w,rfl⟩:=l;erw[ne_int (XH I q (congrArg not GP))]
  |str j=>have⟨w,rfl⟩:=l;erw[PySem.EqMixed.ne_int_str (XH I q (by simp))]
  |_=>erw[absurd (show wg=wf from z) XB]
 |str i=>
  have⟨t,rfl⟩:=m;cases y with
  |non=>cases l;erw[PySem.EqNone.ne_str_none (XH I q (by simp))]
  |bl j=>cases l;erw[PySem.EqMixed.ne_str_bool (XH I q (by simp))]
  |int j=>have⟨w,rfl⟩:=l;erw[PySem.EqMixed.ne_str_int (XH I q (by simp))]
  |str j=>have⟨w,rfl⟩:=l;erw[ne_str (XH I q (congrArg not GR))]
  |_=>erw[absurd (show wg=wf from z) XB]
 |byt i=>
  have⟨t,rfl⟩:=m;cases y with
  |byt j=>have⟨w,rfl⟩:=l;erw[PySem.W.ne_bytes (XH I q (congrArg not GS))]
  |_=>erw[absurd (show wg=wf from z) XB]
 |_=>cases y<;>erw[absurd (show wg=wf from z) XB]
def SJ:OpR X (Y8 .Lt) (rI0 λi j=>.bl (decide (i<j))):=opB0 λ_ _ _ _ _ _ _ q=>lt_int q
def SK:OpR X (Y8 .LtE) (rI0 λi j=>.bl (decide (i<=j))):=opB0 λ_ _ _ _ _ _ _ q=>le_int q
def SL:OpR X (Y8 .Gt) (rI0 λi j=>.bl (decide (j<i))):=opB0 λ_ _ _ _ _ _ _ q=>gt_int q
def SM:OpR X (Y8 .GtE) (rI0 λi j=>.bl (decide (j<=i))):=opB0 λ_ _ _ _ _ _ _ q=>ge_int q
def SN:OpR X (Y8 .Is) (λx y H Q=>y=.non/\Q (.bl (decide (x=.non))) H):=by
 intro w s z H x y v u Q I j l h;have⟨rfl,q⟩:=h;cases l;erw[is_none_gen (XH I q ?_)];cases x<;>first
  |(cases j;rfl)
  |(have⟨t,rfl⟩:=j;rfl)
def SO:OpR X (Y8 .IsNot) (λx y H Q=>y=.non/\Q (.bl (!decide (x=.non))) H):=by
 intro w s z H x y v u Q I j l h;have⟨rfl,q⟩:=h;cases l;erw[isnot_none_gen (XH I q ?_)];cases x<;>first
  |(cases j;rfl)
  |(have⟨t,rfl⟩:=j;rfl)
def SQ{j:CmpOp}{r:R2}(l:OpR X (Y8 j) r)(w:PE X a ta)(z:PE X b tb)(m:behindInMarks j b=wg):PE X (.Compare a [j] [b] pos) (tOp r ta tb):=by
 intro g s d H Q I h;erw[wpAny_Compare1 (binT w z I h λv u f x y p e L N q=>l g f d p x y v u Q e L N q) m]
def GT(t:TE):TT:=λj H Q=>t j H λx l=>∃k,x=.bl k/\Q k l
def SR{j:CmpOp}{r:R2}(m:OpR X (Y8 j) r)(g:PE X a ta)(d:PE X b tb)(f:behindInMarks j b=wg):PT X (.Compare a [j] [b] pos) (GT (tOp r ta tb)):=by
 intro l s w H Q I h;erw[wpAny_isTrue_Compare1 (thn (g l s w H _ I h) λv q ⟨x,p,L,N,O⟩=>thn (d l q w p _ L O) λu P ⟨y,R,T,U,W⟩=>
  thn (m l P w R x y v u _ T N U W) λc C ⟨z,Y,Z,A,k,e,B⟩=>?_) f]
 subst e;cases A;erw[ZO ⟨Y,Z,B⟩]
def DC(r u:R2)(ta tb tc:TE):TE:=λj H Q=>ta j H λx w=>tb j w λy m=>r x y m λz l=>∃k,z=.bl k/\
 (if k=wf then tc j l λg d=>u y g d Q else Q (.bl wg) l)
def SS{m j:CmpOp}{r f:R2}(O:OpR X (Y8 m) r)(g:OpR X (Y8 j) f)(P:PE X a ta)(R:PE X b tb)(T:PE X c tc)
  (U:lastMarks [m,j] [b,c]=wg:=by with_unfolding_all rfl):PE X (.Compare a [m,j] [b,c] pos) (DC r f ta tb tc):=by
 intro l s w H Q I h;erw[Compare_chain (thn (P l s w H _ I h) λv W ⟨x,Y,Z,A,B⟩=>chain_link (thn (R l W w Y _ Z B) λu C ⟨y,D,E,q,F⟩=>
  thn (O l C w D x y v u _ E A q F) λd G ⟨z,p,L,J,k,e,N⟩=>?_)) U]
 subst e;cases J;erw[ZO ?_];cases k with
 |false=>erw[ite_ff ⟨.bl wg,p,L,rfl,N⟩]
 |true=>erw[ite_tt (chain_last (thn (T l G w p _ L N) λM S ⟨o,i,n,r4,q4⟩=>g l S w i y o u M Q n q r4 q4))]
def SU{m j:CmpOp}{r f:R2}(O:OpR X (Y8 m) r)(g:OpR X (Y8 j) f)(P:PE X a ta)(R:PE X b tb)(T:PE X c tc)
  (U:lastMarks [m,j] [b,c]=wg:=by with_unfolding_all rfl):PT X (.Compare a [m,j] [b,c] pos) (GT (DC r f ta tb tc)):=by
 intro l s w H Q I h;erw[isTrue_chain (thn (P l s w H _ I h) λv W ⟨x,Y,Z,A,B⟩=>test_link (thn (R l W w Y _ Z B) λu C ⟨y,D,E,q,F⟩=>
  thn (O l C w D x y v u _ E A q F) λd G ⟨z,p,L,J,k,e,N⟩=>?_)) U]
 subst e;cases J;erw[ZO ?_];cases k with
 |false=>
  have⟨k',M,S⟩:=N;cases M;erw[ite_ff ⟨p,L,S⟩]
 |true=>
  erw[ite_tt (test_last (thn (T l G w p _ L N) λo i ⟨n,H4,I4,r4,q4⟩=>thn (g l i w H4 y n u o _ I4 q r4 q4) λd' s5 h'=>?_))];have⟨z2,H5,I5,r5,k2,e2,q5⟩:=h';subst e2;cases r5;erw[ZO ⟨H5,I5,q5⟩]
def VW:(sizeLine:Nat)<2^63:=by rw[sizeLine_eq];decide
def SV:OpR X (Yk .Add) (λx y H Q=>∃i j,x=.str i/\y=.str j/\i.length+j.length<=sizeLine/\Q (.str (i++j)) H):=by
 intro g s d H x y v u Q I l w h;have⟨i,j,rfl,rfl,z,q⟩:=h;have⟨t,rfl⟩:=l;have⟨m,rfl⟩:=w;erw[add_str (λm f=>⟨.str (i++j),H,I.tok _,⟨_,rfl⟩,q⟩) z]
def _Y(r:Vals [x] us):∃u,us=[u]/\RelV x u:=by
 cases r with
 |cons j l=>cases l;erw[⟨_,rfl,j⟩]
def WL(r:Vals [x,y] us):∃u j,us=[u,j]/\RelV x u/\RelV y j:=by
 cases r with
 |cons l w=>
  cases w with
  |cons z m=>cases m;erw[⟨_,_,rfl,l,z⟩]
def SW(w:X.calm=wf):YG X (.builtin "max") (fun l H Q=>∃i j,l=[.int i,.int j]/\Q (.int (if j>i then j else i)) H):=by
 intro y s z H l m Q I r h;have⟨i,j,rfl,q⟩:=h;have⟨u,g,rfl,⟨t,rfl⟩,⟨d,rfl⟩⟩:=WL r;erw[max_two_ints (I.ok.hd w) λf p k=>⟨_,H,I.kept k,?_,q⟩];by_cases hj:j>i
 .rw[if_pos hj,if_pos hj];erw[⟨_,rfl⟩]
 .rw[if_neg hj,if_neg hj];erw[⟨_,rfl⟩]
def SX(w:X.calm=wf):YG X (.builtin "min") (fun l H Q=>∃i j,l=[.int i,.int j]/\Q (.int (if j<i then j else i)) H):=by
 intro y s z H l m Q I r h;have⟨i,j,rfl,q⟩:=h;have⟨u,g,rfl,⟨t,rfl⟩,⟨d,rfl⟩⟩:=WL r;erw[min_two_ints (I.ok.hd w) λf p k=>⟨_,H,I.kept k,?_,q⟩];by_cases hj:j<i
 .rw[if_pos hj,if_pos hj];erw[⟨_,rfl⟩]
 .rw[if_neg hj,if_neg hj];erw[⟨_,rfl⟩]
def SY:YG X (.type "int") (fun j H Q=>(∃i,j=[.int i]/\Q (.int i) H)\/∃k,j=[.bl k]/\Q (.int (if k then 1 else 0)) H):=by
 intro w s y H j z Q I r h;rcases h with⟨i,rfl,q⟩|⟨k,rfl,q⟩
 .have⟨u,rfl,t,rfl⟩:=_Y r;erw[call_int_int ⟨.int i,H,I,⟨_,rfl⟩,q⟩]
 .have⟨u,rfl,l⟩:=_Y r;cases l;erw[call_int_bool ⟨.int (if k then 1 else 0),H,I.tok _,⟨_,rfl⟩,q⟩]
end
structure ObjM (h:Heap)(x dx C:Addr)(mA:Str->Option X0):Prop where
 obj:h.get? x=wc (UI C dx)
 ns:h.Ns1 dx mA
 ne:dx≠x
set_option tactic.hygienic true in
def SZ{h:Heap}{l:Addr}{u:Str->Option X0}(n:h.Ns1 l u):∃w,h.get? l=wc w/\∀name,Bf name w=wc (u name):=by
 have⟨o,m,p,g,hd,d,_,c⟩:=n;erw[⟨o,g,λname=>?_⟩];have e:=c name;unfold nsFind findBy at e;rw[<-Array.find?_toList]at e;unfold Bf;rw[hd];dsimp only;split
 .rename_i y q
  rw[q]at e;erw[congrArg wc e]
 .rename_i q
  rw[q]at e;have a:m.toList.any (·.refKey)=wg:=by
   rw[List.any_eq_false];intro y f;have⟨z,t,j⟩:=d y (Array.mem_toList_iff.mp f);simp[DictEntry.refKey,j]
  have r:¬m.toList.any (·.refKey)=wf:=by rw[a];erw[XB]
  rw[if_neg r];erw[congrArg wc e]
def ObjM.look(I:ObjM h x dx C mA):∃j,PySem.W.InstAt h x (UI C dx) C (wc j)/\∀name,Bf name j=wc (mA name):=
 let⟨j,ho,hl⟩:=SZ I.ns
 ⟨j,⟨I.obj,rfl,rfl,ho⟩,hl⟩
section
variable{prog:Xr}{w:Xm}{A:Xw}{E:X0->X1->Prop}{s:X1}{K:X3}{x dx C f:Addr}{mA:Str->Option X0}{name:Str}{v:X0}
def T0(X:K.In s.heap)(I:ObjM s.heap x dx C mA)(l:Be K C name=wf)(u:Di K C=wf)
  (y:Y7 K (.ref C) name=wc we)(z:mA name=wc v)(j:PySem.W.handedIn v=wf)(h:Q v {s with toks:=s.toks+1}):
  X4 (X8 prog w) A (getAttr (.ref x) name expr) Q E s:=by
 have⟨g,J,m⟩:=I.look;erw[PySem.W.get_value X J (Df l).1 (PySem.W.findObj_own u y rfl (by rw[m,z])) j h]
def T1(X:K.In s.heap)(I:ObjM s.heap x dx C mA)(j:Be K C name=wf)
  (l:Y7 K (.ref C) name=wc (wc (.ref f)))(u:Bj K (.ref f)=wf)(y:mA name=we)(h:Q (.ref f,[.ref x]) s):
  X4 (X8 prog w) A (getMethod (.ref x) name pl) Q E s:=by
 have⟨z,J,m⟩:=I.look;erw[PySem.W.method_fn X J (Df j).1 (Df j).2 l (beq_iff_eq.mp u) (by show(Bf name z).map (·.isSome)=wc wg;rw[m,y];rfl) h]
def T2(X:K.In s.heap)(I:ObjM s.heap x dx C mA)
  (c:Y7 K (.ref C) "__setattr__"=wc (wc (.builtin "object.__setattr__")))(q:PySem.W.plainOver K C=wf)(p:Dj K C name=wc we)(e:Di K C=wf)
  (hw:Dx mA ns)(L:ns.length<=sizeLine)
  (h:∀u,ObjM u x dx C (λy=>if y=name then wc v else mA y)->Ue dx s.heap u->Q () {s with heap:=u,toks:=s.toks+2}):
  X4 (X8 prog w) A (setAttr (.ref x) name v) Q E s:=by
 have⟨T,J,U⟩:=I.look;erw[PySem.W.set_plain X J c (PySem.W.osa_open (s:={s with toks:=s.toks+1}) (r:=we) X J q p λb=>?_)];have⟨W,N,z⟩:=PySem.W.any_some e;have O:s.heap.get? x=wc ⟨.ref C,wc dx,.plain,#[]⟩:=I.obj;erw[X2 (Xd (X2 (X2 (wpAny_loadPart O (X2 (PySem.W.Looks.here (s:={s with toks:=s.toks+1}) (PySem.W.looks_clsIn X N) ?_))))))];rw[z];erw[Xd (a:=wc dx) (X2 (Xd (X2 ?_)))];erw[wpAny_nsSet1 (s:={s with toks:=s.toks+1}) I.ns λu j l=>?_];have⟨Y,P,R,m,g,d⟩:=j.count (PySem.Within.cons name v hw);erw[X2 (wpAny_lookBehind m (by rw[g];erw[pastItsLine_dict (Xy d (by rw[Yi];lia))]) ?_)]
 erw[Xd (h _ ⟨(l.2 _ (XW I.ne)).trans I.obj,j,I.ne⟩ l)]
def T3(X:K.In s.heap)(l:Dk K C=wf)
  (u:Y7 K (.ref C) "__init__"=wc (wc (.ref f)))(y:PySem.W.typeIn K (.ref f)=wc (.type "function"))
  (h:YY (X8 prog w) (A.under (.builtin "type.__call__" ⟨.ref C::vs,kw⟩)) (.call (.ref f) ⟨.ref (s.heap.objs.size+1)::vs,kw⟩) (PySem.W.InitBack (s.heap.objs.size+1) R)
   {s with heap:=(s.heap.push Uc).push (UI C s.heap.objs.size)}):
  YY (X8 prog w) A (.call (.ref C) ⟨vs,kw⟩) R s:=by
 have⟨z,g,d,t,os⟩:=s;erw[PySem.W.make_core (PySem.W.makes_of X l) (PySem.W.looks_findIn X u) (λj=>PySem.W.bind_fn X j y) (.inl rfl) h]
end
noncomputable def putF(f:Str)(v:V):List (Str×V)->List (Str×V)
 |[]=>[(f,v)]
 |(g,x)::r=>if g=f then(g,v)::r else(g,x)::putF f v r
theorem GU(f g:Str)(v:V):∀fs:List (Str×V),(putF f v fs).lookup g=if g=f then wc v else fs.lookup g
 |[]=>by
  show Ub g [(f,v)]=_;by_cases h:g=f
  .have j:(g==f)=wf:=beq_iff_eq.mpr h;simp only[Ub,j,if_pos h]
  .have j:(g==f)=wg:=beq_eq_false_iff_ne.mpr h;simp only[Ub,j,if_neg h]
 |(k,x)::r=>by
  have l:=GU f g v r;rw[show putF f v ((k,x)::r)=(if k=f then(k,v)::r else(k,x)::putF f v r)from rfl];by_cases hk:k=f
  .rw[if_pos hk];by_cases h:g=k
   .have j:(g==k)=wf:=beq_iff_eq.mpr h;simp only[Ub,j,if_pos (h.trans hk)]
   .have j:(g==k)=wg:=beq_eq_false_iff_ne.mpr h;simp only[Ub,j,if_neg (λe:g=f=>h (e.trans hk.symm))]
  .rw[if_neg hk];by_cases h:g=k
   .have j:(g==k)=wf:=beq_iff_eq.mpr h;simp only[Ub,j,if_neg (λe:g=f=>hk (h.symm.trans e))]
   .have j:(g==k)=wg:=beq_eq_false_iff_ne.mpr h;simp only[Ub,j];erw[l]
theorem DD(f:Str)(v:V):∀fs:List (Str×V),f∈(putF f v fs).map (·.1)/\∀g,g∈fs.map (·.1)->g∈(putF f v fs).map (·.1)
 |[]=>⟨by simp[putF],λg h=>by simp at h⟩
 |(k,x)::r=>by
  have⟨j,l⟩:=DD f v r;rw[show putF f v ((k,x)::r)=(if k=f then(k,v)::r else(k,x)::putF f v r)from rfl];by_cases hk:k=f
  .rw[if_pos hk];subst hk;erw[⟨by simp,λg h=>by simpa using h⟩]
  .rw[if_neg hk];erw[⟨?_,λg h=>?_⟩]
   .rw[Xz];erw[XJ _ j]
   .rw[Xz]at h ⊢;rcases Xk.mp h with e|e
    .erw[Xk.mpr (.inl e)]
    .erw[XJ _ (l g e)]
theorem GV(f:Str)(v:V):∀fs:List (Str×V),(putF f v fs).length<=fs.length+1
 |[]=>by simp[putF]
 |(k,x)::r=>by
  have j:=GV f v r;rw[show putF f v ((k,x)::r)=(if k=f then(k,v)::r else(k,x)::putF f v r)from rfl];by_cases hk:k=f
  .rw[if_pos hk,Yi,Yi];lia
  .rw[if_neg hk,Yi,Yi];lia
def RelO.some_of(r:RelO (wc v) o):∃u,o=wc u/\RelV v u:=by
 cases o with
 |none=>erw[(show False from r).elim]
 |some u=>erw[⟨u,rfl,r⟩]
def RelO.none_of(r:RelO we o):o=we:=by
 cases o with
 |none=>rfl
 |some u=>erw[(show False from r).elim]
def T4(r:RelV v u):PySem.W.handedIn u=wf:=by
 cases v with
 |non=>cases(show u=UM from r);rfl
 |bl b=>cases(show u=UN b from r);rfl
 |int i=>have⟨t,e⟩:=(show∃t,u=VI i t from r);cases e;rfl
 |str x=>have⟨t,e⟩:=(show∃t,u=Z8 x t from r);cases e;rfl
 |byt b=>have⟨t,e⟩:=(show∃t,u=Value.bytes b t from r);cases e;rfl
 |flt b=>have⟨t,e⟩:=(show∃t,u=Bx b t from r);cases e;rfl
 |ref a=>cases(show u=XC a from r);rfl
 |ty n=>cases(show u=ZG n from r);rfl
section
variable{P:Xr}{w:Xm}{H H':Hp}{h h':Heap}{a C dx:Addr}{fs fs':List (Str×V)}
def WM(l:HOk P w H h)(e:H a=wc (.ins C dx fs)):∃j,ObjM h a dx C j/\(∀f,RelO (fs.lookup f) (j f))/\Dx j (fs.map (·.1))/\fs.length<=1000/\H dx=wc (.own a):=by
 have⟨d,z,u,y,j,n,r,q⟩:=(show ObjOk P w H h a (.ins C dx fs)from l a _ e);erw[⟨j,⟨y,n,u⟩,r,q,z,d⟩]
end
structure Cls (K:X3)(C:Addr):Prop where
 pg:Be K C VR=wf
 hd:Di K C=wf
 po:PySem.W.plainOver K C=wf
 sa:Y7 K (.ref C) "__setattr__"=wc (wc (.builtin "object.__setattr__"))
def Cls.get{K:X3}(c:Cls K C)(f:Str):Be K C f=wf:=c.pg
def NoAttr(K:X3)(C:Addr)(f:Str):Prop:=Y7 K (.ref C) f=wc we
def NoAttr.taker{K:X3}(n:NoAttr K C f):Dj K C f=wc we:=by
 unfold Dj;rw[show Y7 K (.ref C) f=wc we from n]
 rfl
structure Meth (K:X3)(C:Addr)(m:Str)(f:Addr):Prop where
 at_:Y7 K (.ref C) m=wc (wc (.ref f))
 fn:Bj K (.ref f)=wf
 kp:Zm K (.ref f)=wf
section
variable{X:Cx}{pq:List (Addr×Obj)}{σ:St}{H:Hp}{s:X1}{a C dx:Addr}{fs:List (Str×V)}{f:Str}{v:V}{A:Xw}{E:X0->X1->Prop}
def T5(I:Inv X pq σ H s)(e:H a=wc (.ins C dx fs))(c:Cls X.K C)(n:NoAttr X.K C f)(l:fs.lookup f=wc v)
  (h:∀u j,Inv X pq σ H j->RelV v u->Q u j):X4 (X8 X.prog X.w) A (getAttr (.ref a) f b) Q E s:=by
 have⟨y,O,r,_,_,_⟩:=WM I.hok e;have⟨u,z,w⟩:=RelO.some_of (v:=v) (o:=y f) (by rw[<-l];erw[r f])
 erw[T0 I.kIn O (c.get f) c.hd n z (T4 w) (h u _ (I.tok _) w)]
def GW(I:Inv X pq σ H s)(e:H a=wc (.ins C dx fs))(c:Cls X.K C)(k:Meth X.K C m g)(l:fs.lookup m=we)
  (h:Q (.ref g,[.ref a]) s):X4 (X8 X.prog X.w) A (getMethod (.ref a) m pl) Q E s:=by
 have⟨j,O,r,_,_,_⟩:=WM I.hok e;have u:j m=we:=RelO.none_of (by rw[<-l];erw[r m])
 erw[T1 I.kIn O (c.get m) k.at_ k.fn u h]
def T6(I:Inv X pq σ H s)(e:H a=wc (.ins C dx fs))(c:Cls X.K C)(n:NoAttr X.K C f)(U:fs.length<1000)(p:RelV y u)
  (h:∀l,Inv X pq σ (upd H a (.ins C dx (putF f y fs))) l->Q () l):X4 (X8 X.prog X.w) A (setAttr (.ref a) f u) Q E s:=by
 have⟨w,O,r,m,_,d⟩:=WM I.hok e;have L:(fs.map (·.1)).length<=sizeLine:=by rw[X5,sizeLine_eq];lia
 erw[T2 I.kIn O c.sa c.po n.taker c.hd m L λN j P=>h _ ?_];have hd:∃o,N.get? dx=wc o:=let⟨o,_,_,e',_⟩:=j.ns;⟨o,e'⟩
 erw[I.write (x:=a) (e:=dx) (by rw[e];erw[YF]) (.inr d) (λb q R z=>(P.2 b R).trans z) hd ?_]
 erw[⟨by rw[XE O.ne];erw[d],?_,O.ne,j.obj,_,j.ns,λg=>?_,λg T=>?_⟩]
 .have:=GV f y fs;lia
 .show RelO ((putF f y fs).lookup g) (if g=f then wc u else w g);rw[GU];by_cases q:g=f
  .rw[if_pos q,if_pos q];erw[p]
  .rw[if_neg q,if_neg q];erw[r g]
 .by_cases q:g=f
  .rw[q];erw[(DD f y fs).1]
  .erw[(DD f y fs).2 g (m g λz=>T ?_)];show(if g=f then wc u else w g)=we;rw[if_neg q];erw[z]
def Inv.made(I:Inv X pq σ H s):Inv X pq σ (upd (upd H s.heap.objs.size (.own (s.heap.objs.size+1))) (s.heap.objs.size+1) (.ins C s.heap.objs.size []))
  {s with heap:=(s.heap.push Uc).push (UI C s.heap.objs.size)}:=by
 have j:(s.heap.push Uc).get? s.heap.objs.size=wc Uc:=XT s.heap rfl;have w:((s.heap.push Uc).push (UI C s.heap.objs.size)).get? (s.heap.objs.size+1)=wc (UI C s.heap.objs.size):=by
  have:=XT (s.heap.push Uc) (o:=UI C s.heap.objs.size) rfl
  rwa [Ud]at this
 have z:(s.heap.push Uc).Ns s.heap.objs.size (λ_=>we):=⟨Uc,#[],_,j,rfl,(λe m=>absurd m (by simp)),λ_=>rfl⟩
 have g:=I.laid (a:=s.heap.objs.size) (o:=.own (s.heap.objs.size+1)) (h':=s.heap.push Uc) (t':=s.toks) (λb u q=>Xt _ q) (Xa _) ⟨_,j⟩;erw[g.laid (a:=s.heap.objs.size+1) (o:=.ins C s.heap.objs.size []) (t':=s.toks) (λb u q=>Xt _ q) (Vf (Ud _ _)) ?_];have l:s.heap.objs.size≠s.heap.objs.size+1:=XG (ZC _);erw[⟨by rw[XE l,_I],Yg _,l,w,λ_=>we,(Heap.Ns1.of_empty z).at λo q=>Xt _ q,λ_=>YF,λy d=>absurd rfl d⟩]
def T7(l:UB e f env (eval e env)=eval e env)
  (h:X4 (X8 prog w) A (eval e env) (λo j=>X4 (X8 prog w) A (getAttr o f wf) Q E j) E s):X4 (X8 prog w) A (eval (.Attribute e f pos) env) Q E s:=
 Attribute_any_ h (by rw[arm_eval_Attribute,l])
end
def tFld(K:X3)(l:TE)(f:Str):TE:=λu H Q=>l u H λx j=>∃a C w fs v,x=.ref a/\j a=wc (.ins C w fs)/\Cls K C/\NoAttr K C f/\fs.lookup f=wc v/\Q v j
def sFld(K:X3)(w z:TE)(f:Str):TS:=λD j H=>z j H λy m=>w j m λx l=>∃a C u fs,x=.ref a/\l a=wc (.ins C u fs)/\Cls K C/\NoAttr K C f/\fs.length<1000/\
 D.nx j (upd l a (.ins C u (putF f y fs)))
section
variable{X:Cx}{o e value:Expr}{f:Str}{pos pos' tpos:Pos}{ta tv:TE}
def T8(j:PE X e ta)(w:UB e f X.env (eval e X.env)=eval e X.env):PE X (.Attribute e f pos) (tFld X.K ta f):=by
 intro y s z H Q I h;erw[T7 w (thn (j y s z H _ I h) λu P m=>?_)];have⟨x,g,d,r,a,C,R,fs,v,p,L,c,n,l,q⟩:=m;subst p;obtain rfl:u=XC a:=r;erw[T5 d L c n l λT U N O=>⟨v,g,N,O,q⟩]
def T9(z:PE X o ta)(m:PE X value tv)(g:ZP value (wc (.Attribute o f pos')) pos.line X.env=pure wg):PS X (.Assign [.Attribute o f pos'] value pos) (sFld X.K ta tv f):=by
 intro w s j H D I h;erw[plainObj_wpAny_Assign_Attribute (thn (m w s j H _ I h) λu d ⟨y,r,p,L,q⟩=>thn (z w d j r _ p q) λN Z O=>?_) g];have⟨x,A,P,R,a,C,B,fs,T,U,c,n,l,W⟩:=O;subst T;obtain rfl:N=XC a:=R;erw[T6 P U c n l L λE Y=>⟨j,_,Y,W⟩]
end
section
variable{X:Cx}{pq:List (Addr×Obj)}{σ:St}{H:Hp}{s:X1}{A:Xw}{E:X0->X1->Prop}{Q:X0->X1->Prop}{c:X0}{b:Bool}
inductive TyOf (K:X3)(H:Hp):V->X0->Prop where
 |non:TyOf K H .non (.type "NoneType")
 |bl (x:Bool):TyOf K H (.bl x) (.type "bool")
 |int (i:Int):TyOf K H (.int i) (.type "int")
 |str (x:Str):TyOf K H (.str x) (.type "str")
 |flt (x:UInt64):TyOf K H (.flt x) (.type "float")
 |lst {a:Addr} {xs:List V} (e:H a=some (.lst xs)):TyOf K H (.ref a) (.type "list")
 |frz {a:Addr} {o:Obj} {xs:List V} (e:H a=some (.frz o (.lst xs))):TyOf K H (.ref a) (.type "list")
 |tup {a:Addr} {xs:List V} (e:H a=some (.tup xs)):TyOf K H (.ref a) (.type "tuple")
 |dK {a:Addr} {kvs:List (Key×V)} (e:H a=some (.dK kvs)):TyOf K H (.ref a) (.type "dict")
 |dT {a:Addr} {kvs:List (List Key×V)} (e:H a=some (.dT kvs)):TyOf K H (.ref a) (.type "dict")
 |ins {a C dx:Addr} {fs:List (Str×V)} (e:H a=some (.ins C dx fs))(cl:Cls K C)(ha:Y7 K (.ref C) "__class__"=some (some (.builtin "object.__class__")))
   (hn:PySem.W.specialIn K (.builtin "object.__class__") "__get__"=some (some (.builtin "getset_descriptor.__get__")))(htk:PySem.W.takesIn K (.builtin "object.__class__")=some true)
   (hm:PySem.W.mroIn K C (.type "object")=some true):TyOf K H (.ref a) (.ref C)
def Ta{t:X0}(I:Inv X pq σ H s)(j:RelV x u)(ty:TyOf X.K H x t)(e:Ve X.K t c=wc b)(h:∀L,Q (.bool b) {s with toks:=L}):
  X4 (X8 X.prog X.w) A (call (.builtin "isinstance") [u,c]) Q E s:=by
 cases ty with
 |non=>cases(show u=UM from j);erw[Zz PySem.W.kitx_none I.kIn YF e (λz=>nomatch z) h]
 |bl y=>cases(show u=UN y from j);erw[Zz PySem.W.kitx_bool I.kIn YF e (λz=>nomatch z) h]
 |int i=>have⟨t,q⟩:=(show∃t,u=VI i t from j);cases q;erw[Zz PySem.W.kitx_int I.kIn YF e (λz=>nomatch z) h]
 |str y=>have⟨t,q⟩:=(show∃t,u=Z8 y t from j);cases q;erw[Zz PySem.W.kitx_str I.kIn YF e (λz=>nomatch z) h]
 |flt y=>have⟨t,q⟩:=(show∃t,u=Bx y t from j);cases q;erw[Zz PySem.W.kitx_float I.kIn YF e (λz=>nomatch z) h]
 | @lst a g l=>
  cases(show u=XC a from j);have⟨_,_,n,_,w⟩:=(show ObjOk X.prog X.w H s.heap a (.lst g)from I.hok a _ l);erw[Zz Bc I.kIn ⟨_,w,rfl⟩ e (λz=>nomatch z) h]
 | @frz a N g l=>
  cases(show u=XC a from j);have⟨_,_,_,n,_,w⟩:=(show ObjOk X.prog X.w H s.heap a (.frz N (.lst g))from I.hok a _ l);erw[Zz Bc I.kIn ⟨_,w,rfl⟩ e (λz=>nomatch z) h]
 | @tup a g l=>
  cases(show u=XC a from j);have⟨_,_,_,p⟩:=(show ObjOk X.prog X.w H s.heap a (.tup g)from I.hok a _ l);have⟨o,w,d,_⟩:=p.1;erw[Zz PySem.W.kitx_tuple I.kIn ⟨o,w,d⟩ e (λz=>nomatch z) h]
 | @dK a m l=>
  cases(show u=XC a from j);have⟨_,_,Y,_,p⟩:=(show ObjOk X.prog X.w H s.heap a (.dK m)from I.hok a _ l);have⟨o,P,R,w,d,_⟩:=p;erw[Zz Bd I.kIn ⟨o,w,d.1⟩ e (λz=>nomatch z) h]
 | @dT a m l=>
  cases(show u=XC a from j);have⟨_,_,g,_,o,P,R,w,d,_⟩:=(show ObjOk X.prog X.w H s.heap a (.dT m)from I.hok a _ l);erw[Zz Bd I.kIn ⟨o,w,d.1⟩ e (λz=>nomatch z) h]
 | @ins a C Z fs l r T U f W=>
  cases(show u=XC a from j);have⟨B,O,_⟩:=WM I.hok l;have⟨D,J,_⟩:=O.look;erw[Zz (PySem.W.kitx_own (r.get _) r.hd T U f W) I.kIn J e (λz=>nomatch z) h]
end
structure Room (k:Nat)(A:Xw):Prop where
 hd:A.handled=we
 dp:A.depth+3*k+5<recursionLimit
 un:A.units+16*k+200<cLine
def Room.mono{k:Nat}(r:Room k A)(h:j<=k):Room j A:=⟨r.hd,by have:=r.dp;lia,by have:=r.un;lia⟩
theorem Room.deeper{k:Nat}(r:Room (k+1) A)(j:Env):Room k (A.deeper j):=
 ⟨r.hd,by have:=r.dp;show A.depth+1+3*k+5<_;lia,by have:=r.un;show A.units+3+16*k+200<_;lia⟩
def Tb{A:Xw}{C:Addr}{j:List X0}{l:List (Str×X0)}:(A.under (.builtin "type.__call__" ⟨.ref C::j,l⟩)).depth=A.depth+1:=by
 first|rfl|simp[Dv,Code.weight,Code.isCreation,Code.isGuard,Code.isCaller,Code.frames,Code.isFrame,guardIds]
def Tc{A:Xw}{C:Addr}{j:List X0}{l:List (Str×X0)}:(A.under (.builtin "type.__call__" ⟨.ref C::j,l⟩)).units=A.units+1:=by
 first|rfl|simp[Dv,Code.cUnits,Code.frames,Code.isFrame]
def Room.make{k:Nat}(r:Room (k+1) A)(C:Addr)(us:List X0)(j:List (Str×X0)):Room k (A.under (.builtin "type.__call__" ⟨.ref C::us,j⟩)):=
 ⟨r.hd,by have:=r.dp;rw[Tb];lia,by have:=r.un;rw[Tc];lia⟩
theorem Room.depth{k:Nat}(r:Room k A):A.depth<recursionLimit:=by have:=r.dp;lia
noncomputable def tNil:TA:=λ_ H Q=>Q [] H
noncomputable def VX(l:TE)(u:TA):TA:=λj H Q=>l j H λx w=>u j w λy z=>Q (x::y) z
section
variable{X:Cx}{e:Expr}{es:List Expr}{te:TE}{t:TA}{pos:Pos}
def pa_nil:PA X [] tNil:=λ_ _ _ _ H Q I h=>WJ ⟨[],H,I,.nil,h⟩
def WN(w:PE X e te)(y:PA X es t)(z:Xx (e::es) X.env=(wg,eval e X.env)::Xx es X.env:=by rfl):PA X (e::es) (VX te t):=by
 intro pos j s l H Q I h;rw[z];show X4 _ _ (spliced ((wg,eval e X.env)::Y5 pos (Xx es X.env))) _ _ s;erw[WI (thn (w j s l H _ I h) λu m g=>?_)];have⟨x,d,c,f,q⟩:=g;erw[thn (y pos j m l d _ c q) λP R ⟨r,p,L,N,O⟩=>⟨x::r,p,L,.cons f N,O⟩]
def tTup(t:TA):TE:=λu H Q=>t u H λj l=>j.length<=sizeLine/\∀p,l p=we->Q (.ref p) (upd l p (.tup j))
def tLst(t:TA):TE:=λu H Q=>t u H λj l=>j.length<=sizeLine/\∀p,l p=we->Q (.ref p) (upd l p (.lst j))
def Td{y}(h:PA X es t):PE X (.Tuple es y pos) (tTup t):=by
 intro m s g H Q I d;erw[wpAny_Tuple_spliced (thn (h pos m s g H _ I d) λc j ⟨f,l,w,r,z,q⟩=>⟨by rw[<-r.length];erw[z],?_⟩)]
 have p:l j.heap.objs.size=we:=w.hok.fresh (Xa _);erw[⟨.ref j.heap.objs.size,upd l j.heap.objs.size (.tup f),w.laid (t':=j.toks) (λb u e=>Xt _ e) (Xa _) ?_,rfl,q _ p⟩];erw[⟨z,c,r,⟨_,XT _ rfl,rfl,_,rfl⟩,_,XT _ rfl,rfl⟩]
def Te(h:PA X es t):PE X (.List es pos) (tLst t):=by
 intro y s m H Q I g;erw[wpAny_List_spliced (thn (h pos y s m H _ I g) λd j ⟨c,l,w,r,z,q⟩=>⟨by rw[<-r.length];erw[z],?_⟩)]
 have f:l j.heap.objs.size=we:=w.hok.fresh (Xa _);erw[⟨.ref j.heap.objs.size,upd l j.heap.objs.size (.lst c),w.laid (t':=j.toks) (λb u e=>Xt _ e) (Xa _) ?_,rfl,q _ f⟩];erw[⟨z,d,0,r,XT _ rfl⟩]
end
abbrev Sp:=List V->Hp->VK->XK->Prop
abbrev CXT:=List Env->Hp->X1->XK->X0->X1->Prop
structure Env0 (P:Xr)(w:Xm)(K:X3)(mg:Str->Option X0)(base:Heap)(A:Xw)(outer:List Env)(s:X1)(H:Hp):Prop where
 frames:A.frames=wc outer
 mod:Mod K mg base
 bs:∀b o,base.get? b=wc o->s.heap.get? b=wc o/\H b=we
 bsz:base.objs.size<=s.heap.objs.size
 funs:s.heap.FunFrames base outer
 frf:∀b∈frs outer,H b=we
 hok:HOk P w H s.heap
 bare:AllBare s.gens
def CE(j:List Env)(P:Xr)(w:Xm)(H:Hp)(s:X1)(Q:VK)(u:X0)(l:X1):Prop:=
 ∃v y,l.os=s.os/\AllBare l.gens/\Un (frs j) [] H y s.heap l.heap/\HOk P w y l.heap/\RelV v u/\Q v y
def CR(y:CXT)(j:List Env)(P:Xr)(w:Xm)(H:Hp)(s:X1)(Q:VK)(E:XK)(r:Result)(l:X1):Prop:=
 match r with
 |.ok (.ret u)=>CE j P w H s Q u l
 |.ok _=>False
 |.error e=>y j H s E e l
structure FnOk (P:Xr)(w:Xm)(K:X3)(mg:Str->Option X0)(base:Heap)(CX:CXT)(k:Nat)(f:Addr)(fd:Zd)(ps:List Str)(sp:Sp):Prop where
 len:∀vs H Q E,sp vs H Q E->vs.length=ps.length
 run:∀(A:Xw)(outer:List Env)(s:X1)(H:Hp)(args:Args)(us:List X0)(vs:List V)(Q:VK)(E:XK),Room k A->Env0 P w K mg base A outer s H->BindsTo s fd args (ps.zip us)->Vals vs us->sp vs H Q E->
  YY (X8 P w) A (.call (.ref f) args) (CR CX outer P w H s Q E) s
theorem FnOk.mono{K:X3}{k:Nat}(F:FnOk P w K mg base CX j f fd ps sp)(h:j<=k):
  FnOk P w K mg base CX k f fd ps sp:=⟨F.len,λA l s H u y z Q E m=>F.run A l s H u y z Q E (m.mono h)⟩
def FnOk.imp{K:X3}{k:Nat}(F:FnOk P w K mg base CX k f fd ps sp)
  (h:∀l H Q E,sp' l H Q E->sp l H Q E):FnOk P w K mg base CX k f fd ps sp':=
 ⟨λl H Q E q=>F.len l H Q E (h _ _ _ _ q),λA j s H u y l Q E z m g d c=>F.run A j s H u y l Q E z m g d (h _ _ _ _ c)⟩
def Env0.make{K:X3}(e:Env0 P w K mg base A outer s H)(C:Addr)(us:List X0)(j:List (Str×X0)):
  Env0 P w K mg base (A.under (.builtin "type.__call__" ⟨.ref C::us,j⟩)) outer s H:=⟨by first|erw[e.frames]|(simpa [Dv,Code.envs,Code.isFrame,pushEnvs]using e.frames),e.mod,e.bs,e.bsz,e.funs,e.frf,e.hok,e.bare⟩
section
variable{X:Cx}{pq:List (Addr×Obj)}{σ:St}{H:Hp}{s s':X1}
def Inv.env0(I:Inv X pq σ H s):Env0 X.prog X.w X.K X.mg X.base X.A X.stack s H:=
 ⟨I.ok.frames,I.ok.mod,I.bs,Xy I.ok.bsz I.sz,I.stack,I.stkFree,I.hok,I.bare⟩
def Inv.after(I:Inv X pq σ H s)(h:CE X.stack X.prog X.w H s Q u s'):EP X pq σ Q u s':=by
 have⟨v,y,os,j,un,l,r,q⟩:=h;have⟨m,g,d,t,w⟩:=s';obtain rfl:w=s.os:=os;erw[⟨v,y,I.call (h':=m) (L:=g) (P:=d) (O:=t) (y:=[]) un l j (λb z=>absurd z (by simp)),r,q⟩]
end
def Tf(l:Sp)(j:List V)(E:XK)(t:TA):TE:=λu H Q=>t u H λw y=>l (w++j) y Q E
def GX(C:Addr)(m:Str)(w:Sp)(j:List V)(E:XK)(y:TE)(t:TA):TE:=λl H Q=>y l H λx u=>∃a z fs,x=.ref a/\u a=wc (.ins C z fs)/\fs.lookup m=we/\
 t l u λg d=>w (x::(g++j)) d Q E
def Tg(C:Addr)(w:Sp)(l:List V)(E:XK)(t:TA):TE:=λy H Q=>t y H λz u=>∀x j,u x=we->u j=we->j≠x->
 w (.ref x::(z++l)) (upd (upd u j (.own x)) x (.ins C j [])) (λv m=>v=.non/\Q (.ref x) m) E
def Binds(K:X3)(w:Zd)(l:List Str)(u:List X0):Prop:=
 ∀(s:X1)(j:List X0),K.In s.heap->(j++u).length=l.length->BindsTo s w ⟨j,[]⟩ (l.zip (j++u))
def Binds.all{K:X3}(h:∀us:List X0,us.length=ps.length->bindArgs fd ⟨us,[]⟩=pure (ps.zip us)):Binds K fd ps []:=λs us _ j=>by
 rw[YS]at j ⊢;erw[.of_eq (h us j)]
def Vm(l:CXT)(X:Cx)(E:XK):Prop:=∀(u:List (Addr×Obj))(w:St)(H:Hp)(s:X1)(e:X0)(j:X1),Inv X u w H s->l X.stack H s E e j->X.xe e j
section
variable{X:Cx}{CX:CXT}{k:Nat}{f C:Addr}{fd:Zd}{ps:List Str}{sp:Sp}{dvs:List V}{ds:List X0}{E:XK}{x m:Str}{p pos apos:Pos}{e o:Expr}{es:List Expr}{ta:TE}{t:TA}
def DE(F:FnOk X.prog X.w X.K X.mg X.base CX k f fd ps sp)(w:Room k X.A)(y:Binds X.K fd ps ds)(hd:Vals dvs ds)(z:Vm CX X E)
  (I:Inv X pq σ H s)(r:Vals vs us)(h:sp (vs++dvs) H Q E):X4 (X8 X.prog X.w) X.A (call (.ref f) us) (EP X pq σ Q) X.xe s:=by
 have l:Vals (vs++dvs) (us++ds):=r.append hd;have g:(us++ds).length=ps.length:=by rw[<-l.length];erw[F.len _ _ _ _ h]
 erw[wpAny_call (Vy (F.run X.A X.stack s H ⟨us,[]⟩ (us++ds) (vs++dvs) Q E w I.env0 (y s us I.kIn g) l h) λr d j=>?_)];cases r with
 |error e=>erw[z pq σ H s e d I j]
 |ok c=>
  cases c with
  |ret u=>erw[I.after j]
  |next=>erw[Ya j]
  |brk=>erw[Ya j]
  |cont=>erw[Ya j]
def Th(F:FnOk X.prog X.w X.K X.mg X.base CX k f fd ps sp)(w:Room k X.A)(y:Gl X x)(z:X.mg x=wc (.ref f))(g:Zm X.K (.ref f)=wf)(d:Binds X.K fd ps ds)(hd:Vals dvs ds)(c:Vm CX X E)
  (L:PA X (e::es) t)(j:(x==("__debug__":Str))=wg:=by decide)(N:Xx (e::es) X.env=(wg,eval e X.env)::Xx es X.env:=by rfl)(l:(Y5 pos (Xx es X.env)).any (·.1)=wg:=by rfl):
  PE X (.Call (.Name x p) (e::es) [] pos) (Tf sp dvs E t):=by
 intro O s P H Q I h;erw[UC (DB I y z ?_ j)];erw[Dg (h₀:=X.base) I.ok.mod.kin g (thn (L pos O s P H _ I h) λR T ⟨U,W,u,r,q⟩=>⟨u.kIn,?_⟩) N l];erw[DE F w d hd c u r q]
def Ti{y:Sem Bool}(O:PE X o ta)(c:Cls X.K C)(z:Meth X.K C m f)(F:FnOk X.prog X.w X.K X.mg X.base CX k f fd ps sp)(P:Room k X.A)(R:Binds X.K fd ps ds)(hd:Vals dvs ds)(T:Vm CX X E)(U:PA X (e::es) t)
  (j:Xx (e::es) X.env=(wg,eval e X.env)::Xx es X.env:=by rfl)(w:(Y5 pos (Xx es X.env)).any (·.1)=wg:=by rfl)
  (W:eval (.Call (.Attribute o m apos) (e::es) [] pos) X.env=(do
   let ov<- eval o X.env
   standAt apos.atName
   let(f,first)<- Zc [ov] (getMethod ov m y)
   callWith pos f first (Y5 pos (Xx (e::es) X.env)) (U7 pos (U8 [] X.env))):=by rfl):
  PE X (.Call (.Attribute o m apos) (e::es) [] pos) (GX C m sp dvs E ta t):=by
 intro g s d H Q I h;erw[FX (pl:=y) (thn (O g s d H _ I h) λu Y Z=>?_) W];have⟨x,A,L,B,a,v,fs,D,G,l,q⟩:=Z;subst D;obtain rfl:u=XC a:=B;erw[GW L G c z l ?_];erw[Dg (first:=[.ref a]) (h₀:=X.base) I.ok.mod.kin z.kp (thn (U pos g Y d A _ L q) λJ i ⟨M,n,N,r,S⟩=>⟨N.kIn,?_⟩) j w]
 erw[DE (us:=.ref a::J) (vs:=.ref a::M) F P R hd T N (.cons rfl r) S]
def Tj{w:Sem Bool}(z:PE X o ta)(c:Cls X.K C)(y:Meth X.K C m f)(F:FnOk X.prog X.w X.K X.mg X.base CX k f fd ps sp)(g:Room k X.A)(d:Binds X.K fd ps ds)(hd:Vals dvs ds)(r:Vm CX X E)
  (L:eval (.Call (.Attribute o m apos) [] [] pos) X.env=(do
   let ov<- eval o X.env
   standAt apos.atName
   let(f,first)<- Zc [ov] (getMethod ov m w)
   callWith pos f first (Y5 pos (Xx [] X.env)) (U7 pos (U8 [] X.env))):=by rfl):
  PE X (.Call (.Attribute o m apos) [] [] pos) (GX C m sp dvs E ta tNil):=by
 intro N s O H Q I h;erw[FX (pl:=w) (thn (z N s O H _ I h) λu W P=>?_) L];have⟨x,Y,j,R,a,Z,fs,T,U,l,q⟩:=P;subst T;obtain rfl:u=XC a:=R;erw[GW j U c y l ?_];erw[PySem.W.callWith_K0 (first:=[.ref a]) j.kIn y.kp (DE (us:=[.ref a]) (vs:=[.ref a]) F g d hd r j (.cons rfl .nil) q)]
structure Mk (K:X3)(C f:Addr):Prop where
 makes:Dk K C=wf
 init:Y7 K (.ref C) "__init__"=wc (wc (.ref f))
 fn:Bj K (.ref f)=wf
 kp:Zm K (.ref C)=wf
def Tk(M:Mk X.K C f)(F:FnOk X.prog X.w X.K X.mg X.base CX k f fd ps sp)(g:Room (k+1) X.A)(d:Binds X.K fd ps ds)(hd:Vals dvs ds)
  (c:Vm CX X E)(I:Inv X pq σ H s)(r:Vals vs us)
  (h:∀x l,H x=we->H l=we->l≠x->sp (.ref x::(vs++dvs)) (upd (upd H l (.own x)) x (.ins C l [])) (λv q=>v=.non/\Q (.ref x) q) E):
  X4 (X8 X.prog X.w) X.A (call (.ref C) us) (EP X pq σ Q) X.xe s:=by
 have y:=h (s.heap.objs.size+1) s.heap.objs.size (I.hok.fresh (YT _)) (I.hok.fresh (Xa _)) (XG (ZC _));have w:=Inv.made (C:=C) I;have z:Vals (V.ref (s.heap.objs.size+1)::(vs++dvs)) (XC (s.heap.objs.size+1)::(us++ds)):=.cons rfl (r.append hd);have L:(XC (s.heap.objs.size+1)::us++ds).length=ps.length:=by
  have e:=z.length;rw[F.len _ _ _ _ y]at e;erw[e.symm]
 erw[wpAny_call (T3 (f:=f) I.kIn M.makes M.init (beq_iff_eq.mp M.fn) (Vy (F.run _ X.stack _ _ ⟨XC (s.heap.objs.size+1)::us,[]⟩ (XC (s.heap.objs.size+1)::(us++ds)) _ _ E (g.make C us [])
  (w.env0.make C us []) (d _ (XC (s.heap.objs.size+1)::us) w.kIn L) z y) λr N j=>?_))]
 cases r with
 |error e=>erw[c pq σ _ _ e N w j]
 |ok O=>
  cases O with
  |ret u=>
   have⟨v,P,R,T,U,W⟩:=w.after j;subst U;erw[⟨T,⟨V.ref (s.heap.objs.size+1),P,R,rfl,W⟩⟩]
  |next=>erw[Ya j]
  |brk=>erw[Ya j]
  |cont=>erw[Ya j]
def Tl(M:Mk X.K C f)(F:FnOk X.prog X.w X.K X.mg X.base CX k f fd ps sp)(w:Room (k+1) X.A)(y:Gl X x)(z:X.mg x=wc (.ref C))(g:Binds X.K fd ps ds)(hd:Vals dvs ds)(d:Vm CX X E)
  (c:PA X (e::es) t)(j:(x==("__debug__":Str))=wg:=by decide)(L:Xx (e::es) X.env=(wg,eval e X.env)::Xx es X.env:=by rfl)(l:(Y5 pos (Xx es X.env)).any (·.1)=wg:=by rfl):
  PE X (.Call (.Name x p) (e::es) [] pos) (Tg C sp dvs E t):=by
 intro N s O H Q I h;erw[UC (DB I y z ?_ j)];erw[Dg (h₀:=X.base) I.ok.mod.kin M.kp (thn (c pos N s O H _ I h) λP R ⟨T,U,u,r,q⟩=>⟨u.kIn,?_⟩) L l];erw[Tk M F w g hd d u r q]
end
section
variable{X:Cx}{CX:CXT}{k:Nat}{f C:Addr}{fd:Zd}{ps ks:List Str}{sp:Sp}{E:XK}{x m:Str}{p pos apos kpos:Pos}{e o:Expr}{es:List Expr}{kws:List Ze}{te ta:TE}{t tk:TA}{nm:Option Str}
variable{g:List X0->List X0->List X0}{gV:List V->List V->List V}
end
structure FnScope (N P:List Str)(sc:Scope):Prop where
 kind:sc.kind=.function
 co:sc.isCoroutine=wg
 gen:sc.isGenerator=wg
 nd:N.Nodup
 pre:N.take P.length=P
 par:∀x∈P,sc.names.lookup x=wc .local\/sc.names.lookup x=wc .cell
 nofree:∀y∈sc.names,y.2≠.free
theorem GY{kindOf:Str->Option Zf}:∀{binds:List (Str×X0)} {m:Str->Option X0},(∀v,(x,v)∉binds)->bindL kindOf binds m x=m x
 |[],_,_=>rfl
 |(n,v)::r,m,h=>by
  unfold bindL;rw[GY λw j=>h w (XJ _ j)];split
  .have:x≠n:=by rintro rfl;erw[h v Y3]
   simp[this]
  .rfl
theorem GZ{kindOf:Str->Option Zf}:∀{binds:List (Str×X0)} {m:Str->Option X0},(∀v,(x,v)∉binds)->bindC kindOf binds m x=m x
 |[],_,_=>rfl
 |(n,v)::r,m,h=>by
  unfold bindC;rw[GZ λw j=>h w (XJ _ j)];split
  .rfl
  .have:x≠n:=by rintro rfl;erw[h v Y3]
   simp[this]
theorem Ha{kindOf:Str->Option Zf}:∀{P:List Str} {j:List X0} {i:Nat} {m:Str->Option X0},P.Nodup->P[i]?=wc x->j[i]?=wc v->kindOf x=wc .local->
  bindL kindOf (P.zip j) m x=wc v
 |[],_,_,_,_,h,_,_=>by simp at h
 |_::_,[],_,_,_,_,h,_=>by simp at h
 |p::P,w::j,0,m,nd,h1,h2,hk=>by
  simp at h1 h2;subst h1;subst h2;show bindL kindOf ((p,w)::P.zip j) m p=_;unfold bindL;rw[GY λv l=>(Yf.mp nd).1 (Db l).1,if_pos hk];simp
 |p::P,w::j,i+1,m,nd,h1,h2,hk=>by
  show bindL kindOf ((p,w)::P.zip j) m x=_;unfold bindL;erw[Ha (i:=i) (Yf.mp nd).2 (by simpa using h1) (by simpa using h2) hk]
theorem Hb{kindOf:Str->Option Zf}:∀{P:List Str} {j:List X0} {i:Nat} {m:Str->Option X0},P.Nodup->P[i]?=wc x->j[i]?=wc v->kindOf x≠wc .local->
  bindC kindOf (P.zip j) m x=wc v
 |[],_,_,_,_,h,_,_=>by simp at h
 |_::_,[],_,_,_,_,h,_=>by simp at h
 |p::P,w::j,0,m,nd,h1,h2,hk=>by
  simp at h1 h2;subst h1;subst h2;show bindC kindOf ((p,w)::P.zip j) m p=_;unfold bindC;rw[GZ λv l=>(Yf.mp nd).1 (Db l).1,if_neg hk];simp
 |p::P,w::j,i+1,m,nd,h1,h2,hk=>by
  show bindC kindOf ((p,w)::P.zip j) m x=_;unfold bindC;erw[Hb (i:=i) (Yf.mp nd).2 (by simpa using h1) (by simpa using h2) hk]
noncomputable def start(N:List Str)(vs:List V):St:=vs.map wc++Xj (N.length - vs.length) we
noncomputable def cxOf(g:CXT)(P:Xr)(w:Xm)(K:X3)(d:Str->Option X0)(z:Heap)(N:List Str)(u:Str)(j:Scope)(f:Addr)(m:X0)(A:Xw)(l:List Env)(s:X1)(H:Hp)(E:XK):Cx where
 prog:=P
 w:=w
 K:=K
 mg:=d
 base:=z
 A:=A.deeper (envOfC u j s.heap.objs.size f m)
 N:=N
 s₀:=s
 H₀:=H
 env:=envOfC u j s.heap.objs.size f m
 outer:=l
 stack:=envOfC u j s.heap.objs.size f m::l
 ex:=[]
 calm:=wf
 fn:=λ_=>wf
 pn:=[]
 xe:=λe c=>X4 (X8 P w) (A.deeper (envOfC u j s.heap.objs.size f m)) (leaving (envOfC u j s.heap.objs.size f m) e) (λ_ y=>g l H s E e y) (λq y=>g l H s E q y) c
def Hc{j:Scope}{n:Nat}{x:Str}(h:j.names.lookup x=wc .cell):∃c,(cellsFrom n j.names []).lookup x=wc c:=by
 have q:=FW j.names n [] (.inl h);erw[Option.isSome_iff_exists.mp q]
def Tn{G:CXT}{P:Xr}{w:Xm}{K:X3}{D:Str->Option X0}{d:Heap}{N O:List Str}{m:Str}{j:Scope}{f:Addr}{Z:X0}{A:Xw}{l:List Env}{s I:X1}{H:Hp}{E:XK}{F:List X0}{R:List V}
  (S:FnScope N O j)(hd:A.handled=we)(L:Env0 P w K D d A l s H)(hl:R.length=O.length)(r:Vals R F)
  (x:InCallC s s.heap.objs.size (bindL (envOfC m j s.heap.objs.size f Z).kindOf (O.zip F) λ_=>we) (cellsFrom (s.heap.objs.size+1) j.names []) (bindC (envOfC m j s.heap.objs.size f Z).kindOf (O.zip F) λ_=>we) I):
  Inv (cxOf G P w K D d N m j f Z A l s H E) [] (start N R) H I:=by
 have Q:O.length<=N.length:=by have:=congrArg Wy S.pre;rw[Yl]at this;lia
 have⟨B,tk,rfl,J⟩:=x.done;have T:∀b:Addr,b∉(cxOf G P w K D d N m j f Z A l s H E).ex:=λb z=>absurd (show b∈([]:List Addr)from z) (by simp)
 erw[⟨⟨L.mod,S.kind,rfl,rfl,Xa _,λy z c B g=>?_,λy U=>?_,λy c _ h=>?_,λ_=>hd,Around.frames_deeper L.frames,.inr ⟨rfl,rfl⟩,λb z=>absurd z (T b),L.bs,L.bsz,λb _ _=>T b,λb z=>absurd z (T b),L.funs,L.frf⟩,
  rfl,L.bare,Un.kept J,⟨_,x.toInCall.ns,λi y v B g h3=>?_⟩,λy c h=>⟨_,x.cell y c h⟩,L.hok.fresh (Xa _),λy c h=>?_,λp W=>absurd (show p∈([]:List (Addr×Obj))from W) (by simp),L.hok.kept J,?_⟩]
 .erw[name_of_addr x.apart (VP B) (VP g)]
 .have U:j.names.lookup y=wc .cell\/j.names.lookup y=wc .free:=U;rcases U with U|U
  .erw[Hc U]
  .erw[absurd rfl (S.nofree _ (VP U))]
 .erw[ZF (x.above y c (VP h))]
 .have C:i<R.length:=by
   unfold start at g;by_cases C:i<R.length
   .erw[C]
   .rw[Zi (by simpa using C)]at g
    rw[FU]at g;split at g<;>cases g
  have X:R[i]?=wc v:=by
   unfold start at g;rw[Zv (by simpa using C),Xe]at g
   cases e:R[i]? with
   |none=>rw[e]at g;cases g
   |some a=>rw[e]at g;cases g;rfl
  have⟨u,M,o⟩:=r.get X;have W:O[i]?=wc y:=by
   rw[<-S.pre,List.getElem?_take_of_lt (by lia)];erw[B]
  have Y:O.Nodup:=by rw[<-S.pre];erw[S.nd.sublist (List.take_sublist _ _)]
  erw[⟨u,o,?_⟩];rcases S.par y (Xb W)with k|k
  .erw[.inl ⟨k,Ha Y W M k⟩]
  .have⟨c,e⟩:=Hc (n:=s.heap.objs.size+1) k;erw[.inr ⟨.inl k,c,e,?_⟩];have q:=x.cell y c e;rw[Hb Y W M (by show j.names.lookup y≠_;rw[k];decide)]at q
   erw[q]
 .erw[L.hok.fresh (ZF (x.above y c (VP h)))]
 .unfold start;show _=N.length;rw[XR,X5,Z5];lia
def To{K:X3}{k:Nat}{name:Str}{kV:X0}
    (D:K.lookup f=wc ⟨oc,od,.func (ZB name qual params body scope dV kV doc pm an cdv ct),osl⟩)(R:Bg K cdv qual=wf)(S:FnScope N ps scope)
  (len:∀l H Q E,sp l H Q E->l.length=ps.length)
  (g:∀(A:Xw)(j:List Env)(s:X1)(H:Hp)(l:List V)(Q:VK)(E:XK),Room k (A.deeper (envOfC qual scope s.heap.objs.size f cdv))->sp l H Q E->
   ∃t,PSs (cxOf CX P w K mg base N qual scope f cdv A j s H E) body t/\t {nx:=λ_ m=>Q .non m,rt:=Q} (start N l) H):
  FnOk P w K mg base CX (k+1) f (ZB name qual params body scope dV kV doc pm an cdv ct) ps sp:=by
 erw[⟨len,λA j s H Z F l Q E T p G r L=>?_⟩];have M:=len _ _ _ _ L;have B:K.In s.heap:=p.mod.kin.keeps λb o e=>(p.bs b o e).1;have U:s.heap.NoLimit:=p.mod.nolimit.keeps λb o e=>(p.bs b o e).1;have d:∀y∈ps.zip F,scope.names.lookup y.1=wc .local\/(scope.names.lookup y.1=wc .cell/\((cellsFrom (s.heap.objs.size+1) scope.names []).lookup y.1).isSome=wf):=fun⟨n,v⟩ X=>by
  rcases S.par n (Db X).1 with q|q
  .erw[.inl q]
  .erw[.inr ⟨q,FW _ _ _ (.inl q)⟩]
 erw[codeAny_call_function T.depth (B _ _ D) rfl S.co S.gen rfl (PySem.W.codeRec_of B R) (G _ _ _ _ ?_)];erw[wpAny_newFunctionEnv_cells S.kind d λi h C x=>?_];subst h;erw[⟨U.keeps x.toInCall.keep,codeAny_func ?_⟩];have⟨t,a,hq⟩:=g A j s H l Q E (T.deeper _) L;have I:Inv (cxOf CX P w K mg base N qual scope f cdv A j s H E) [] (start N l) H C:=Tn S T.hd p M r x;erw[ZN (a [] C (start N l) H _ I hq) (λfl W c=>?_) λe W c=>c];have O:∀{z:St} {m:Hp} {v:V} {u:X0},Inv (cxOf CX P w K mg base N qual scope f cdv A j s H E) [] z m W->RelV v u->Q v m->CE j P w H s Q u W:=
  fun{z m v u} J Y q=>⟨v,m,J.os,J.bare,J.base,J.hok,Y,q⟩
 cases fl with
 |ret u=>
  have⟨v,z,m,J,Y,q⟩:=c;erw[O J Y q]
 |next=>
  have⟨z,m,J,q⟩:=c;erw[O (v:=V.non) (u:=UM) J rfl q]
 |brk=>
  have⟨_,_,_,q⟩:=c;erw[Ya q]
 |cont=>
  have⟨_,_,_,q⟩:=c;erw[Ya q]
section
variable{X:Cx}{x:Str}{p pos:Pos}{e:Expr}{es:List Expr}{t:TA}{id T:String}{r:List V->Hp->VK->Prop}
def tCB(r:List V->Hp->VK->Prop)(t:TA):TE:=λj H Q=>t j H λl u=>r l u Q
def Tp(y:YG X (.builtin id) r)(z:Gl X x)(m:X.mg x=we)(g:YE x=wc (.builtin id))(d:PA X (e::es) t)(c:x≠"__name__":=by decide)(j:(x==("__debug__":Str))=wg:=by decide)
  (f:Xx (e::es) X.env=(wg,eval e X.env)::Xx es X.env:=by rfl)(l:(Y5 pos (Xx es X.env)).any (·.1)=wg:=by rfl):PE X (.Call (.Name x p) (e::es) [] pos) (tCB r t):=by
 intro u s w H Q I h;erw[UC (UP I z m g ?_ c j)];erw[FY (thn (d pos u s w H _ I h) λq L ⟨N,O,P,R,U⟩=>y u L w O N q Q P R U) f l]
def Tq(y:YG X (.type T) r)(z:Gl X x)(m:X.mg x=we)(g:YE x=wc (.type T))(d:PA X (e::es) t)(c:x≠"__name__":=by decide)(j:(x==("__debug__":Str))=wg:=by decide)
  (f:Xx (e::es) X.env=(wg,eval e X.env)::Xx es X.env:=by rfl)(l:(Y5 pos (Xx es X.env)).any (·.1)=wg:=by rfl):PE X (.Call (.Name x p) (e::es) [] pos) (tCB r t):=by
 intro u s w H Q I h;erw[UC (UP I z m g ?_ c j)];erw[WH (thn (d pos u s w H _ I h) λq L ⟨N,O,P,R,U⟩=>y u L w O N q Q P R U) f l]
end
end L2
namespace HT
open PySem PyProof.Rows
section
open PySem.SeqAt
open PySem.AutoSeq1 (wpAny_loadPart')
open PySem.MeetsSeq PySem.MeetsSeq2 PySem.MeetsSeq3
end
section
variable{prog:Xr}{w:Xm}{A:Xw}{E:X0->X1->Prop}{s:X1}
def cat_tup{t:Addr}(L:IsTup s.heap t vs.toArray)(N:IsTup s.heap b ws.toArray)(g:vs≠ [])
  (O:ws=[]->Q (.ref t) s)(P:ws≠ []->Q (.ref s.heap.objs.size) {s with heap:=s.heap.push {cls:=.type "tuple",data:=.seq (vs++ws).toArray} })
  (m:vs.length+ws.length<=sizeLine):X4 (X8 prog w) A (Yk .Add (.ref t) (.ref b)) Q E s:=by
 have⟨⟨R,d,c,f⟩,z,q,n,hd⟩:=id L;have⟨⟨r,l,data2,u⟩,j,y,p,hd2⟩:=id N;simp only at q hd y hd2;subst q hd y hd2;have e:vs.toArray++ws.toArray=(vs++ws).toArray:=by simp
 by_cases hw:ws=[]
 .erw[concat_meets ⟨_,z,rfl⟩ ⟨_,j,rfl⟩ noFill_tuple_add seq_tuple_add Gi Gf (Gc _ _)
   (tuple_addW1 t b vs.toArray ws.toArray n p d l f u (by simpa using g) (by simp[hw])) ⟨z,j,O hw⟩]
 .erw[concat_meets ⟨_,z,rfl⟩ ⟨_,j,rfl⟩ noFill_tuple_add seq_tuple_add Gi Gf (Gc _ _)
   (tuple_addW2 t b vs.toArray ws.toArray n p d l f u (by simpa using g) (by simpa using hw) (by rw[XM,XM];erw[m])) ⟨z,j,?_⟩]
  rw[e];erw[P hw]
noncomputable def sIx(n d:Nat):Option Int->Nat
 |we=>d
 |wc v=>if v<0 then(v+(n:Int)).toNat else min v.toNat n
def sIx_none(n d:Nat):sIx n d we=d:=rfl
def sIx_nat(n d k:Nat):sIx n d (wc (k:Int))=min k n:=by
 show(if(k:Int)<0 then((k:Int)+(n:Int)).toNat else min (k:Int).toNat n)=min k n;rw[if_neg (by lia),Z0]
def Tr(n d:Nat)(hd:d<=n)(o:Option Int):sIx n d o<=n:=by
 cases o with
 |none=>erw[hd]
 |some v=>
  show(if v<0 then(v+(n:Int)).toNat else min v.toNat n)<=n;by_cases hv:v<0
  .rw[if_pos hv];lia
  .rw[if_neg hv];erw[Nat.min_le_right _ _]
def Hd(v:Int)(n d:Nat):(if v<0 then max (v+(n:Int)) 0 else min v (n:Int))=((sIx n d (wc v):Nat):Int):=by
 show(if v<0 then max (v+(n:Int)) 0 else min v (n:Int))=(((if v<0 then(v+(n:Int)).toNat else min v.toNat n):Nat):Int);by_cases hv:v<0
 .simp only[if_pos hv];lia
 .simp only[if_neg hv];lia
def Ts(lo j:Option Int)(n:Nat):Dy lo j 1 (n:Int)=(((sIx n 0 lo:Nat):Int),((sIx n n j:Nat):Int)):=by
 have l:¬((1:Int)<0):=by lia
 unfold Dy;simp only[l,if_false];erw[Prod.ext ?_ ?_]
 .cases lo with
  |none=>rfl
  |some v=>erw[Hd v n 0]
 .cases j with
  |none=>rfl
  |some v=>erw[Hd v n n]
def Tt(i j:Nat):BE (i:Int) (j:Int) 1=j - i:=by
 unfold BE;have l:(1:Int)>0:=by lia
 simp only[l,if_true,Int.ediv_one];split<;>lia
def He(p:IsPart v o)(h:Q o s):X4 (X8 prog w) A (Builtin.Slice.slicePartIndex v) Q E s:=by
 cases p with
 |none=>erw[slicePart_none h]
 |int i t=>erw[slicePart_int h]
def Hf{m:Addr}{y z:X0}{lo j:Option Int}{n:Nat}{Q:Int×Int×Nat->X1->Prop}(g:s.heap.IsSliceOf m y z .none)(d:IsPart y lo)(c:IsPart z j)
  (h:Q (((sIx n 0 lo:Nat):Int),1,sIx n n j - sIx n 0 lo) s):X4 (X8 prog w) A (G6 (.ref m) (pure (n:Int))) Q E s:=by
 have⟨os,l,f,u⟩:=id g;unfold G6 Builtin.Slice.sliceFields;erw[X2 (X2 (wpAny_field l u (x:=y) rfl (X2 (wpAny_field l u (x:=z) rfl (X2 (wpAny_field l u (x:=.none) rfl (Xd ?_)))))))];erw[X2 (slicePart_none ?_)];show X4 _ _ (if((1:Int)==0)=wf then _ else _) _ _ s;rw[if_neg (by decide)]
 erw[X2 (He d (X2 (He c (X2 (Xd ?_)))))];show X4 _ _ (match Dy lo j 1 (n:Int)with|(lo,j)=>pure (lo,(1:Int),BE lo j 1)) _ _ s
 rw[Ts lo j n];show X4 _ _ (pure (((sIx n 0 lo:Nat):Int),(1:Int),BE ((sIx n 0 lo:Nat):Int) ((sIx n n j:Nat):Int) 1)) _ _ s;rw[Tt];erw[Xd h]
def Tu(j:Array X0)(i k:Nat):((Xq k).filterMap fun(m:Nat)=>j[((i:Int)+(m:Int)*1).toNat]?).toArray=((j.toList.drop i).take k).toArray:=by
 have e:(fun(m:Nat)=>j[((i:Int)+(m:Int)*1).toNat]?)=λm=>j[i+m]?:=by
  funext m
  have:((i:Int)+(m:Int)*1).toNat=i+m:=by lia
  rw[this]
 rw[e];have:=pick_run j i k;rw[List.filterMap_map]at this;have l:((λx=>j[x]?)∘ λx=>i+x)=λm=>j[i+m]?:=rfl;rw[l]at this;rw[this]
def getItem_tuple_cut{t:Addr}{items:Array X0}{lo:Option Int}(l:IsTup s.heap t items)(d:s.heap.IsSliceOf sl vl vu .none)(c:IsPart vl lo)(f:IsPart vu hi)
  (hw:¬(sIx items.size 0 lo=0/\sIx items.size items.size hi=items.size))
  (h:Q (.ref s.heap.objs.size) {s with heap:=s.heap.push {cls:=.type "tuple",data:=.seq ((items.toList.drop (sIx items.size 0 lo)).take (sIx items.size items.size hi - sIx items.size 0 lo)).toArray} })
  (r:items.size<=sizeLine):X4 (X8 prog w) A (getItem (.ref t) (.ref sl)) Q E s:=by
 have j:sizeOk (.seq ((items.toList.drop (sIx items.size 0 lo)).take (sIx items.size items.size hi - sIx items.size 0 lo)).toArray):=by
  show((items.toList.drop (sIx items.size 0 lo)).take (sIx items.size items.size hi - sIx items.size 0 lo)).toArray.size<=sizeLine;rw[XM,Yl,B7,Yt];lia
 have e:sIx items.size items.size hi<=items.size:=Tr _ _ (Xa _) hi;have⟨os,u,y,p⟩:=id d;have z:s.TypeIs (.ref sl) "slice":=⟨os,u,y⟩;unfold getItem
 try with_reducible erw[YO ?_]
 first|erw[X2 (Xd ?_)]|skip
 erw[X2 (wpAny_sequenceKey l.typeIs (by decide) ?_)]
 erw[X2 (AQ (name:=VQ "__getitem__") l.typeIs VN
  (Zg VN l.typeIs entry_tuple_getitem ?_ (args_tuple_getitem _ _)))]
 show X4 _ _ (G0 (.ref t)>>= _) _ _ s;erw[X2 (tupleItemsOf_ l ?_)];erw[X2 (V4 z ?_)];rw[if_pos (by decide)]
 erw[X2 (Hf d c f ?_)];have g:¬((((sIx items.size 0 lo:Nat):Int)==0&&(1:Int)==1&&(sIx items.size items.size hi - sIx items.size 0 lo)==items.size)=wf):=by
  intro q;rw[XU,XU]at q;have L:((sIx items.size 0 lo:Nat):Int)=0:=eq_of_beq q.1.1;have N:sIx items.size items.size hi - sIx items.size 0 lo=items.size:=eq_of_beq q.2;erw[hw ⟨by lia,by lia⟩]
 show X4 _ _ (if(((sIx items.size 0 lo:Nat):Int)==0&&(1:Int)==1&&(sIx items.size items.size hi - sIx items.size 0 lo)==items.size)=wf then _ else _) _ _ s;rw[if_neg g,Tu]
 first
  |erw[X2 (m:=BC _) (U9 (Xd ⟨_,rfl,Xd h⟩) j)]
  |erw[X2 (m:=BC _) (U9 (X2 (Xd (Xd ⟨_,rfl,Xd h⟩))) j)]
  |erw[X2 (X2 (m:=BC _) (U9 (Xd (Xd ⟨_,rfl,Xd h⟩)) j))]
  |erw[X2 (X2 (m:=BC _) (U9 (Xd ⟨_,rfl,Xd h⟩) j))]
end
end HT
namespace L2
open PySem PySem.Spec PyProof.Rows
abbrev TO:=St->Hp->(Option Int->Hp->Prop)->Prop
def PO(X:Cx)(e:Option Expr)(t:TO):Prop:=
 ∀(l:List (Addr×Obj))(s:X1)(j:St)(H:Hp)(Q:Option Int->Hp->Prop),Inv X l j H s->t j H Q->
  X4 (X8 X.prog X.w) X.A (evalPart e X.env) (λu y=>∃o w,Inv X l j w y/\IsPart u o/\Q o w) X.xe s
noncomputable def Tv:TO:=λ_ H Q=>Q we H
noncomputable def Tw(t:TE):TO:=λj H Q=>t j H λx l=>∃i,x=.int i/\Q (wc i) l
section
variable{X:Cx}{e:Expr}{te:TE}{lo hi:Option Expr}{tl th:TO}{pos p2:Pos}
def Tx:PO X we Tv:=by
 intro j s l H Q I h;rw[evalPart_none];erw[Xd ⟨we,H,I,.none,h⟩]
def Tz(h:PE X e te):PO X (wc e) (Tw te):=by
 intro j s l H Q I w;rw[evalPart_some];erw[thn (h j s l H _ I w) λu c y=>?_];have⟨x,z,m,g,d⟩:=y;have⟨i,rfl,q⟩:=d;have⟨t,rfl⟩:=g;erw[⟨wc i,z,m,.int i t,q⟩]
def SlR(X:Cx)(r:V->Option Int->Option Int->Hp->VK->Prop):Prop:=
 ∀(j:List (Addr×Obj))(s:X1)(l:St)(H:Hp)(x:V)(v u w:X0)(lo hi:Option Int)(y:Addr)(Q:VK),Inv X j l H s->RelV x v->s.heap.IsSliceOf y u w .none->IsPart u lo->IsPart w hi->r x lo hi H Q->
  ∃T id,typeLookup (.type T) "__getitem__"=pure (wc (.builtin id))/\s.TypeIs v T/\X4 (X8 X.prog X.w) X.A (getItem v (.ref y)) (EP X j l Q) X.xe s
def tSl(r:V->Option Int->Option Int->Hp->VK->Prop)(te:TE)(tl th:TO):TE:=λj H Q=>te j H λx w=>tl j w λl y=>th j y λu z=>r x l u z Q
def TB{r:V->Option Int->Option Int->Hp->VK->Prop}(c:SlR X r)(f:PE X e te)(p:PO X lo tl)(L:PO X hi th):PE X (.Subscript e (.Slice lo hi we p2) pos) (tSl r te tl th):=by
 intro w s y H Q I h;erw[Subscript_ (thn (f w s y H _ I h) λv N g=>?_)];have⟨x,O,P,R,U⟩:=g;erw[wpAny_Slice (thn (p w N y O _ P U) λz W ⟨l,Y,Z,A,B⟩=>thn (L w W y Y _ Z B) λm j g=>?_)];have⟨u,d,C,D,E⟩:=g;rw[evalPart_none];erw[Xd ?_];have F:Inv X w y d {j with heap:=j.heap.push {cls:=.type "slice",data:=.fields #[z,m,.none]} }:=C.kept (t':=j.toks) fun b S q=>Xt _ q;have⟨T,id,G,J,M⟩:=c w {j with heap:=j.heap.push {cls:=.type "slice",data:=.fields #[z,m,.none]} } y d x v z m l u j.heap.objs.size Q F R (Heap.IsSliceOf.new ..) A D E;show X4 (X8 X.prog X.w) X.A (subscriptTail e (.Slice lo hi we p2) v (.ref j.heap.objs.size)) (EP X w y Q) X.xe {j with heap:=j.heap.push {cls:=.type "slice",data:=.fields #[z,m,.none]} };erw[tail_any (ops:=[.ref j.heap.objs.size,v]) J G M (by with_unfolding_all rfl)]
noncomputable def cutV(j:List V)(lo hi:Option Int):List V:=(j.drop (HT.sIx j.length 0 lo)).take (HT.sIx j.length j.length hi - HT.sIx j.length 0 lo)
def Hg(j:List V)(lo hi:Option Int):(cutV j lo hi).length<=j.length:=by
 unfold cutV;rw[Yl,B7];lia
def rSlT(K:X3):V->Option Int->Option Int->Hp->VK->Prop:=λx lo hi H Q=>∃a j,x=.ref a/\SqT K H a j/\
 ¬(HT.sIx j.length 0 lo=0/\HT.sIx j.length j.length hi=j.length)/\∀p,H p=we->Q (.ref p) (upd H p (.tup (cutV j lo hi)))
def TC:SlR X (rSlT X.K):=by
 intro p s L H x v N O lo hi P Q I z m g d h;have⟨a,l,rfl,c,f,q⟩:=h;cases z;have⟨u,r,w,y⟩:=I.tuple c;have j:u.toArray.size=l.length:=by rw[XM];erw[r.length.symm]
 erw[⟨"tuple",_,VN.lookup,w.typeIs,?_⟩];erw[HT.getItem_tuple_cut w m g d (by rw[j];erw[f]) ?_ (by rw[j];erw[y])]
 rw[j];erw[⟨.ref s.heap.objs.size,_,I.laid (t':=s.toks) (o:=.tup (cutV l lo hi)) (λb R q=>Xt _ q) (Xa _) ?_,rfl,q _ (I.hok.fresh (Xa _))⟩];erw[⟨Xy (Hg l lo hi) y,_,(r.drop (HT.sIx l.length 0 lo)).take (HT.sIx l.length l.length hi - HT.sIx l.length 0 lo),IsTup.new _ _,_,XT _ rfl,rfl⟩]
def TD(K:X3):R2:=λx y H Q=>∃a b l j,x=.ref a/\y=.ref b/\SqT K H a l/\SqT K H b j/\l≠ []/\l.length+j.length<=sizeLine/\
 (j=[]->Q (.ref a) H)/\(j≠ []->∀p,H p=we->Q (.ref p) (upd H p (.tup (l++j))))
def Vals.nil_iff(r:Vals xs us):us=[]↔xs=[]:=by
 cases r with
 |nil=>simp
 |cons _ _=>simp
def TF:OpR X (Yk .Add) (TD X.K):=by
 intro U s W H x y v u Q I d c h;have⟨a,b,f,r,rfl,rfl,p,L,N,m,O,P⟩:=h;cases d;cases c;have⟨R,l,T,_⟩:=I.tuple p;have⟨g,j,p2,_⟩:=I.tuple L;erw[HT.cat_tup T p2 (λz=>N (l.nil_iff.mp z)) (λz=>⟨.ref a,H,I,rfl,O (j.nil_iff.mp z)⟩) (λz=>?_) (by rw[<-l.length,<-j.length];erw[m])]
 erw[⟨.ref s.heap.objs.size,_,I.laid (t':=s.toks) (o:=.tup (f++r)) (λb Y q=>Xt _ q) (Xa _) ?_,rfl,P (λw=>z (j.nil_iff.mpr w)) _ (I.hok.fresh (Xa _))⟩];erw[⟨by rw[XR];erw[m],_,l.append j,IsTup.new _ _,_,XT _ rfl,rfl⟩]
end
noncomputable def ixN(n:Nat)(i:Int):Option Nat:=if 0<=i then(if i<n then wc i.toNat else we)else if -(n:Int)<=i then wc (i+n).toNat else we
def atI{α:Type}(xs:List α)(i:Int):Option α:=(ixN xs.length i).bind λj=>xs[j]?
def Hh(h:ixN n i=wc j):seqIndex? i n=wc j/\j<n/\ -(n:Int)<=i/\i<n:=by
 unfold ixN at h;by_cases h0:0<=i
 .rw[if_pos h0]at h;by_cases h1:i<n
  .rw[if_pos h1]at h;have e:i.toNat=j:=Y2 h;erw[⟨by rw[seqIndex_of h0 h1,e],by lia,by lia,h1⟩]
  .rw[if_neg h1]at h;cases h
 .rw[if_neg h0]at h;by_cases h1:-(n:Int)<=i
  .rw[if_pos h1]at h;have e:(i+n).toNat=j:=Y2 h;erw[⟨by rw[seqIndex_neg (by lia) h1,e],by lia,h1,by lia⟩]
  .rw[if_neg h1]at h;cases h
def DF{u:Type}{l:List u}{i:Int}{v:u}(h:atI l i=wc v):∃j,seqIndex? i l.length=wc j/\l[j]?=wc v/\j<l.length/\ -(l.length:Int)<=i/\i<l.length:=by
 unfold atI at h;cases e:ixN l.length i with
 |none=>rw[e]at h;cases h
 |some j=>
  rw[e]at h;have⟨w,y,z,m⟩:=Hh e;erw[⟨j,w,h,y,z,m⟩]
def Yn{u:Type}{l:List u}{j:Nat}{v:u}(h:l[j]?=wc v):atI l (j:Int)=wc v:=by
 have w:j<l.length:=(Xo.mp h).1;have e:ixN l.length (j:Int)=wc j:=by
  unfold ixN;rw[if_pos (by lia),if_pos (by lia)];simp
 unfold atI;rw[e];erw[h]
def TH{l:Type}(j:List l)(v:l):atI (j++[v]) (-1)=wc v:=by
 have u:(j++[v]).length=j.length+1:=by simp
 have e:ixN (j++[v]).length (-1)=wc j.length:=by
  unfold ixN;rw[u,if_neg (by decide),if_pos (by lia)]
  congr 1;lia
 unfold atI;rw[e];show(j++[v])[j.length]?=wc v;simp
def Hi(b:Expr):Prop:=∀o i,subscripted b wg o i=operate [o,i] (getItem o i)
def IxR(X:Cx)(r:R2):Prop:=
 ∀(l j:Expr)(w:List (Addr×Obj))(s:X1)(z:St)(H:Hp)(x y:V)(v u:X0)(Q:VK),Inv X w z H s->RelV x v->RelV y u->r x y H Q->
  subscripted j wg v u=operate [v,u] (getItem v u)->X4 (X8 X.prog X.w) X.A (subscriptTail l j v u) (EP X w z Q) X.xe s
def MtR(X:Cx)(id:String)(r:V->List V->Hp->VK->Prop):Prop:=
 ∀(j:List (Addr×Obj))(s:X1)(l:St)(H:Hp)(x:V)(u:List V)(v:X0)(w:List X0)(Q:VK),Inv X j l H s->RelV x v->Vals u w->r x u H Q->
  X4 (X8 X.prog X.w) X.A (call (.builtin id) (v::w)) (EP X j l Q) X.xe s
section
variable{X:Cx}{a b:Expr}{ta tb:TE}{pos:Pos}
def TJ{r:R2}(j:IxR X r)(l:PE X a ta)(w:PE X b tb)(z:Hi b):PE X (.Subscript a b pos) (tOp r ta tb):=by
 intro m s g H Q I h;erw[Subscript_ (binT l w I h λv u d x y c f p e q=>j a b m d g c x y v u Q f p e q (z _ _))]
def rIxL(K:X3):R2:=λx y H Q=>∃p j i v,x=.ref p/\y=.int i/\SqL K H p j/\atI j i=wc v/\Q v H
def rIxT(K:X3):R2:=λx y H Q=>∃p j i v,x=.ref p/\y=.int i/\SqT K H p j/\atI j i=wc v/\Q v H
def rIxS:R2:=λx y H Q=>∃z i c,x=.str z/\y=.int i/\z.length<=sizeLine/\atI z.cps.toList i=wc c/\Q (.str ⟨#[c]⟩) H
def Hj:IxR X (rIxL X.K):=by
 intro g d N s O H x y v u Q I T U h P;have⟨p,E,i,z,rfl,rfl,W,Y,q⟩:=h;cases T;have⟨t,rfl⟩:=U;have⟨c,r,f,F⟩:=I.list W;have⟨j,m,Z,G,A,B⟩:=DF Y;have⟨w,R,e⟩:=r.get Z;have C:=r.length;have J:=VW;have l:EP X N O Q w s:=⟨z,H,I,e,q⟩;by_cases h0:0<=i
 .have L:i.toNat=j:=by
   rw[seqIndex_of h0 B]at m;erw[Y2 m]
  erw[item_listR f.isList h0 (by lia) (by rw[L];simpa using R) l P]
 .have L:(i+(c.toArray.size:Int)).toNat=j:=by
   rw[seqIndex_neg (by lia) A]at m
   rw[XM,<-C];erw[Y2 m]
  erw[subscriptTail_builtinR (x:=w) f.isList.typeIs slot_list_getitem.lookup
   (wpAny_getItem_list_neg (Q:=λr D=>r=w/\EP X N O Q r D) f.isList (by lia) (by rw[XM]<;>lia) (by lia) (by rw[L];simpa using R) ⟨rfl,l⟩) P]
def TK:IxR X (rIxT X.K):=by
 intro l m c s f H x y v u Q I L N h O;have⟨p,B,i,z,rfl,rfl,P,R,q⟩:=h;cases L;have⟨t,rfl⟩:=N;have⟨T,r,e,C⟩:=I.tuple P;have⟨j,U,W,D,E,F⟩:=DF R;have⟨w,Y,g⟩:=r.get W;have Z:=r.length;have G:=VW;have d:EP X c f Q w s:=⟨z,H,I,g,q⟩;erw[subscriptTail_builtinR (x:=w) e.typeIs slot_tuple_getitem.lookup
  (getItem_tuple (j:=j) (Q:=λr A=>r=w/\EP X c f Q r A) e (by lia) (by lia) (by rw[XM,<-Z];erw[U]) (by simpa using Y) ⟨rfl,d⟩) O]
def TL:IxR X rIxS:=by
 intro l w R s T H x y v u Q I g d h f;have⟨z,i,c,rfl,rfl,U,r,q⟩:=h;have⟨t,rfl⟩:=g;have⟨W,rfl⟩:=d;have⟨j,m,p,Y,e,L⟩:=DF r;have N:z.cps.toList.length=z.length:=by simp[Str.length]
 rw[N]at m e L;have Z:=VW;erw[tail_any (typeIs_str s z t) slot_str_getitem.lookup (getItem_str (c:=c) (by
  have O:decide (i< -(2^63:Int))=wg:=decide_eq_false (by lia)
  have P:decide (i >= 2^63)=wg:=decide_eq_false (by lia)
  rw[O,P,Bool.or_false]) (by rw[m];simpa using p) ⟨.str ⟨#[c]⟩,H,I.tok _,⟨_,rfl⟩,q⟩) f]
def TM(l:List X0)(n j:Nat)(u:X0):Ui (·.setIfInBounds j u) {cls:=.type "list",data:=.seq l.toArray n}={cls:=.type "list",data:=.seq (l.set j u).toArray n}:=by
 simp[Ui]
theorem Inv.lst(I:Inv X pq σ H s)(h:H p=wc (.lst xs)):
  ∃(j:List X0) (n:Nat),Vals xs j/\s.heap.get? p=wc {cls:=.type "list",data:=.seq j.toArray n}/\xs.length<=sizeLine:=by
 have⟨z,j,n,r,e⟩:=I.hok p _ h;erw[⟨j,n,r,e,z⟩]
def Inv.lstUpd{z:List (Addr×Obj)}{m:St}{H:Hp}{s:X1}{p:Addr}{d w:List V}{l j:List X0}{n y:Nat}{f:Obj->Obj}(I:Inv X z m H s)(h:H p=wc (.lst d))
  (c:s.heap.get? p=wc {cls:=.type "list",data:=.seq l.toArray n})(g:f {cls:=.type "list",data:=.seq l.toArray n}={cls:=.type "list",data:=.seq j.toArray y})(r:Vals w j)(L:w.length<=sizeLine)(t:Nat):
  Inv X z m (upd H p (.lst w)) {s with heap:=s.heap.update p f,toks:=t}:=by
 have e:(s.heap.update p f).get? p=wc {cls:=.type "list",data:=.seq j.toArray y}:=by
  rw[WE f c (by rw[g]<;>rfl),g]
 erw[I.write (x:=p) (e:=p) (by rw[h];trivial) (.inl rfl) (λb u N q=>(Bp _ _ (XW N)).trans q) ⟨_,e⟩ ?_]
 erw[⟨L,j,y,r,e⟩]
def TN:V->V->V->Hp->(Hp->Prop)->Prop:=λo i v H Q=>∃p l k j,o=.ref p/\i=.int k/\H p=wc (.lst l)/\ixN l.length k=wc j/\Q (upd H p (.lst (l.set j v)))
def TQ:PSet X TN:=by
 intro e s L H o i v W Y u Q I N O P h;have⟨p,R,k,j,rfl,rfl,g,T,q⟩:=h;cases N;have⟨t,rfl⟩:=O;have⟨l,n,r,y,U⟩:=I.lst g;have⟨w,Z,d,c⟩:=Hh T;have z:=r.length;have A:=VW;have f:Inv X e L (upd H p (.lst (R.set j v))) {s with heap:=s.heap.update p (Ui (·.setIfInBounds j u))}:=
  I.lstUpd g y (TM l n j u) (r.set P j) (by rw[ZT];erw[U]) s.toks
 by_cases h0:0<=k
 .have m:k.toNat=j:=by
   rw[seqIndex_of h0 c]at w;erw[Y2 w]
  erw[PySem.W.ki_setAt y h0 (by lia) (by rw[XM,<-z];erw[c]) (by rw[m];erw[⟨_,f,q⟩])]
 .have m:(k+(l.toArray.size:Int)).toNat=j:=by
   rw[seqIndex_neg (by lia) d]at w
   rw[XM,<-z];erw[Y2 w]
  erw[PySem.W.ki_setBack y (by lia) (by rw[XM,<-z];erw[d]) (by lia) (by rw[m];erw[⟨_,f,q⟩])]
def TR(lo j:Option Int)(n:Nat):(V5 lo j we n).1=((HT.sIx n 0 lo:Nat):Int)/\(V5 lo j we n).2.1=((HT.sIx n n j:Nat):Int)/\(V5 lo j we n).2.2=1:=by
 erw[⟨?_,?_,rfl⟩]
 .cases lo with
  |none=>simp[V5,HT.sIx]
  |some i=>
   simp only[V5,HT.sIx,Option.getD_none,show(1:Int)>0 by decide,if_true]
   by_cases h:i<0
   .simp only[h,if_true]<;>lia
   .simp only[h,if_false]<;>lia
 .cases j with
  |none=>simp[V5,HT.sIx]
  |some i=>
   simp only[V5,HT.sIx,Option.getD_none,show(1:Int)>0 by decide,if_true]
   by_cases h:i<0
   .simp only[h,if_true]<;>lia
   .simp only[h,if_false]<;>lia
def TU(j:List X0)(lo l:Option Int):slicePick j.toArray lo l we=((j.drop (HT.sIx j.length 0 lo)).take (HT.sIx j.length j.length l - HT.sIx j.length 0 lo)).toArray:=by
 have⟨u,w,y⟩:=TR lo l j.toArray.size;unfold slicePick;rw[u,w,y];simp only[sliceRange_one,pick_run,XM]<;>rfl
def rSlL(K:X3):V->Option Int->Option Int->Hp->VK->Prop:=λx lo l H Q=>∃a j,x=.ref a/\SqL K H a j/\∀p,H p=we->Q (.ref p) (upd H p (.lst (cutV j lo l)))
def Hk:SlR X (rSlL X.K):=by
 intro p s e H x v L N lo u O Q I y z m g h;have⟨a,j,rfl,d,q⟩:=h;cases y;have⟨c,r,w,f⟩:=I.list d;have l:=r.length;erw[⟨"list",_,slot_list_getitem.lookup,w.isList.typeIs,?_⟩];erw[wpAny_getItem_list_slice w.isList z m g .none (by simp) ?_ (by rw[XM]<;>lia)]
 rw[TU,<-l];erw[⟨.ref s.heap.objs.size,_,I.laid (t':=s.toks) (o:=.lst (cutV j lo u)) (λb P q=>Xt _ q) (Xa _) ?_,rfl,q _ (I.hok.fresh (Xa _))⟩];erw[⟨Xy (Hg j lo u) f,_,0,(r.drop (HT.sIx j.length 0 lo)).take (HT.sIx j.length j.length u - HT.sIx j.length 0 lo),XT _ rfl⟩]
noncomputable def ZZ:V->Bool
 |.non=>wf
 |.bl _=>wf
 |.int _=>wf
 |.str _=>wf
 |_=>wg
noncomputable def eqV:V->V->Bool
 |.non,.non=>wf
 |.bl a,.bl b=>a==b
 |.bl a,.int b=>(if a then 1 else 0)==b
 |.int a,.bl b=>a==(if b then 1 else 0)
 |.int a,.int b=>a==b
 |.str a,.str b=>a==b
 |_,_=>wg
def Hl(w:RelV y u)(j:RelV x v)(m:ZZ y=wf)(z:ZZ x=wf):SeqAt.EqAt A s u v (eqV y x):=by
 cases y with
 |non=>
  cases w;cases x with
  |non=>cases j;erw[SeqAt.EqAt.same _]
  |bl b=>cases j;erw[SeqAt.EqAt.none_bool b]
  |int b=>have⟨t,rfl⟩:=j;erw[SeqAt.EqAt.none_int b t]
  |str b=>have⟨t,rfl⟩:=j;erw[SeqAt.EqAt.none_str b t]
  |_=>erw[absurd (show wg=wf from z) XB]
 |bl a=>
  cases w;cases x with
  |non=>cases j;erw[SeqAt.EqAt.bool_none a]
  |bl b=>cases j;erw[SeqAt.EqAt.bool_bool a b]
  |int b=>have⟨t,rfl⟩:=j;erw[SeqAt.EqAt.bool_int a b t]
  |str b=>have⟨t,rfl⟩:=j;erw[SeqAt.EqAt.bool_str a b t]
  |_=>erw[absurd (show wg=wf from z) XB]
 |int a=>
  have⟨l,rfl⟩:=w;cases x with
  |non=>cases j;erw[SeqAt.EqAt.int_none a l]
  |bl b=>cases j;erw[SeqAt.EqAt.int_bool a l b]
  |int b=>have⟨t,rfl⟩:=j;erw[SeqAt.EqAt.int_int a l b t]
  |str b=>have⟨t,rfl⟩:=j;erw[Gw a l b t]
  |_=>erw[absurd (show wg=wf from z) XB]
 |str a=>
  have⟨l,rfl⟩:=w;cases x with
  |non=>cases j;erw[SeqAt.EqAt.str_none a l]
  |bl b=>cases j;erw[SeqAt.EqAt.str_bool a l b]
  |int b=>have⟨t,rfl⟩:=j;erw[Gx a l b t]
  |str b=>have⟨t,rfl⟩:=j;erw[SeqAt.EqAt.str_str a l b t]
  |_=>erw[absurd (show wg=wf from z) XB]
 |_=>erw[absurd (show wg=wf from m) XB]
def eqU(x:V)(u:X0):Bool:=match u with
 |.none=>eqV .non x
 |.bool b=>eqV (.bl b) x
 |.int i _=>eqV (.int i) x
 |.str z _=>eqV (.str z) x
 |_=>wg
def Hm(r:RelV y u)(f:ZZ y=wf):eqU x u=eqV y x:=by
 cases y with
 |non=>cases r;rfl
 |bl b=>cases r;rfl
 |int i=>have⟨t,rfl⟩:=r;rfl
 |str z=>have⟨t,rfl⟩:=r;rfl
 |_=>erw[absurd (show wg=wf from f) XB]
theorem WO:∀{j:List V} {l:List X0},Vals j l->j.all ZZ=wf->l.any (eqU x)=j.any λy=>eqV y x
 |_,_,.nil,_=>rfl
 |y::j,u::l,.cons r t,f=>by
  rw[Vd,XU]at f;rw[ZU,ZU,Hm r f.1,WO t f.2]
theorem WP(z:RelV x v)(m:ZZ x=wf):∀{l:List V} {w:List X0},Vals l w->l.all ZZ=wf->∀u∈w,SeqAt.EqAt A s u v (eqU x u)
 |_,_,.nil,_=>λu j=>by cases j
 |y::l,u::w,.cons r t,f=>λg j=>by
  rw[Vd,XU]at f;rcases Xk.mp j with rfl|j
  .rw[Hm r f.1];erw[Hl r z f.1 m]
  .erw[WP z m t f.2 g j]
def inV(x:V)(j:List V):Bool:=j.any λy=>eqV y x
def rIn(K:X3)(l:Bool):R2:=λx y H Q=>∃p j,y=.ref p/\(SqL K H p j\/SqT K H p j)/\ZZ x=wf/\j.all ZZ=wf/\Q (.bl (if l then !inV x j else inV x j)) H
def DG:OpR X (Y8 .In) (rIn X.K wg):=by
 intro e s L H x y v u Q I g c h;have⟨p,N,rfl,l,d,fs,q⟩:=h;cases c;rcases l with l|l
 .have⟨j,r,z,f⟩:=I.list l;erw[SeqAt.in_listAt (eqU x) z.isList (λw m=>WP g d r fs w (by simpa using m)) ⟨.bl _,H,I,rfl,?_⟩]
  rw[show j.toArray.any (eqU x)=j.any (eqU x) by simp,WO r fs]
  erw[q]
 .have⟨j,r,z,f⟩:=I.tuple l;erw[SeqAt.in_tupleAt (eqU x) z (λw m=>WP g d r fs w (by simpa using m)) ⟨.bl _,H,I,rfl,?_⟩]
  rw[show j.toArray.any (eqU x)=j.any (eqU x) by simp,WO r fs]
  erw[q]
def DH:OpR X (Y8 .NotIn) (rIn X.K wf):=by
 intro e s L H x y v u Q I g c h;have⟨p,N,rfl,l,d,fs,q⟩:=h;cases c;rcases l with l|l
 .have⟨j,r,z,f⟩:=I.list l;erw[SeqAt.notIn_listAt (eqU x) z.isList (λw m=>WP g d r fs w (by simpa using m)) ⟨.bl _,H,I,rfl,?_⟩]
  rw[show j.toArray.any (eqU x)=j.any (eqU x) by simp,WO r fs]
  erw[q]
 .have⟨j,r,z,f⟩:=I.tuple l;erw[SeqAt.notIn_tupleAt (eqU x) z (λw m=>WP g d r fs w (by simpa using m)) ⟨.bl _,H,I,rfl,?_⟩]
  rw[show j.toArray.any (eqU x)=j.any (eqU x) by simp,WO r fs]
  erw[q]
def DI:YG X (.builtin "len") (fun g H Q=>∃p l,g=[.ref p]/\(SqL X.K H p l\/SqT X.K H p l)/\Q (.int l.length) H):=by
 intro f s e H g L Q I r h;have⟨p,l,rfl,w,q⟩:=h;have⟨u,rfl,d⟩:=_Y r;cases d;have N:=VW;rcases w with w|w
 .have⟨y,z,m,c⟩:=I.list w;have j:=z.length;erw[Calls.call_len_list m.isList (by simp only[XM]<;>lia) ⟨.int l.length,H,I.tok _,⟨s.toks+1,by rw[XM,j]⟩,q⟩]
 .have⟨y,z,m,c⟩:=I.tuple w;have j:=z.length;erw[len_tuple m (by simp only[XM]<;>lia) ⟨.int l.length,H,I.tok _,⟨s.toks+1,by rw[XM,j]⟩,q⟩]
def TV:YG X (.builtin "len") (fun j H Q=>∃z,j=[.str z]/\z.length<=sizeLine/\Q (.int z.length) H):=by
 intro l s w H j y Q I r h;have⟨z,rfl,m,q⟩:=h;have⟨u,rfl,t,rfl⟩:=_Y r;have g:=VW;erw[len_str (by lia) ⟨.int z.length,H,I.tok _,⟨_,rfl⟩,q⟩]
def Hn:YG X (.type "list") (fun R H Q=>∃p y,R=[.ref p]/\(SqL X.K H p y\/SqT X.K H p y)/\∀l,H l=we->Q (.ref l) (upd H l (.lst y))):=by
 intro U s W H R Z Q I r h;have⟨p,y,rfl,g,q⟩:=h;have⟨u,rfl,Y⟩:=_Y r;cases Y;have d:∀(j:List X0),Vals y j->y.length<=sizeLine->∀(w:Heap)(z:Nat),(∀b T,s.heap.get? b=wc T->w.get? b=wc T)->
   w.get? s.heap.objs.size=wc {cls:=.type "list",dict:=we,data:=.seq j.toArray z,slots:=#[]}->EP X U W Q (.ref s.heap.objs.size) {s with heap:=w}:=fun j m c w z f e=>
  ⟨.ref s.heap.objs.size,_,I.laid (t':=s.toks) f (Xa _) (show ObjOk X.prog X.w _ w _ (.lst y)from⟨c,j,z,m,e⟩),rfl,q _ (I.hok.fresh (Xa _))⟩
 rcases g with g|g
 .have⟨j,m,N,c⟩:=I.list g;have L:=m.length;have⟨o,O,P,n,hd⟩:=N.isList;erw[call_list_seq p (.inl rfl) O P hd (λw z f e=>d j m c w z f e) (by simp only[XM]<;>lia)]
 .have⟨j,m,N,c⟩:=I.tuple g;have L:=m.length;have⟨o,O,P,n,hd⟩:=N;erw[call_list_seq p (.inr rfl) O P hd (λw z f e=>d j m c w z f e) (by simp only[XM]<;>lia)]
def TW:YG X (.type "tuple") (fun d H Q=>∃p w,d=[.ref p]/\((SqL X.K H p w/\∀l,H l=we->Q (.ref l) (upd H l (.tup w)))\/(SqT X.K H p w/\Q (.ref p) H))):=by
 intro c s f H d U Q I r h;have⟨p,w,rfl,h⟩:=h;have⟨u,rfl,P⟩:=_Y r;cases P;rcases h with⟨z,q⟩|⟨z,q⟩
 .have⟨j,m,g,L⟩:=I.list z;have N:=m.length;erw[call_tuple_list g.isList (λy R=>?_) (by simp only[XM]<;>lia)]
  have O:Inv X c f H {s with heap:=y}:=I.kept (t':=s.toks) R;have T:Inv X c f (upd H y.objs.size (.tup w)) {s with heap:=y.push {cls:=.type "tuple",data:=.seq j.toArray} }:=
   O.laid (t':=s.toks) (λb o e=>Xt _ e) (Xa _) (show ObjOk X.prog X.w _ _ _ (.tup w)from⟨L,j,m,IsTup.new _ _,_,XT _ rfl,rfl⟩)
  erw[⟨.ref y.objs.size,_,T,rfl,q _ (O.hok.fresh (Xa _))⟩]
 .have⟨j,m,g,L⟩:=I.tuple z;erw[call_tuple_same g ⟨.ref p,H,I,rfl,q⟩]
def tyV(K:X3)(T:String)(x:V)(H:Hp):Prop:=match x with
 |.str _=>T="str"
 |.int _=>T="int"
 |.ref p=>(T="list"/\∃l,SqL K H p l)\/(T="tuple"/\∃o,K.lookup p=wc o/\o.cls=.type "tuple"/\o.dict=we)\/
   (T="dict"/\((∃j,H p=wc (.dK j))\/∃j,H p=wc (.dT j)))\/(T="set"/\∃S n,H p=wc (.set S n))
 |_=>False
def Ho(I:Inv X pq σ H s)(r:RelV x v)(ty:tyV X.K T x H):
  s.TypeIs v T/\∀a,v=.ref a->∃y,s.heap.get? a=wc y/\y.dict=we:=by
 cases x with
 |str z=>
  have⟨t,rfl⟩:=r;cases(show T="str" from ty);erw[⟨typeIs_str s z t,λ_ e=>nomatch e⟩]
 |int i=>
  have⟨t,rfl⟩:=r;cases(show T="int" from ty);erw[⟨typeIs_int s i t,λ_ e=>nomatch e⟩]
 |ref p=>
  cases r;rcases ty with⟨rfl,q,g⟩|⟨rfl,o,j,d,hd⟩|⟨rfl,j⟩|⟨rfl,S,n,j⟩
  .have⟨f,_,m,_⟩:=I.list g;erw[⟨m.isList.typeIs,λa e=>?_⟩];cases e;have⟨o,n,e,c,hd,_⟩:=m;erw[⟨o,e,hd⟩]
  .erw[⟨⟨o,I.kIn p o j,d⟩,λa e=>?_⟩];cases e;erw[⟨o,I.kIn _ o j,hd⟩]
  .have z:∃o,s.heap.get? p=wc o/\o.ExactDict:=by
    rcases j with⟨u,j⟩|⟨u,j⟩
    .have⟨_,_,_,_,o,_,_,e,l,_⟩:=I.hok p _ j;erw[⟨o,e,l⟩]
    .have⟨_,_,_,_,o,_,_,e,l,_⟩:=I.hok p _ j;erw[⟨o,e,l⟩]
   have⟨o,e,l⟩:=z;erw[⟨⟨o,e,l.1⟩,λa w=>?_⟩];cases w;erw[⟨o,e,l.2.1⟩]
  .have⟨o,_,_,_,e,l,_⟩:=I.hok p _ j;erw[⟨⟨o,e,l.1⟩,λa w=>?_⟩];cases w;erw[⟨o,e,l.2.1⟩]
 |_=>erw[Ya ty]
def tBM0(K:X3)(T:String)(r:V->List V->Hp->VK->Prop)(to:TE):TE:=λl H Q=>to l H λx j=>tyV K T x j/\r x [] j Q
def tBM(K:X3)(T:String)(r:V->List V->Hp->VK->Prop)(to:TE)(t:TA):TE:=λj H Q=>to j H λx l=>tyV K T x l/\t j l λu w=>r x u w Q
variable{o e:Expr}{es:List Expr}{to:TE}{t:TA}{name:Str}{apos cpos:Pos}{T id:String}{r:V->List V->Hp->VK->Prop}
def TX(d:PlainAttrs T)(u:Slot T name id)(w:typeOf (.builtin id)=pure (.type "method_descriptor"))(c:MtR X id r)(f:PE X o to)
  (j:UB o name X.env (eval o X.env)=eval o X.env:=by rfl)(l:(apos.endLine==cpos.line)=wf:=by rfl):PE X (.Call (.Attribute o name apos) [] [] cpos) (tBM0 X.K T r to):=by
 intro y s z H Q I h;erw[wpAny_Call_method0_late j l (thn (f y s z H _ I h) λv q p=>?_)];have⟨x,L,m,g,ty,N⟩:=p;have⟨O,P⟩:=Ho m g ty;erw[⟨T,id,d,u,w,O,P,Gp rfl (PySem.evalArgs_none (c y q z L x [] v [] Q m g .nil N))⟩]
def TY(q:PlainAttrs T)(w:Slot T name id)(z:typeOf (.builtin id)=pure (.type "method_descriptor"))(p:MtR X id r)(L:PE X o to)(N:PA X (e::es) t)
  (l:UB o name X.env (eval o X.env)=eval o X.env:=by rfl)
  (y:((Y5 cpos (Xx (e::es) X.env)).all (λx=>!x.1)&&(U7 cpos (U8 [] X.env)).all (λx=>x.1.isSome)
   &&decide ((e::es).length+([]:List Ze).length+(if([]:List Ze).isEmpty then 0 else 1)<30))=wf:=by rfl)
  (u:(apos.endLine==cpos.line)=wf:=by rfl)(O:Xx (e::es) X.env=(wg,eval e X.env)::Xx es X.env:=by rfl)(j:(Y5 cpos (Xx es X.env)).any (·.1)=wg:=by rfl):
  PE X (.Call (.Attribute o name apos) (e::es) [] cpos) (tBM X.K T r to t):=by
 intro m s g H Q I h;erw[wpAny_Call_method_late l y u rfl (thn (L m s g H _ I h) λv P R=>?_)];have⟨x,U,d,c,ty,W⟩:=R;have⟨Y,Z⟩:=Ho d c ty;erw[⟨T,id,q,w,z,Y,Z,?_⟩];have f:=N cpos m P g U _ d W;rw[O]at f ⊢;erw[Gp (by show(wg||(Y5 cpos (Xx es X.env)).any (·.1))=wg;rw[j]<;>rfl) (Calls.evalArgs_plain ?_)]
 erw[thn f λA B ⟨C,D,E,F,G⟩=>p m B g D x C v A Q E c F G]
/- xs.append(e),list.index on a module's tuple .. are MtR facts of 06m -/
end
def MtM(X:Cx)(id:String)(r:V->List V->Hp->VK->Prop):Prop:=
 ∀(j:List (Addr×Obj))(s:X1)(l:St)(H:Hp)(x:V)(u:List V)(v:X0)(w:List X0)(Q:VK),Inv X j l H s->RelV x v->Vals u w->r x u H Q->
  X4 (X8 X.prog X.w) X.A (call (.builtin id) (v::w)) (EP X j l Q) X.xe s
def Vals.one:∀{x:V} {us:List X0},Vals [x] us->∃u,us=[u]/\RelV x u
 |_,_,.cons r .nil=>⟨_,rfl,r⟩
theorem Vals.eraseIdx:∀{j:List V} {l:List X0} (i:Nat),Vals j l->Vals (j.eraseIdx i) (l.eraseIdx i)
 |_,_,_,.nil=>.nil
 |_,_,0,.cons _ t=>t
 |_,_,i+1,.cons r t=>.cons r (Vals.eraseIdx i t)
theorem Vals.rep(h:Vals xs us):∀k:Nat,Vals (Xj k xs).flatten (Xj k us).flatten
 |0=>.nil
 |k+1=>by
  rw[Zk,Zk,Zx,Zx];erw[Vals.append h (Vals.rep h k)]
theorem Hq{j:Type}:∀(l:List j)(i:Nat),(l.eraseIdx i).length<=l.length
 |[],_=>Xa _
 |_::_,0=>YT _
 |_::r,i+1=>Bl (Hq r i)
theorem DJ(j:List X0):∀(k:Nat)(l:List X0),
  VG (λu w=>u++w) l.toArray (Xj k j.toArray)=(l++(Xj k j).flatten).toArray
 |0,l=>by simp
 |k+1,l=>by
  have e:l.toArray++j.toArray=(l++j).toArray:=by simp
  have y:(l++j)++(Xj k j).flatten=l++(Xj (k+1) j).flatten:=by
   rw[Zk,Zx,UE]
  rw[<-y,<-DJ j k (l++j),<-e,Zk,Vc]
section
variable{X:Cx}{pq:List (Addr×Obj)}{σ:St}{H:Hp}{s:X1}{l b:Addr}{xs ys zs:List V}
def Inv.lset{w j:List X0}{n:Nat}{f:Array X0->Array X0}{y:Nat}(I:Inv X pq σ H s)(z:H l=wc (.lst xs))
  (e:s.heap.get? l=wc {cls:=.type "list",data:=.seq w.toArray n})(m:f w.toArray=j.toArray)(g:Vals ys j)(d:ys.length<=sizeLine):
  Inv X pq σ (upd H l (.lst ys)) {s with heap:=s.heap.update l (Ui f),toks:=y}:=by
 have q:=PySem.IsL.update e f;rw[m]at q;erw[I.write (x:=l) (e:=l) (by rw[z];erw[trivial]) (.inl rfl) (λp u c r=>(Bp s.heap (Ui f) (XW c)).trans r) ⟨_,q⟩ ?_]
 erw[⟨d,j,_,g,q⟩]
def Inv.lnew(I:Inv X pq σ H s)(j:Vals ys its)(u:ys.length<=sizeLine):
  Inv X pq σ (upd H s.heap.objs.size (.lst ys)) {s with heap:=s.heap.push {cls:=.type "list",data:=.seq its.toArray},toks:=t'}:=
 I.laid (λ_ _ q=>Xt _ q) (Xa _) ⟨u,its,0,j,XT _ rfl⟩
theorem Inv.fresh(I:Inv X pq σ H s):H s.heap.objs.size=we:=I.hok.fresh (Xa _)
def Inv.lstM(I:Inv X pq σ H s)(u:H l=wc (.lst xs)):xs.length<=sizeLine/\∃(j:List X0) (n:Nat),Vals xs j/\xs.length=j.length/\s.heap.get? l=wc {cls:=.type "list",data:=.seq j.toArray n}:=by
 have⟨z,j,n,r,e⟩:=I.hok l _ u;erw[⟨z,j,n,r,r.length,e⟩]
def Hr(h:n<=sizeLine):BG n=wg:=by
 unfold BG;erw[decide_eq_false (by lia)]
end
section
variable{X:Cx}
def TZ:V->List V->Hp->VK->Prop:=λx u H Q=>∃l j y,x=.ref l/\u=[y]/\H l=wc (.lst j)/\j.length<sizeLine/\Q .non (upd H l (.lst (j++[y])))
def Hs:MtM X "list.append" TZ:=by
 intro c s f H x p v L Q I m g h;have⟨l,N,y,rfl,rfl,w,O,q⟩:=h;cases m;have⟨u,rfl,d⟩:=g.one;have⟨z,j,n,r,P,e⟩:=I.lstM w;erw[Ua F.slot_list_append ⟨_,e,rfl⟩ F.entry_list_append (F.args_list_append_2 _ _) (PySem.list_append l j.toArray n u (by rw[XM];lia)) ⟨e,?_⟩]
 erw[⟨.non,_,I.lset (j:=j++[u]) w e (by simp) (r.append (.cons d .nil)) ?_,rfl,q⟩]
 rw[XR,UD];lia
def ZlZ:V->List V->Hp->VK->Prop:=λx w H Q=>∃l b j u,x=.ref l/\w=[.ref b]/\H l=wc (.lst j)/\H b=wc (.lst u)/\j.length+u.length<=sizeLine/\Q .non (upd H l (.lst (j++u)))
def _hH:MtM X "list.extend" ZlZ:=by
 intro R s T H x U v W Q I d c h;have⟨l,b,Y,Z,rfl,rfl,g,f,A,q⟩:=h;cases d;have⟨u,rfl,p⟩:=c.one;cases p;have⟨z,w,n,r,B,e⟩:=I.lstM g;have⟨C,j,L,N,O,P⟩:=I.lstM f;have m:w.toArray.size+j.toArray.size<=sizeLine:=by rw[XM,XM];lia
 have y:¬(!w.toArray.isEmpty&&BG (w.toArray.size+j.toArray.size))=wf:=by
  rw[Hr m,Bs];erw[XB]
 erw[Ua F.slot_list_extend ⟨_,e,rfl⟩ F.entry_list_extend (F.args_list_extend_2 _ _)
  (AutoSeq1.list_extend_list_list_0 l w.toArray n b j.toArray L y (by rw[XM];lia) (by lia)) ⟨e,P,?_⟩]
 erw[⟨.non,_,I.lset (j:=w++j) g e (by simp) (r.append N) ?_,rfl,q⟩]
 rw[XR];lia
def Zon:V->List V->Hp->VK->Prop:=λx u H Q=>∃l j i k y,x=.ref l/\u=[.int i]/\H l=wc (.lst j)/\ -(2^63)<=i/\i<2^63/\seqIndex? i j.length=wc k/\j[k]?=wc y/\Q y (upd H l (.lst (j.eraseIdx k)))
def _kd:MtM X "list.pop" Zon:=by
 intro U s W H x Y v Z Q I d c h;have⟨l,f,i,k,y,rfl,rfl,g,p,L,N,O,q⟩:=h;cases d;have⟨u,rfl,P⟩:=c.one;have⟨t,rfl⟩:=P;have⟨z,j,n,r,R,e⟩:=I.lstM g;have⟨w,T,m⟩:=r.get O;erw[Ua F.slot_list_pop ⟨_,e,rfl⟩ F.entry_list_pop (F.args_list_pop_2 _ _)
  (MeetsSeq.list_pop_at l j.toArray n i t k w (fitsIndex_both p L) (by rw[XM,<-R];erw[N]) (by rw[<-Dt];erw[T]) (by rw[XM];lia)) ⟨e,?_⟩]
 erw[⟨y,_,I.lset (j:=j.eraseIdx k) g e ?_ (r.eraseIdx k) ?_,m,q⟩]
 .show j.toArray.eraseIdxIfInBounds k=(j.eraseIdx k).toArray;rw[List.eraseIdxIfInBounds_toArray]
 .have:=Hq f k;lia
def rCat:R2:=λx y H Q=>∃l b j u,x=.ref l/\y=.ref b/\H l=wc (.lst j)/\H b=wc (.lst u)/\j.length+u.length<=sizeLine/\∀p,H p=we->Q (.ref p) (upd H p (.lst (j++u)))
def _pc:OpR X (Yk .Add) rCat:=by
 intro O s P H x y v u Q I m g h;have⟨l,b,R,T,rfl,rfl,d,c,U,q⟩:=h;cases m;cases g;have⟨z,w,n,r,W,e⟩:=I.lstM d;have⟨Y,j,Z,f,p,L⟩:=I.lstM c;erw[PySem.P.add_list e L ?_ (by rw[XM,XM];lia)]
 have N:w.toArray++j.toArray=(w++j).toArray:=by simp
 rw[N];erw[⟨.ref _,_,I.lnew (t':=s.toks) (r.append f) (by rw[XR];lia),rfl,q _ I.fresh⟩]
def rRep:R2:=λx y H Q=>∃l k j,x=.ref l/\y=.int k/\H l=wc (.lst j)/\ -(2^63)<=k/\k<2^63/\j.length*k.toNat<=sizeLine/\
 ∀p,H p=we->Q (.ref p) (upd H p (.lst (Xj k.toNat j).flatten))
def Ht{l:Type}(j:List l)(k:Nat):(Xj k j).flatten.length=k*j.length:=by
 induction k with
 |zero=>simp
 |succ k u=>rw[Zk,Zx,XR,u,Nat.succ_mul,UK]
def _p7:OpR X (Yk .Mult) rRep:=by
 intro B s C H x y v u Q I O P h;have⟨l,k,D,rfl,rfl,R,W,Y,N,q⟩:=h;cases O;have⟨t,rfl⟩:=P;have⟨z,j,n,r,Z,e⟩:=I.lstM R;have g:j.toArray.size*k.toNat<=sizeLine:=by rw[XM,<-Z];erw[N]
 have d:¬j.toArray.size*k.toNat>(2^63 - 1)/8:=by
  have:(sizeLine:Nat)<=(2^63 - 1)/8:=by decide
  lia
 have c:¬(!Builtin.List.listFitsIndex k)=wf:=by
  rw[fitsIndex_both W Y];erw[XB]
 have w:¬BG (j.toArray.size*k.toNat)=wf:=by
  rw[Hr g];erw[XB]
 have f:VG (λp L=>p++L) #[] (Xj (if j.toArray.isEmpty=wf then 0 else k.toNat) j.toArray)=(Xj k.toNat j).flatten.toArray:=by
  have f0:∀m:Nat,VG (λp L=>p++L) #[] (Xj m j.toArray)=(Xj m j).flatten.toArray:=λm=>by
   have:=DJ j m [];rw[Yr]at this;erw[this]
  rw[f0];cases j with
  |nil=>simp
  |cons a E=>rw[if_neg (by simp)]
 erw[wpAny_binaryOp_repeat_ref (T:="list") (U:="int") (by decide) ⟨_,e,rfl⟩ (fun A=>typeIs_int A k t) noFill_list_mul F.fills_int_mul F.slot_int_rmul repeat_list F.slot_int_index.lookup
  (Ua F.slot_int_rmul (typeIs_int s k t) F.entry_int_rmul (F.args_int_rmul_2 _ _) (int___rmul___int_list k t l j.toArray n)
   ⟨e,rfl,⟨_,e,rfl⟩,Ua F.slot_list_mul ⟨_,e,rfl⟩ F.entry_list_mul (F.args_list_mul_2 _ _) (AutoListH.list___mul___list_int_3 l j.toArray n k t c d w) ⟨e,?_⟩⟩)]
 rw[f];erw[⟨.ref _,_,I.lnew (t':=s.toks) (r.rep k.toNat) (by rw[Ht,Nat.mul_comm];erw[N]),rfl,q _ I.fresh⟩]
end
section
variable{prog:Xr}{w:Xm}{A:Xw}{E:X0->X1->Prop}{s:X1}
set_option maxRecDepth 100000 in
end
section
variable{X:Cx}
end
section
variable{κ:Type} [DecidableEq κ]
noncomputable def valV(j:List (κ×V))(k:κ):Option V:=(j.find? λl=>decide (l.1=k)).map (·.2)
noncomputable def putK(j:List (κ×V))(k:κ)(v:V):List (κ×V):=
 if(j.any λl=>decide (l.1=k))=wf then j.map (λl=>if l.1=k then(l.1,v)else l)else j++[(k,v)]
def BR{k:κ}(e:p.1=k):valV (p::r) k=wc p.2:=by simp[valV,VF,e]
def BS{k:κ}(e:¬p.1=k):valV (p::r) k=valV r k:=by simp[valV,VF,e]
theorem Hu(k:κ):∀j:List (κ×V),(j.any λl=>decide (l.1=k))=(valV j k).isSome
 |[]=>rfl
 |p::r=>by
  rw[ZU];by_cases e:p.1=k
  .simp only[BR e,decide_eq_true e,Bool.true_or,Option.isSome_some]
  .rw[BS e,decide_eq_false e,Dr];erw[Hu k r]
def Hv(j:List (κ×V))(k:κ)(v:V):(putK j k v).length<=j.length+1:=by
 unfold putK;split
 .rw[X5];lia
 .rw[XR,Yi,List.length_nil];lia
def RelO.isSome_eq(r:RelO o u):o.isSome=u.isSome:=by
 cases o with
 |none=>cases u with
  |none=>rfl
  |some _=>erw[(show False from r).elim]
 |some _=>cases u with
  |none=>erw[(show False from r).elim]
  |some _=>rfl
def KV.val(r:KV kvs vs)(k:κ):RelO (valV kvs k) (Z4 vs k):=by
 unfold KV at r
 induction r with
 |nil=>erw[YF]
 | @cons p q g j h t y=>
  have⟨u,m⟩:=h;by_cases e:p.1=k
  .have l:q.1=k:=u.symm.trans e;have b:Z4 (q::j) k=wc q.2:=by simp[Z4,VF,l]
   rw[BR e,b];erw[m]
  .have l:¬q.1=k:=λz=>e (u.trans z);have b:Z4 (q::j) k=Z4 j k:=by simp[Z4,VF,l]
   rw[BS e,b];erw[y]
theorem KV.any(r:KV kvs vs)(k:κ):(kvs.any λj=>decide (j.1=k))=vs.any λj=>decide (j.1=k):=by
 unfold KV at r
 induction r with
 |nil=>rfl
 |cons h t l=>rw[ZU,ZU,l,h.1]
def KV.repl(r:KV kvs vs)(k:κ)(m:RelV y u):
  KV (kvs.map λj=>if j.1=k then(j.1,y)else j) (vs.map λj=>if j.1=k then(j.1,u)else j):=by
 unfold KV at r ⊢
 induction r with
 |nil=>erw[.nil]
 | @cons p q c f h t g=>
  rw[Xz,Xz];erw[.cons ?_ g];have⟨l,d⟩:=h;by_cases e:p.1=k
  .rw[if_pos e,if_pos (l.symm.trans e)];erw[⟨l,m⟩]
  .rw[if_neg e,if_neg (λz=>e (l.trans z))];erw[⟨l,d⟩]
def KV.put(r:KV kvs vs)(k:κ)(j:RelV y u):KV (putK kvs k y) (stored vs k u):=by
 unfold putK stored;rw[r.any k];by_cases e:(vs.any λl=>decide (l.1=k))=wf
 .rw[if_pos e,if_pos e];erw[r.repl k j]
 .rw[if_neg e,if_neg e];erw[Paired.snoc r ⟨rfl,j⟩]
theorem KV.length(r:KV kvs vs):kvs.length=vs.length:=Paired.length r
end
def VY{k:Key}(r:RelV (kV k) u):(YA P w).is k u=wf:=by
 cases k with
 |inl i=>have⟨t,e⟩:=(show∃t,u=VI i t from r);subst e;erw[RL P w i t]
 |inr x=>have⟨t,e⟩:=(show∃t,u=Z8 x t from r);subst e;erw[RN P w x t]
theorem Hw:∀{j:List Key} {l:List X0},Vals (j.map kV) l->ItemsAre (YA P w) j l
 |[],_,r=>by rw[Ys]at r;cases r;erw[.nil]
 |k::j,_,r=>by
  rw[Xz]at r;cases r with
  |cons h t=>erw[.cons (VY h) (Hw t)]
abbrev KT(H:Hp):List (List Key×V)->List (List Key×Addr×X0)->Prop:=Paired λp q=>p.1=q.1/\H q.2.1=wc (.tup (p.1.map kV))/\RelV p.2 q.2.2
def KT.val(r:KT H kvs xs)(k:List Key):RelO (valV kvs k) ((atKey xs k).map (·.2)):=by
 induction r with
 |nil=>erw[YF]
 | @cons p q g j h t y=>
  have⟨u,_,m⟩:=h;by_cases e:p.1=k
  .have l:q.1=k:=u.symm.trans e;have b:atKey (q::j) k=wc q.2:=by simp[atKey,VF,l]
   rw[BR e,b];erw[m]
  .have l:¬q.1=k:=λz=>e (u.trans z);have b:atKey (q::j) k=atKey j k:=by simp[atKey,VF,l]
   rw[BS e,b];erw[y]
def KT.repl(r:KT H kvs xs)(k:List Key)(g:RelV y u):
  KT H (kvs.map λl=>if l.1=k then(l.1,y)else l) (xs.map (putAt k u)):=by
 induction r with
 |nil=>erw[.nil]
 | @cons p q f L h t d=>
  rw[Xz,Xz];erw[.cons ?_ d];have⟨j,m,c⟩:=h;unfold putAt;by_cases e:p.1=k
  .rw[if_pos e,if_pos (j.symm.trans e)];erw[⟨j,m,g⟩]
  .rw[if_neg e,if_neg (λz=>e (j.trans z))];erw[⟨j,m,c⟩]
def KT.put(r:KT H kvs xs)(k:List Key)(l:H b=wc (.tup (k.map kV)))(j:RelV y u):
  KT H (putK kvs k y) (storedH xs k b u):=by
 have e:(kvs.any λz=>decide (z.1=k))=(atKey xs k).isSome:=by
  rw[Hu,(r.val k).isSome_eq,Dw]
 unfold putK storedH;rw[e];by_cases q:(atKey xs k).isSome=wf
 .rw[if_pos q,if_pos q];erw[r.repl k j]
 .rw[if_neg q,if_neg q];erw[Paired.snoc r ⟨rfl,l,j⟩]
def KT.keeps{H l:Hp}{j:List (List Key×V)}{u:List (List Key×Addr×X0)}(r:KT H j u)(m:∀b y,H b=wc (.tup y)->l b=wc (.tup y)):KT l j u:=
 Paired.mapP r λ_ _ z=>⟨z.1,m _ _ z.2.1,z.2.2⟩
section
variable{P:Xr}{w:Xm}{H:Hp}{h:Heap}{a:Addr}
def Hx(ok:HOk P w H h)(e:Rd H a u):ObjOk P w H h a u:=e.ok ok
def Vn(ok:HOk P w H h)(e:Rd H a (.dK kvs)):kvs.length<=sizeLine/\(a==YN)=wg/\∃j,KV kvs j/\h.DictOf (YA P w) a j:=
 show ObjOk P w H h a (.dK kvs)from Hx ok e
def DK(ok:HOk P w H h)(e:H a=wc (.dK kvs)):kvs.length<=sizeLine/\(a==YN)=wg/\∃j,KV kvs j/\h.DictOf (YA P w) a j:=Vn ok (.inl e)
def WQ(ok:HOk P w H h)(e:H a=wc (.tup (ks.map kV))):(tupleKind (YA P w)).is h ks a:=by
 have⟨_,j,r,⟨o,l,u,n,y⟩,_⟩:=(show ObjOk P w H h a (.tup (ks.map kV))from ok a _ e);erw[⟨o,j.toArray,n,l,u,y,by simpa using Hw r⟩]
def WR(ok:HOk P w H h)(e:Rd H a (.dT kvs)):kvs.length<=sizeLine/\(a==YN)=wg/\
  ∃u,KT H kvs u/\h.DictOfH (tupleKind (YA P w)) a u:=by
 have⟨z,y,u,r,o,d,c,f,L,N,O,R⟩:=(show ObjOk P w H h a (.dT kvs)from Hx ok e);erw[⟨z,y,u,r,o,d,c,f,L,N,O,λx j=>?_,R⟩];have all:∀{l:List (List Key×V)} {m:List (List Key×Addr×X0)},KT H l m->∀x∈m,(tupleKind (YA P w)).is h x.1 x.2.1:=by
  intro l m q
  induction q with
  |nil=>intro x j;erw[nomatch j]
  | @cons p q U W g t T=>
   intro x j;rcases Xk.mp j with e|j
   .subst e;erw[WQ ok (by rw[<-g.1];erw[g.2.1])]
   .erw[T x j]
 erw[all r x j]
def _rD(ok:HOk P w H h)(e:H a=wc (.dT kvs)):kvs.length<=sizeLine/\(a==YN)=wg/\
  ∃j,KT H kvs j/\h.DictOfH (tupleKind (YA P w)) a j:=WR ok (.inl e)
end
def DGet(H:Hp)(a:Addr)(y:V)(r:Option V):Prop:=
 (∃j k,Rd H a (.dK j)/\y=kV k/\r=valV j k)\/∃j k b,Rd H a (.dT j)/\y=.ref b/\H b=wc (.tup (k.map kV))/\r=valV j k
def DPut(H:Hp)(a:Addr)(y v:V)(l:Hp):Prop:=
 (∃j k,H a=wc (.dK j)/\y=kV k/\j.length<sizeLine/\l=upd H a (.dK (putK j k v)))\/
 ∃j k b,H a=wc (.dT j)/\y=.ref b/\H b=wc (.tup (k.map kV))/\j.length<sizeLine/\l=upd H a (.dT (putK j k v))
theorem DGet.k{k:Key}(e:H a=wc (.dK kvs)):DGet H a (kV k) (valV kvs k):=.inl ⟨kvs,k,.inl e,rfl,rfl⟩
theorem DPut.k{k:Key}(e:H a=wc (.dK kvs))(j:kvs.length<sizeLine):DPut H a (kV k) v (upd H a (.dK (putK kvs k v))):=.inl ⟨kvs,k,e,rfl,j,rfl⟩
section
variable{X:Cx}{pq:List (Addr×Obj)}{σ:St}{H:Hp}{s:X1}{a:Addr}{y v:V}{u r:X0}{o:Option V}{A:Xw}{E:X0->X1->Prop}
def Inv.big(I:Inv X pq σ H s):YN<s.heap.objs.size:=by
 have h:Xp<s.heap.objs.size:=(I.mod.glob.keeps I.bk).lt;erw[Bn (by decide) h]
def _iW(R:A.units+1<cLine)(I:Inv X pq σ H s)(g:DGet H a y (wc v))(O:RelV y u)(h:∀d P,Inv X pq σ H P->RelV v d->Q d P):
  X4 (X8 X.prog X.w) A (getItem (.ref a) u) Q E s:=by
 rcases g with⟨c,k,e,f,l⟩|⟨c,k,b,e,f,T,l⟩
 .subst f;have⟨z,hd,U,j,q⟩:=Vn I.hok e;have⟨d,L,m⟩:=RelO.some_of (v:=v) (o:=Z4 U k) (by rw[l];erw[j.val k])
  erw[wpAny_getItem_of (VY O) q.mapOf L (h d _ (I.tok _) m)]
 .subst f;cases(show u=XC b from O);have⟨z,hd,W,j,q⟩:=WR I.hok e;have⟨d,L,m⟩:=RelO.some_of (v:=v) (o:=(atKey W k).map (·.2)) (by rw[l];erw[j.val k])
  have⟨p,Y,N⟩:=VO.mp L;erw[wpAny_getItem_heap (AR R) (WQ I.hok T) q Y ?_];rw[N];erw[h d _ (I.tok _) m]
def d_in(L:A.units+1<cLine)(I:Inv X pq σ H s)(g:DGet H a y o)(f:RelV y u)(h:∀p,Inv X pq σ H p->Q (.bool o.isSome) p):
  X4 (X8 X.prog X.w) A (Y8 .In u (.ref a)) Q E s:=by
 rcases g with⟨m,k,e,d,l⟩|⟨m,k,b,e,d,N,l⟩
 .subst d;have⟨z,hd,O,j,c⟩:=Vn I.hok e;erw[wpAny_in_of (VY f) hd c.mapOf ?_];rw[<-(j.val k).isSome_eq,<-l];erw[h _ (I.tok _)]
 .subst d;cases(show u=XC b from f);have⟨z,hd,P,j,c⟩:=WR I.hok e;erw[wpAny_in_heap (AR L) (WQ I.hok N) hd c ?_];have q:=(j.val k).isSome_eq;rw[Dw]at q;rw[<-q,<-l];erw[h _ (I.tok _)]
def _nu(L:A.units+1<cLine)(I:Inv X pq σ H s)(g:DGet H a y o)(f:RelV y u)(h:∀p,Inv X pq σ H p->Q (.bool (!o.isSome)) p):
  X4 (X8 X.prog X.w) A (Y8 .NotIn u (.ref a)) Q E s:=by
 rcases g with⟨m,k,e,d,l⟩|⟨m,k,b,e,d,N,l⟩
 .subst d;have⟨z,hd,O,j,c⟩:=Vn I.hok e;erw[wpAny_notIn_of (VY f) hd c.mapOf ?_];rw[<-(j.val k).isSome_eq,<-l];erw[h _ (I.tok _)]
 .subst d;cases(show u=XC b from f);have⟨z,hd,P,j,c⟩:=WR I.hok e;erw[wpAny_notIn_heap (AR L) (WQ I.hok N) hd c ?_];have q:=(j.val k).isSome_eq;rw[Dw]at q;rw[<-q,<-l];erw[h _ (I.tok _)]
def Hy(I:Inv X pq σ H s)(j:Mut (H a))(l:Ue a s.heap h')(m:∃q,h'.get? a=wc q)(new:ObjOk X.prog X.w (upd H a ob) h' a ob):
  Inv X pq σ (upd H a ob) {s with heap:=h',toks:=t'}:=
 I.write (x:=a) (e:=a) j (.inl rfl) (λb q g z=>(l.2 b g).trans z) m new
def DL(z:kvs.length<=sizeLine)(hd:(a==YN)=wg)(j:KV kvs vs)(l:h'.DictOf (YA P w) a vs):
  ObjOk P w H' h' a (.dK kvs):=⟨z,hd,vs,j,l⟩
def _iV{T:Hp}{Q:Unit->X1->Prop}(D:A.units+1<cLine)(I:Inv X pq σ H s)(g:DPut H a y v T)(U:RelV y u)(W:RelV v r)(h:∀Y,Inv X pq σ T Y->Q () Y):
  X4 (X8 X.prog X.w) A (setItem (.ref a) u r) Q E s:=by
 rcases g with⟨j,k,e,p,l,L⟩|⟨j,k,b,e,p,Z,l,L⟩
 .subst p L;have⟨z,hd,F,m,N⟩:=DK I.hok e;have O:F.length<=sizeLine:=by rw[<-m.length];erw[z]
  have P:(putK j k v).length<=sizeLine:=by have:=Hv j k v;lia
  erw[wpAny_setItem_pairs (hsz:=O) (VY U) N λB d R=>h _ ?_];have G:∃q,B.get? a=wc q:=let⟨q,_,_,f,_⟩:=d;⟨q,f⟩
  erw[Hy I (by rw[e];erw[YF]) R G (DL P hd (m.put k W) d)]
 .subst p L;cases(show u=XC b from U);have⟨z,hd,J,m,N⟩:=_rD I.hok e;have O:J.length<=sizeLine:=by rw[<-Paired.length m];erw[z]
  have P:(putK j k v).length<=sizeLine:=by have:=Hv j k v;lia
  erw[wpAny_setItem_heap (hsz:=O) (AR D) (WQ I.hok Z) N λB d R=>h _ ?_];have⟨q,M,S,f,i,n,x,_,h5⟩:=d;erw[Hy I (by rw[e];erw[YF]) R ⟨q,f⟩ ⟨P,hd,_,(m.put k Z W).keeps λc ys C=>?_,q,M,S,f,i,n,x,h5⟩]
  rw[XE (GD C e (λz=>nomatch z))];erw[C]
end
section
variable{X:Cx}{pq:List (Addr×Obj)}{σ:St}{H:Hp}{s:X1}{a:Addr}{kvs:List (Key×V)}{k:Key}{u:X0}{A:Xw}{E:X0->X1->Prop}
def _rE(I:Inv X pq σ H s)(e:Rd H a (.dK kvs))(h:∀t l,Inv X pq σ H l->Q (.int kvs.length t) l):X4 (X8 X.prog X.w) A (call (.builtin "len") [.ref a]) Q E s:=by
 have⟨z,hd,m,j,y⟩:=Vn I.hok e;erw[call_len_dict hd y (by rw[<-j.length];rw[sizeLine_eq]at z;lia) ?_]
 rw[<-j.length];erw[h _ _ (I.tok _)]
end
def _eL(I:Inv X pq σ H s)(g:DGet H a y o):s.TypeIs (.ref a) "dict":=by
 rcases g with⟨j,k,e,_,_⟩|⟨j,k,b,e,_,_,_⟩
 .have⟨_,_,u,_,l⟩:=Vn I.hok e;erw[l.typeIs]
 .have⟨_,_,z,_,l⟩:=WR I.hok e;erw[l.typeIs]
section
variable{X:Cx}{o i e value:Expr}{pos pos' tpos:Pos}{td ty tv:TE}
end
def _ky{P:Xr}{w:Xm}{H:Hp}(h:Heap)(j:YN<h.objs.size):ObjOk P w H (h.push {cls:=.type "dict",data:=.dict #[]}) h.objs.size (.dK []):=
 ⟨Yg _,beq_eq_false_iff_ne.mpr (XW (XG j)),[],.nil,GA h⟩
def Zo3:TE:=λ_ H Q=>∀p,H p=we->Q (.ref p) (upd H p (.dK []))
section
variable{X:Cx}{pos:Pos}
def pe_dnewK:PE X (.Dict [] [] pos) Zo3:=λj s l H Q I h=>
 wpAny_Dict_empty ⟨.ref s.heap.objs.size,_,I.laid (a:=s.heap.objs.size) (o:=.dK []) (t':=s.toks) (λ_ _ q=>Xt _ q) (Xa _) (_ky s.heap I.big),rfl,h _ (I.hok.fresh (Xa _))⟩
end
def Hz:List (TE×TE)->St->Hp->(List (V×V)->Hp->Prop)->Prop
 |[],_,H,Q=>Q [] H
 |(tk,tv)::r,σ,H,Q=>tk σ H λx j=>tv σ j λy l=>Hz r σ l λu z=>Q ((x,y)::u) z
abbrev VV:List (V×V)->List (X0×X0)->Prop:=Paired λp q=>RelV p.1 q.1/\RelV p.2 q.2
def PPs(X:Cx)(u:Pos)(l:List (Option Expr))(j:List Expr)(y:List (TE×TE)):Prop:=
 ∀(m:List (Addr×Obj))(s:X1)(z:St)(H:Hp)(Q:List (V×V)->Hp->Prop),Inv X m z H s->Hz y z H Q->
  X4 (X8 X.prog X.w) X.A (evalPairs (pairTrees l j X.env u)) (λc f=>∃g d,Inv X m z d f/\VV g c/\Q g d) X.xe s
def _me:PPs X pos [] [] []:=λj s l H Q I h=>pairTrees_nil_walk ⟨[],H,I,.nil,h⟩
def _jS{X:Cx}{j:Pos}{k v:Expr}{d:List (Option Expr)}{c:List Expr}{f q:TE}{l:List (TE×TE)}(r:PE X k f)(p:PE X v q)(e:PPs X j d c l):
  PPs X j (wc k::d) (v::c) ((f,q)::l):=λz s m H Q I h=>
 pairTrees_cons_walk (thn (r z s m H _ I h) λu L ⟨x,N,O,P,R⟩=>thn (p z L m N _ O R) λG T ⟨y,U,W,Y,Z⟩=>
  thn (e z T m U _ W Z) λJ M ⟨B,C,D,g,F⟩=>⟨(x,y)::B,C,D,.cons ⟨P,Y⟩ g,F⟩)
structure M1 (X:Cx)(o:Expr)(m:Str)(apos:Pos)(e:Expr)(cpos:Pos):Prop where
 base:UB o m X.env (eval o X.env)=eval o X.env
 few:((Y5 cpos (Xx [e] X.env)).all (λx=>!x.1)&&(U7 cpos (U8 [] X.env)).all (λx=>x.1.isSome)
  &&decide (([e]:List Expr).length+([]:List Ze).length+(if([]:List Ze).isEmpty then 0 else 1)<30))=wf
 line:(apos.endLine==cpos.line)=wf
 trees:Y5 cpos (Xx [e] X.env)=[(wg,eval e X.env)]
structure M2 (X:Cx)(o:Expr)(m:Str)(apos:Pos)(e f:Expr)(cpos:Pos):Prop where
 base:UB o m X.env (eval o X.env)=eval o X.env
 few:((Y5 cpos (Xx [e,f] X.env)).all (λx=>!x.1)&&(U7 cpos (U8 [] X.env)).all (λx=>x.1.isSome)
  &&decide (([e,f]:List Expr).length+([]:List Ze).length+(if([]:List Ze).isEmpty then 0 else 1)<30))=wf
 line:(apos.endLine==cpos.line)=wf
 trees:Y5 cpos (Xx [e,f] X.env)=[(wg,eval e X.env),(wg,eval f X.env)]
section
variable{X:Cx}{pq:List (Addr×Obj)}{σ:St}{H:Hp}{s:X1}{a:Addr}{y d:V}{u r:X0}{o:Option V}{A:Xw}{E:X0->X1->Prop}
end
section
variable{X:Cx}{o e f:Expr}{apos cpos:Pos}{td ty tx:TE}
end
section
variable{X:Cx}{pq:List (Addr×Obj)}{σ:St}{H:Hp}{s:X1}{a:Addr}{kvs:List (Key×V)}{A:Xw}{E:X0->X1->Prop}
def _kz(I:Inv X pq σ H s)(e:Rd H a (.dK kvs))(h:∀p u,H p=we->Inv X pq σ (upd H p (.dK kvs)) u->Q (.ref p) u):X4 (X8 X.prog X.w) A (call (.type "dict") [.ref a]) Q E s:=by
 have⟨z,hd,d,j,m⟩:=Vn I.hok e;erw[kt_call_dict hd m (by rw[<-j.length];erw[z]) λc l g=>?_]
 erw[h _ _ (I.hok.fresh (Xa _)) (I.laid (a:=s.heap.objs.size) (o:=.dK kvs) (t':=s.toks) (λb q y=>?_) (Xa _) (DL z (beq_eq_false_iff_ne.mpr (XW (XG I.big))) j l))];erw[(g.2 b (XG (Xu y))).trans (Xt _ y)]
end
section
variable{X:Cx}{pq:List (Addr×Obj)}{σ:St}{H:Hp}{s:X1}{a:Addr}{y:V}{u:X0}{A:Xw}{E:X0->X1->Prop}
end
end L2
namespace Att
open PySem PySem.W PySem.Calls PyProof.Rows
def _a1:∀(j:List Int)(l:List X0),WellAll P h l (j.map WData.int)->IntsAre l j:=by
 intro j
 induction j with
 |nil=>
  intro l w;rw[Ys]at w;cases w;erw[.nil]
 |cons n j u=>
  intro l w;rw[Xz]at w;cases w with
  |cons a b=>
   cases a;erw[.cons _ _ (u _ b)]
def _hd{l:OpenLaw}{n:Nat}(N:l.most=wc n){P:Params}{h:Heap}{j:List WData}{w:List X0}
  (y:l.row.toRowW.claim.pre j=wf)(f:WellAll P h w j):
  ∃a e u,w=[XC a]/\j=[WData.list (u.map WData.int)]/\h.get? a=wc {cls:=.type "list",data:=.seq e.toArray}/\IntsAre e u/\u.length<=n:=by
 have p:WShape.hasAll [] j [.list .int]=wf:=(pre_splitW y).1;have L:l.pre.holds [] {args:=j}=wf:=(pre_splitW y).2;have⟨d,r,rfl,O,R⟩:=hasAllW_cons p;obtain rfl:=hasAllW_nil R;have⟨A,rfl,T⟩:=hasW_list O;have⟨u,rfl⟩:=items_int T;have z:u.length<=n:=by
  unfold OpenLaw.pre at L;have g:(WTm.not (.lt (.lit (.int (n:Int))) (.len (.arg 0)))).holds [] {args:=[.list (u.map .int)]}=wf:=by
   have g:=(holds_andW L).1;rw[N]at g;erw[g]
  have c:=condW_of g (w_not (w_lt w_lit (w_len_list (w_arg rfl))));rw[X5]at c;erw[Nat.le_of_not_lt λq=>?_];have U:(n:Int)<((u.length:Nat):Int):=by lia
  first
   |(rw[decide_eq_true U]at c;erw[absurd c (by decide)])
   |(simp at c;lia)
 cases f with
 |cons W Y=>
  cases Y;cases W with
  |list Z m=>erw[⟨_,_,u,rfl,rfl,Z,_a1 u _ m,z⟩]
def _hu(l:OpenLaw)(j:List WData):l.row.toRowW.claim.post j (.bool wf) j=wf:=
 postW_of (r:=l.row.toRowW) (X:=(wf==wf))
  (show WShape.has [] (.bool wf) .bool=wf by first|rfl|decide|simp[WShape.has,WShape.arms,WShape.armsAll])
  (show(WTm.eq .res (.lit (.bool wf))).value [] {args:=j,res:=wc (.bool wf),after:=j}=wc (.bool (wf==wf))from w_eq_bool (w_res rfl) w_lit) rfl
def attach_call{l:OpenLaw}{n:Nat}{q:Xr}{u:List Str}{C:(Str->Option X0)->Heap->Prop}{D:Xm->Heap->Prop}{d:DefRec}
  (M:l.most=wc n)(T:d.params.defaults=[])
  (call:∀(w:Xm)(y j:X1)(N U:Str->Option X0)(c:Addr)(o:Obj)(W O z:X0)(a:Addr)(g:List X0)(P:List Int),
   Ground q u [] C w y N U j.heap->D w j.heap->
   j.heap.get? c=wc o->o.data=.func (docDef d.name d.params d.body d.scope W O z)->j.heap.CodeRec O d.name->N d.name=wc (.ref c)->
   j.heap.get? a=wc {cls:=.type "list",data:=.seq g.toArray}->IntsAre g P->P.length<=n->j.gens=#[]->
   YY (X8 l.prog w) callerA (.call (.ref c) ⟨[.ref a],[]⟩) (λr R=>r=.ok (.ret (.bool wf))/\OldK j.heap R.heap/\R.os=j.os/\AllBare R.gens) j):
  WalkO q u C D l.row.toRowW d [] (λf g=>PySem.call f g):=by
 intro w y j N U G Y c o W O z Q kV S hd Z E A X F I as p J H B v;obtain rfl:Q=.none:=Dflts.none E T;obtain rfl:kV=.none:=Dflts.noKw E;have⟨a,g,P,rfl,rfl,e,m,L⟩:=_hd M p B;erw[enter_call (Vy (call w y j N U c o W O z a g P G Y S (fd_plain hd) Z A e m L X) λr R s=>?_)];have⟨rfl,i,x,h⟩:=s;erw[⟨.inl ⟨.bool wf,.bool wf,[],rfl,λ_=>rfl,.bool wf,_hu l _,λ_=>⟨List.Pairwise.nil,λ_ b=>(nomatch b)⟩⟩,i,x,h⟩]
section
variable{prog:Xr}{w:Xm}{A:Xw}{E:X0->X1->Prop}{s:X1}{K:Frag}
noncomputable def ledger(h:Heap)(L d:Addr):List (Addr×Obj):=(Xq h.objs.size).filterMap λa=>if a=L\/a=d then we else(h.get? a).map λo=>(a,o)
end
end Att
namespace L2
open PySem PySem.Spec PyProof.Rows
theorem HA:∀{j:List X0} {l:List Int},IntsAre j l->Vals (l.map V.int) j
 |_,_,.nil=>.nil
 |_,_,.cons n t h=>.cons ⟨t,rfl⟩ (HA h)
def Only(H:Hp):Prop:=∀b,H b=we\/∃o j,H b=wc (.frz o (.lst j))
def _ki{K:X3}{k:Nat}
  (M:K.In s₁.heap)(L:s₁.heap.Ns Xp mg)(l:s₁.heap.Ns builtinsNs mb)(C:∀x:Str,x≠"__name__"->mb x=YE x)(N:s₁.heap.NoLimit)(hg:s₁.gens=#[])
  (B:s₁.heap.get? a=wc {cls:=.type "list",data:=.seq vs.toArray})(Q:IntsAre vs ns)(S:ns.length<=sizeLine)(hr:Room k callerA)
  (F:∀y:Heap,K.In y->y.Ns Xp mg->FnOk P w K mg y CX k fa fd [x] sp)(p:∀(s:X1)(u:X0),BindsTo s fd ⟨[u],[]⟩ [(x,u)])
  (D:∀H:Hp,Only H->SqL K H a (ns.map V.int)->sp [.ref a] H (λv _=>v=.bl wf) λ_ _ _=>False)
  (E:∀H e g,CX [] H s₁ (λ_ _ _=>False) e g->False):
  YY (X8 P w) callerA (.call (.ref fa) ⟨[.ref a],[]⟩) (λr g=>r=.ok (.ret (.bool wf))/\OldK s₁.heap g.heap/\g.os=s₁.os/\AllBare g.gens) s₁:=by
 have X:=HA Q;have O:=Q.length;have f:∀H:Hp,Only H->SqL K H a (ns.map V.int)->HOk P w H s₁.heap->(∀b,H b≠we->b=a)->(H a≠we->K.lookup a=we)->
   YY (X8 P w) callerA (.call (.ref fa) ⟨[.ref a],[]⟩) (λr g=>r=.ok (.ret (.bool wf))/\OldK s₁.heap g.heap/\g.os=s₁.os/\AllBare g.gens) s₁:=by
  intro H i hS R hA hK;have j:∀{b:Addr} {o:Obj},s₁.heap.get? b=wc o->H b=we->(hidT s₁.heap H).get? b=wc o:=λe n=>RQ e n;have G:∀{b:Addr} {o:Obj} {T:Array DictEntry} {U:Nat},s₁.heap.get? b=wc o->o.data=.dict T U->H b=we:=fun{b o T U} e d=>by
   cases q:H b with
   |none=>rfl
   |some u=>
    have I:b=a:=hA b (by rw[q];simp)
    subst I;rw[B]at e;cases e;have d':Data.seq vs.toArray _=Data.dict T U:=d;cases d'
  have c:∀{b:Addr} {m:Str->Option X0},s₁.heap.Ns b m->(hidT s₁.heap H).Ns b m:=fun{b m} ⟨o,T,U,e,d,r⟩=>⟨o,T,U,j e (G e d),d,r⟩;have W:K.In (hidT s₁.heap H):=λb o e=>j (M b o e) (by
   cases q:H b with
   |none=>rfl
   |some u=>
    have I:b=a:=hA b (by rw[q];simp)
    subst I;rw[hK (by rw[q];simp)]at e;cases e)
  have hM:Mod K mg (hidT s₁.heap H):=⟨W,c L,⟨mb,c l,C⟩,let⟨mc,h1,h2⟩:=N;⟨mc,c h1,h2⟩⟩
  have e0:Env0 P w K mg (hidT s₁.heap H) callerA [] s₁ H:=⟨rfl,hM,λb o e=>RT e,Vf (RP _ _),trivial,λb l=>absurd (show b∈([]:List Addr)from l) (by simp),R,.of_eq hg⟩
  erw[Vy ((F _ W (c L)).run callerA [] s₁ H ⟨[.ref a],[]⟩ [.ref a] [.ref a] _ _ hr e0 (p s₁ (.ref a)) (.cons rfl .nil) (D H i hS)) λr g h=>?_];cases r with
  |error e=>erw[(E H e g h).elim]
  |ok fl=>
   cases fl with
   |next=>erw[Ya h]
   |brk=>erw[Ya h]
   |cont=>erw[Ya h]
   |ret u=>
    have⟨v,H',os,Y,un,Z,r',q⟩:=h;have q':v=.bl wf:=q;subst q';obtain rfl:u=UN wf:=r';erw[⟨rfl,OldK.of_keep λb o e=>?_,os,Y⟩];cases q:H b with
    |none=>erw[un.keep b o e q (by intro z;erw[absurd (show b∈([]:List Addr)from z) (by simp)]) (by simp)]
    |some u=>
     rcases i b with z|⟨ob,xs,z⟩
     .rw[q]at z;cases z
     .have z2:=un.frzs b ob _ z;have⟨e1,_⟩:=R b _ z;have⟨e2,_⟩:=Z b _ z2;rw[e]at e1;cases e1;erw[e2]
 cases J:K.lookup a with
 |some o=>
  have e:=M a o J;rw[B]at e;cases e;erw[f (λ_=>we) (λ_=>.inl rfl) (.inr ⟨_,vs.toArray,_,J,rfl,rfl,rfl,by rw[XM,O];erw[S],by simpa using X⟩) (λb u z=>by have A:(we:Option HO)=wc u:=z;cases A) (λb z=>absurd rfl z) λz=>absurd rfl z]
 |none=>
  erw[f (fun b=>if b=a then wc (.frz {cls:=.type "list",data:=.seq vs.toArray} (.lst (ns.map V.int)))else we) (fun b=>?_) (.inl (.inr ⟨{cls:=.type "list",data:=.seq vs.toArray},if_pos rfl⟩)) (fun b u z=>?_) (fun b z=>?_) fun _=>J]
  .by_cases l:b=a
   .erw[.inr ⟨_,_,if_pos l⟩]
   .erw[.inl (if_neg l)]
  .by_cases l:b=a
   .have A:=(if_pos l).symm.trans z;cases A;subst l;erw[⟨B,by rw[X5];erw[S],vs,_,X,B⟩]
   .have A:=(if_neg l).symm.trans z;cases A
  .by_cases l:b=a
   .erw[l]
   .erw[absurd (if_neg l) z]
noncomputable abbrev KOf{K:X3}{h:Heap}(_:K.In h):X3:=K
def walk_of{l:Dl}{n k:Nat}{q:Xr}{z:List Str}{I:(Str->Option X0)->Heap->Prop}{Z:Xm->Heap->Prop}{d:DefRec}{K:Params->X3}{A:Xm->CXT}{B:Xm->Sp}{x:Str}
  (J:l.most=wc n)(N:n<=sizeLine)(O:d.params.defaults=[])(M:Room k callerA)
  (Q:∀(w:Xm)(h:Heap),Z w h->(K w.params).In h)
  (F:∀(w:Xm)(g:Str->Option X0)(p:Addr)(h:Heap),(K w.params).In h->h.Ns Xp g->g d.name=wc (.ref p)->
   ∃P:Zd,(∀(s:X1)(u:X0),BindsTo s P ⟨[u],[]⟩ [(x,u)])/\
    ∀j:Heap,(K w.params).In j->j.Ns Xp g->FnOk l.prog w (K w.params) g j (A w) k p P [x] (B w))
  (R:∀(w:Xm)(H:Hp)(a:Addr)(L:List Int),L.length<=n->Only H->SqL (K w.params) H a (L.map V.int)->B w [.ref a] H (λv _=>v=.bl wf) λ_ _ _=>False)
  (T:∀(w:Xm)(H:Hp)(s:X1)(e:X0)(U:X1),A w [] H s (λ_ _ _=>False) e U->False):
  PySem.W.WalkO q z I Z l.row.toRowW d [] (λf C=>PySem.call f C):=by
 erw[Att.attach_call J O λw D c g mb p o pm cd S a C L G Y ho hd X W r m y i=>?_];have E:=Q w _ Y;have⟨P,b,hF⟩:=F w g p _ E G.T.g W;erw[_ki E G.T.g G.T.b G.T.builtins G.T.nolimit i r m (Xy y N) M hF b (λH hO hS=>R w H a L y hO hS) λH e U=>T w H c e U]
end L2
/- THE LAST THEOREM (shape;LID,My.*are yours):
  My.Adr:a structure of the addresses that your layer names (classes,functions);My.Txt K t:a structure(Prop) of the equations over K;
  My.txt_mk:{K} {implicit addresses ..} (e1:nsIn K Xp "law"=some (some (.ref f))) (e2:K.lookup f=some ⟨oc,od,.func (fnOf "law" "law" params body scope dV kV doc pm an cdv ct),sl⟩) (e3:codeIn K cdv "law"=true) ..:∃t,My.Txt K t
set_option maxRecDepth 100000 in
set_option maxHeartbeats 0 in
theorem PySem.Challenge.cw_LID_holds : PySem.Challenge.rw_LID.Holds := by
 w_on;o_law;k_head;(case hw=>w_witness2)
 k_fill
 refine L2.walk_of (l:=PySem.Challenge.rw_LID) (n:=63) (k:=40) (x:="script") (CX:=fun w=>..) (sp:=fun _=>My.sp_law) rfl (by decide) rfl ⟨rfl,by decide,by decide⟩ (fun w h Y=>PySem.W.kIn_of Y) ?F ?S ?C
 case F=>
  intro w mg fa h KX G hmg;have T:∃t,My.Txt (L2.KOf KX) t:=by
   dsimp only[L2.KOf] -- K must stand as «<heap const> w.params» for k_is
   refine' My.txt_mk ?e1 ?e2 ?e3 ..
   (case e1=>PySem.W.k_is) -- in the order:a name->its address->its object->its parts
   (case e2=>PySem.W.k_is)
   ..
  obtain⟨t,T⟩:=T;have e0:=hmg.symm.trans (Bi KX G T.law);cases e0 -- fa is the law's own address
  exact⟨_,λs u=>.of_eq rfl,λbase kb nb=>My.law_fn T kb nb⟩ -- if «.of_eq rfl» comes too early:refine' ⟨_,?b,λbase kb nb=>My.law_fn T kb nb⟩;exact λs u=>.of_eq rfl
 case S=>exact λw H a ns hl hO hS=>..
 case C=>exact ..
(the tactic k_is has no namespace:write k_is) -/
namespace L2
open PySem PySem.Spec PyProof.Rows
noncomputable def YH(s:Stmt)(j:Nat):Stmt:=match s with
 |.ClassDef _ _ _ body _ _ _ _ _ _ _=>body.getD j (.Pass ⟨0,0,0,0⟩)
 |_=>.Pass ⟨0,0,0,0⟩
noncomputable def Uj(s:Stmt):Arguments:=match s with
 |.FunctionDef _ a _ _ _ _ _ _ _ _=>a
 |_=>{posonlyargs:=[],args:=[],vararg:=we,kwonlyargs:=[],kw_defaults:=[],kwarg:=we,defaults:=[]}
noncomputable def Yu(s:Stmt):List Stmt:=match s with
 |.FunctionDef _ _ b _ _ _ _ _ _ _=>b
 |_=>[]
noncomputable def XV(s:Stmt):Scope:=match s with
 |.FunctionDef _ _ _ _ _ _ sc _ _ _=>sc
 |_=>{kind:=.function,names:=[],isGenerator:=wg,isCoroutine:=wg}
noncomputable abbrev CX0:CXT:=λ_ _ _ _ _ _=>False
noncomputable abbrev E0:XK:=λ_ _ _=>False
def BU{X:Cx}:Vm CX0 X E0:=λ_ _ _ _ _ _ _ h=>h.elim
structure Fun (K:X3)(x qual:Str)(st:Stmt)(f:Addr)(fd:Zd):Prop where
 ex:∃(oc:X0) (od:Option Addr) (kV doc pm:X0) (an:Option Addr) (cdv ct:X0) (osl:Array (Option X0)),
  fd=ZB x qual (Uj st) (Yu st) (XV st) .none kV doc pm an cdv ct/\K.lookup f=wc ⟨oc,od,.func fd,osl⟩/\Bg K cdv qual=wf
 kp:Zm K (.ref f)=wf
section
variable{P:Xr}{w:Xm}{K:X3}{mg:Str->Option X0}{base:Heap}
def Fun.ok{st:Stmt}{k:Nat}(F:Fun K x qual st f fd)(S:FnScope N ps (XV st))(len:∀vs H Q E,sp vs H Q E->vs.length=ps.length)
  (u:∀(l:X0)(A:Xw)(j:List Env)(s:X1)(H:Hp)(vs:List V)(Q:VK)(E:XK),Room k (A.deeper (envOfC qual (XV st) s.heap.objs.size f l))->sp vs H Q E->
   ∃t,PSs (cxOf CX0 P w K mg base N qual (XV st) f l A j s H E).nox (Yu st) t/\t {nx:=λ_ m=>Q .non m,rt:=Q} (start N vs) H):FnOk P w K mg base CX0 (k+1) f fd ps sp:=by
 have⟨p,e,kV,g,L,O,l,R,d,rfl,c,y⟩:=F.ex;erw[To c y S len λA j s H vs Q E r z=>?_];have⟨t,h,q⟩:=u l A j s H vs Q E r z;erw[⟨t,h.nox,q⟩]
def Fun.binds{st:Stmt}(F:Fun K x qual st f fd)
  (h:∀(kV j u:X0)(y:Option Addr)(l z:X0)(m:List X0),m.length=ps.length->bindArgs (ZB x qual (Uj st) (Yu st) (XV st) .none kV j u y l z) ⟨m,[]⟩=pure (ps.zip m)):Binds K fd ps []:=by
 have⟨c,q,kV,j,u,y,l,z,g,rfl,r,d⟩:=F.ex;erw[.all (h kV j u y l z)]
def fun_mk{st:Stmt}{kV:X0}(l:K.lookup f=wc ⟨oc,od,.func (ZB x qual (Uj st) (Yu st) (XV st) .none kV doc pm an cdv ct),osl⟩)
  (c:Bg K cdv qual=wf)(k:Zm K (.ref f)=wf):Fun K x qual st f (ZB x qual (Uj st) (Yu st) (XV st) .none kV doc pm an cdv ct):=⟨⟨oc,od,kV,doc,pm,an,cdv,ct,osl,rfl,l,c⟩,k⟩
end
section
variable{X:Cx}
def pv(i:Nat)(l:X.N[i]?=wc x:=by rfl)(u:Vis X.env.scope x:=by first|erw[Or.inl rfl]|erw[Or.inr (Or.inl rfl)]|erw[Or.inr (Or.inr rfl)])(hd:(x==("__debug__":Str))=wg:=by decide)
  (j:(x==("__classdict__":Str))=wg:=by decide):PE X (.Name x pos) (tVar i):=GH l u hd j
def _j6:YG X (.builtin "len") (fun l H Q=>∃a j,l=[V.ref a]/\H a=wc (.dK j)/\Q (.int j.length) H):=by
 intro m s g H l d Q I r h;have⟨a,j,rfl,w,q⟩:=h;have⟨u,rfl,y⟩:=_Y r;cases y;erw[_rE I (.inl w) λt c z=>⟨.int j.length,H,z,⟨t,rfl⟩,q⟩]
end
section
variable{κ:Type} [DecidableEq κ]
theorem HB:∀{l:List κ} {k:κ},l.Nodup->¬k∈l->(l++[k]).Nodup
 |[],k,_,_=>by simp
 |a::r,k,h,hk=>by
  have⟨j,u⟩:=Yf.mp h;show(a::(r++[k])).Nodup;erw[Yf.mpr ⟨λm=>?_,HB u λm=>hk (Xk.mpr (Or.inr m))⟩];rcases Ye.mp m with q|q
  .erw[j q]
  .erw[hk (Xk.mpr (Or.inl (Y1.mp q).symm))]
end
section
variable{X:Cx}
def WT(i j:Int):Prop:=0<j/\j<2^256
def _gg(h:WT i j):j.natAbs.log2<9000:=by
 have u:(0:Int)<j:=h.1;have w:j<2^256:=h.2;have l:j.natAbs≠0:=by lia
 have:j.natAbs<2^256:=by lia
 have:=(Nat.log2_lt l).mpr this;lia
def _k6:OpR X (Yk .FloorDiv) (rI WT λi j=>.int (i/j)):=opI λi j _ _ _ _ _ l q=>by
 have u:(0:Int)<j:=l.1;erw[floordiv_int (by lia) (by rw[Int.fdiv_eq_ediv_of_nonneg i (by lia)];erw[q]) (.inl (PyProof.noPylong_of_log2 (_gg l)))]
def _eN:YG X (.builtin "isinstance") (fun l H Q=>∃x c t b,l=[x,.ty c]/\TyOf X.K H x t/\Ve X.K t (.type c)=wc b/\Q (.bl b) H):=by
 intro z s m H l g Q I r h;have⟨x,c,t,b,rfl,ty,e,q⟩:=h;have⟨u,d,rfl,w,j⟩:=WL r;cases j;erw[Ta I w ty e λy=>⟨.bl b,H,I.tok y,rfl,q⟩]
end
section
variable{X:Cx}{pq:List (Addr×Obj)}{σ:St}{H:Hp}{s:X1}
end
section
variable{X:Cx}
end
end L2
namespace L2
end L2
namespace L2
open PySem PySem.Spec PyProof.Rows
noncomputable def clOf(j:List (Str×Addr)):List (Str×Zf)->List (Str×Addr)->List (Str×Addr)
 |[],acc=>acc
 |(n,k)::r,acc=>if k=.free then(match j.lookup n with|wc a=>clOf j r ((n,a)::acc)|we=>clOf j r acc)else clOf j r acc
theorem WU(j:List (Str×Addr)):∀(u:List (Str×Zf))(l:List (Str×Addr))(x:Str)(c:Addr),(clOf j u l).lookup x=wc c->l.lookup x=wc c\/j.lookup x=wc c
 |[],l,x,c,h=>.inl h
 |(n,k)::r,l,x,c,h=>by
  unfold clOf at h;by_cases hk:k=.free
  .rw[if_pos hk]at h;cases w:j.lookup n with
   |none=>rw[w]at h;erw[WU j r l x c h]
   |some a=>
    rw[w]at h;rcases WU j r _ x c h with q|q
    .by_cases hx:x=n
     .subst hx;simp at q;subst q;erw[.inr w]
     .have y:(x==n)=wg:=beq_eq_false_iff_ne.mpr hx;simp only[Zy,y]at q;erw[.inl q]
    .erw[.inr q]
  .rw[if_neg hk]at h;erw[WU j r l x c h]
theorem BV(j:List (Str×Addr)):∀(u:List (Str×Zf))(l:List (Str×Addr))(x:Str)(c:Addr),j.lookup x=wc c->l.lookup x=wc c->(clOf j u l).lookup x=wc c
 |[],l,x,c,_,h=>h
 |(n,k)::r,l,x,c,h,ha=>by
  unfold clOf;by_cases hk:k=.free
  .rw[if_pos hk];cases w:j.lookup n with
   |none=>erw[BV j r l x c h ha]
   |some a=>
    erw[BV j r _ x c h ?_];by_cases hx:x=n
    .subst hx;rw[h]at w;cases w;simp
    .have y:(x==n)=wg:=beq_eq_false_iff_ne.mpr hx;simp only[Zy,y];erw[ha]
  .rw[if_neg hk];erw[BV j r l x c h ha]
theorem WV(j:List (Str×Addr)):∀(l:List (Str×Zf))(u:List (Str×Addr))(x:Str)(c:Addr),(x,Ym)∈l->j.lookup x=wc c->(clOf j l u).lookup x=wc c
 |[],u,x,c,h,_=>by cases h
 |(n,k)::r,u,x,c,h,ha=>by
  unfold clOf;rcases Xk.mp h with e|h
  .cases e;rw[if_pos rfl,ha];erw[BV j r _ _ c ha (by simp)]
  .by_cases hk:k=.free
   .rw[if_pos hk];cases w:j.lookup n with
    |none=>erw[WV j r u x c h ha]
    |some a=>erw[WV j r _ x c h ha]
   .rw[if_neg hk];erw[WV j r u x c h ha]
theorem DN(f:Str×Zf->List (Str×Addr)->Sem (ForInStep (List (Str×Addr))))
  (w:∀n k r,f (n,k) r=if(k==Ym)=wf then(cellOf env n >>= λa=>pure (BK ((n,a)::r)))else pure (BK r)):
  ∀(j:List (Str×Zf))(l:List (Str×Addr)),(∀y∈j,y.2=.free->∃c,env.cells.lookup y.1=wc c)->(forIn j l f:Sem (List (Str×Addr)))=pure (clOf env.cells j l)
 |[],l,_=>by rw[List.forIn_nil];rfl
 |(n,k)::r,l,h=>by
  rw[List.forIn_cons,w];have z:∀y∈r,y.2=.free->∃c,env.cells.lookup y.1=wc c:=λy m=>h y (XJ _ m);by_cases hk:k=.free
  .subst hk;have⟨c,g⟩:=h (n,.free) Y3 rfl;have u:env.cells.lookup n=wc c:=g;have e:cellOf env n=pure c:=by unfold cellOf;rw[u]
   rw[if_pos (by decide),e,pure_bind,pure_bind]
   show forIn r ((n,c)::l) f=_;rw[DN f w r _ z];simp only[clOf,if_pos,u]
  .have d:(k==Ym)=wg:=by simpa using hk
   rw[d,if_neg XB,pure_bind];show forIn r l f=_;rw[DN f w r _ z];simp only[clOf,if_neg hk]
def HC(h:∀y∈scope.names,y.2=.free->∃c,env.cells.lookup y.1=wc c):closureFor scope env=pure (clOf env.cells scope.names []):=by
 unfold closureFor;simp only[bind_pure];erw[DN _ (λn k r=>by
  by_cases hk:(k==Ym)=wf
  .simp only[hk,if_true]
  .simp only[hk,if_false]) scope.names [] h]
noncomputable def VZ(l j:Scope)(N own:List Str)(fr:List Nat):Bool:=
 decide (j.kind=.function)&&j.names.all (λy=>decide (y.2≠.cell))&&j.names.all (λy=>decide (y.2=.local->j.names.lookup y.1=wc .local))&&
 j.names.all (λy=>decide (y.2=.free->l.names.lookup y.1=wc .cell\/l.names.lookup y.1=wc .free))&&
 fr.all (λi=>match N[i]? with|wc x=>decide ((x,Ym)∈j.names/\j.names.lookup x=wc .free/\(l.names.lookup x=wc .cell\/l.names.lookup x=wc .free))|we=>wg)
structure CompOk (osc scope:Scope)(N:List Str)(fr:List Nat):Prop where
 kind:scope.kind=.function
 nocell:∀y∈scope.names,y.2≠.cell
 names:∀y∈scope.names,y.2=.local->scope.names.lookup y.1=wc .local
 has:∀y∈scope.names,y.2=.free->osc.names.lookup y.1=wc .cell\/osc.names.lookup y.1=wc .free
 frees:∀i∈fr,∃x,N[i]?=wc x/\(x,Ym)∈scope.names/\scope.names.lookup x=wc .free/\(osc.names.lookup x=wc .cell\/osc.names.lookup x=wc .free)
def W0{l j:Scope}{N own:List Str}{fr:List Nat}(h:VZ l j N own fr=wf):CompOk l j N fr:=by
 unfold VZ at h;simp only[XU,VD,decide_eq_true_eq]at h;have⟨⟨⟨⟨u,w⟩,y⟩,z⟩,m⟩:=h;erw[⟨u,w,y,z,λi g=>?_⟩];have q:=m i g;cases e:N[i]? with
 |none=>rw[e]at q;simp at q
 |some x=>rw[e]at q;simp only[decide_eq_true_eq]at q;erw[⟨x,rfl,q⟩]
noncomputable def sC(own:List Str)(fr:List Nat)(j:St):St:=own.map (λ_=>we)++fr.map (λi=>j.getD i we)
noncomputable def nC(own:List Str)(fr:List Nat)(N:List Str):List Str:=own++fr.map (λi=>N.getD i VR)
def cxC(X:Cx)(j:Scope)(own:List Str)(fr:List Nat)(C:Addr)(w:List Addr)(l:X1)(u:Hp):Cx:=
 {X with N:=nC own fr X.N,s₀:=l,H₀:=u,env:=compEnvC j (clOf X.env.cells j.names []) C X.env,outer:=X.stack,ex:=w,fn:=λ_=>wg,xe:=λ_ _=>False}
def Keep(l j:St):Prop:=l.length=j.length/\∀(i:Nat)(v:V),l[i]?=wc (wc v)->j[i]?=wc (wc v)
def tAll:TT:=λ_ H Q=>Q wf H
def PTs(X:Cx)(j:List Expr)(t:TT):Prop:=(j=[]/\t=tAll)\/∃c,j=[c]/\PT X c t
section
variable{prog:Xr}{w:Xm}{A:Xw}{R:Result->X1->Prop}{s:X1}
def _dK(I:Nat->X1->Prop)
  (turn:∀n s,I n s->X4 (X8 prog w) A (pyNext it) (λr j=>match r with
   |we=>R (.ok .next) j
   |wc v=>X4 (X8 prog w) A (AN target it v) (λ_ l=>X4 (X8 prog w) A (assign target env v) (λ_ z=>
     X4 (X8 prog w) A (forIn ifs wf λc r=>if r=wf then do let ok<- isTrue c env (eval c env);pure (BK ok)else pure (BK r)) (λok u=>
      if ok=wf then X4 (X8 prog w) A (eval elt env) (λx g=>
       X4 (X8 prog w) A (call (.builtin "list.append") [acc,x]) (fun _ d=>∃m,m<n/\I m d) (fun _ _=>False) g) (fun _ _=>False) u
      else∃m,m<n/\I m u) (λ_ _=>False) z) (λ_ _=>False) l) (λ_ _=>False) j) (λ_ _=>False) s)
  (n:Nat)(h:I n s):
  YY (X8 prog w) A (.compLoop (.ListComp elt [⟨target,iter,ifs,0⟩] scope pos) 0 it acc env) R s:=by
 erw[codeAny_loop rfl I (λn s O=>?_) n h];show X4 _ A ((compTurn (.ListComp elt [⟨target,iter,ifs,0⟩] scope pos) 0 it acc env).onRaise (λx=>do noteFrame x env;theTreesLotGoes x)) _ _ s
 erw[wpAny_noted ?_];rw[compTurn_list];erw[X2 (wpAny_standAt (X2 (ZN (turn n s O) (λr j f=>?_) λ_ _ y=>y.elim)))];cases r with
 |none=>erw[Xd f]
 |some v=>
  erw[X2 (ZN f (λ_ l p=>?_) λ_ _ y=>y.elim)];erw[X2 (ZN p (λ_ z e=>X2 (ZN e (λok u q=>?_) λ_ _ y=>y.elim)) λ_ _ y=>y.elim)];cases ok with
  |false=>erw[Xd ⟨rfl,q⟩]
  |true=>
   erw[X2 (X2 (ZN q (λx g L=>X2 (ZN L (λ_ d N=>Xd (Xd ⟨rfl,N⟩)) λ_ _ y=>y.elim)) λ_ _ y=>y.elim))]
end
def _q2(h:Q wf H):tAll σ H Q:=h
section
variable{X:Cx}{pq:List (Addr×Obj)}{σ:St}{H1:Hp}{s2:X1}{tg elt iter:Expr}{ifs:List Expr}{scope:Scope}{pos:Pos}{own:List Str}{fr:List Nat}{g:TG}{tt:TT}{te:TE}
theorem HD{scope:Scope}{j:Env}{x:Str}:∀{l:List (Str×Zf)},l.lookup x=wc .free->
  (l.map fun(n,k)=>if(k==Ym&&j.scope.kind==.function&&j.kindOf n==wc .cell)then(n,VM)else(n,k)).lookup x=wc .cell\/
  (l.map fun(n,k)=>if(k==Ym&&j.scope.kind==.function&&j.kindOf n==wc .cell)then(n,VM)else(n,k)).lookup x=wc .free
 |[],h=>by simp at h
 |(n,k)::r,h=>by
  have w:=@HD scope j x r;show Ub x ((if(k==Ym&&j.scope.kind==.function&&j.kindOf n==wc .cell)=wf then(n,VM)else(n,k))::_)=_\/Ub x ((if(k==Ym&&j.scope.kind==.function&&j.kindOf n==wc .cell)=wf then(n,VM)else(n,k))::_)=_;cases u:x==n with
  |true=>
   simp only[Zy,u]at h;cases h;by_cases hc:(Ym==Ym&&j.scope.kind==.function&&j.kindOf n==wc .cell)=wf
   .rw[if_pos hc];simp only[Zy,u];erw[.inl trivial]
   .rw[if_neg hc];simp only[Zy,u];erw[.inr trivial]
  |false=>
   simp only[Zy,u]at h;by_cases hc:(k==Ym&&j.scope.kind==.function&&j.kindOf n==wc .cell)=wf
   .rw[if_pos hc];simp only[Zy,u];erw[w h]
   .rw[if_neg hc];simp only[Zy,u];erw[w h]
theorem HE{scope:Scope}{j:Env}(z:∀y∈scope.names,y.2≠.cell){x:Str}:∀{l:List (Str×Zf)},(∀y∈l,y.2≠.cell)->
  ((l.map fun(n,k)=>if(k==Ym&&j.scope.kind==.function&&j.kindOf n==wc .cell)then(n,VM)else(n,k)).lookup x=wc .cell\/
  (l.map fun(n,k)=>if(k==Ym&&j.scope.kind==.function&&j.kindOf n==wc .cell)then(n,VM)else(n,k)).lookup x=wc .free)->(x,Ym)∈l
 |[],_,h=>by simp at h
 |(n,k)::r,hnc,h=>by
  have w:=@HE scope j z x r (λy m=>hnc y (XJ _ m));have d:k≠.cell:=hnc (n,k) Y3;simp only[Xz]at h;cases u:x==n with
  |true=>
   have e:x=n:=eq_of_beq u;subst e;by_cases hc:(k==Ym&&j.scope.kind==.function&&j.kindOf x==wc .cell)=wf
   .have:k=.free:=by
     simp only[XU,beq_iff_eq]at hc;erw[hc.1.1]
    subst this;erw[Y3]
   .rw[if_neg hc]at h;simp at h;rcases h with h|h
    .erw[absurd h d]
    .subst h;erw[Y3]
  |false=>
   by_cases hc:(k==Ym&&j.scope.kind==.function&&j.kindOf n==wc .cell)=wf
   .rw[if_pos hc]at h;simp only[Zy,u]at h;erw[XJ _ (w h)]
   .rw[if_neg hc]at h;simp only[Zy,u]at h;erw[XJ _ (w h)]
def _gx(ok:CompOk X.env.scope scope X.N fr)(f:Inv X pq σ H3 s3)(R:C=s3.heap.objs.size)(T:∀b∈fp,FpOk X pq H3 b)(W:∀b∈fp,∃o,s3.heap.get? b=wc o)
  (F:h4.Ns C m)(O:∀b o,s3.heap.get? b=wc o->h4.get? b=wc o):
  Inv (cxC X scope own fr C fp s3 H3) pq (sC own fr σ) H3 {s3 with heap:=h4,toks:=tk}:=by
 have l:∀x c,(clOf X.env.cells scope.names []).lookup x=wc c->X.env.cells.lookup x=wc c:=λx c h=>(WU _ _ _ _ _ h).elim (λz=>by simp at z) id
 have Y:∀x c,X.env.cells.lookup x=wc c->c<s3.heap.objs.size:=λx c e=>by have⟨v,q⟩:=f.cell x c e;erw[q.lt]
 have P:∀b∈fp,b<s3.heap.objs.size:=λb L=>by have⟨o,e⟩:=W b L;erw[Xu e]
 have r:∀x,(X.env.scope.names.lookup x=wc .cell\/X.env.scope.names.lookup x=wc .free)->∃c,X.env.cells.lookup x=wc c:=λx h=>f.ok.has x h;erw[⟨⟨f.ok.mod,ok.kind,f.ok.glob,f.ok.blt,Vf R.symm,λx y c G I=>f.ok.inj x y c (l x c G) (l y c I),λx J=>?_,λx c z=>?_,f.ok.hd,f.ok.frames,.inl rfl,λb L=>⟨?_,λx c e=>?_⟩,λb o e=>f.bs b o e,Xy f.ok.bsz f.sz,λb o e L=>?_,λb L M=>?_,f.stack,λb L=>f.stkFree b L⟩,
  rfl,f.bare,Un.kept O,⟨m,F,λi x v Q S e3=>?_⟩,λx c e=>?_,?_,λx c e=>f.freeC x c (l x c e),λp H=>?_,f.hok.kept O,?_⟩]
 . -- has
  have U:(x,Ym)∈scope.names:=HE (scope:=scope) (j:=X.env) ok.nocell ok.nocell J;have⟨c,Z⟩:=r x (ok.has _ U rfl);erw[⟨c,WV _ _ _ _ _ U Z⟩]
 .erw[absurd z XB]
 .erw[XG (by rw[R];erw[P b L])]
 .erw[(T b L).2.2.2.2.1 x c (l x c e)]
 .rcases(T b L).2.2.2.1 with z|z
  .erw[f.ok.noex b o e z]
  .erw[absurd (Yz (Xu e) (Xy f.ok.bsz z)) (ZE _)]
 .rcases Xk.mp (f.stkSub b M)with z|z
  .erw[(T b L).2.1 z]
  .erw[(T b L).2.2.1 z]
 . -- a free name's value
  have w:(own.map (λ_=>(we:Option V))++fr.map (λi=>σ.getD i we))[i]?=wc (wc v):=S;have N:(own++fr.map (λi=>X.N.getD i VR))[i]?=wc x:=Q;by_cases hi:i<own.length
  .rw[Zv (by simpa using hi),Xe]at w
   cases q:own[i]? with
   |none=>rw[q]at w;cases w
   |some z=>rw[q]at w;cases w
  .rw[Zi (by simpa using hi)]at w
   rw[Zi (by simpa using hi)]at N
   simp only[X5]at w;rw[Xe]at N w;cases q:fr[i - own.length]? with
   |none=>rw[q]at w;cases w
   |some j=>
    rw[q]at N w;have⟨y,E,U,s,A⟩:=ok.frees j (Xb q);have a:x=y:=by
     have:X.N.getD j VR=y:=by rw[Y6,E];rfl
     simp only[BA,this,Bw]at N;erw[N.symm]
    subst a;have ev:σ[j]?=wc (wc v):=by
     simp only[BA,Bw]at w;rw[Y6]at w;cases z:σ[j]? with
     |none=>rw[z]at w;cases w
     |some o=>rw[z]at w;cases w;rfl
    have⟨m0,hn0,B⟩:=f.loc;have⟨u,ru,lk⟩:=B j x v E ev (.inr A);erw[⟨u,ru,.inr ⟨HD (scope:=scope) s,?_⟩⟩];rcases lk with⟨k1,_⟩|⟨_,c,Z,z⟩
    .have D:X.env.scope.names.lookup x=wc .local:=k1;rw[D]at A;rcases A with z|z<;>cases z
    .erw[⟨c,WV _ _ _ _ _ U Z,z.keeps O⟩]
 .have⟨v,z⟩:=f.cell x c (l x c e);erw[⟨v,z.keeps O⟩]
 .show H3 C=we;erw[f.hok.fresh (Vf R.symm)]
 .have⟨e,n,ne,nf,d⟩:=f.pin p H;erw[⟨O _ _ e,n,XG (by rw[R];erw[Xu e]),λz=>?_,d⟩]
  rcases Xk.mp (f.stkSub p.1 z)with z|z
  .erw[ne z]
  .erw[nf z]
 .show(own.map (λ_=>(we:Option V))++fr.map (λi=>σ.getD i we)).length=(own++fr.map (λi=>X.N.getD i VR)).length;simp
end
section
variable{X:Cx}
end
def HF(j:List Int):(Xq j.length).map (λi=>j.getD i 0)=j:=by
 apply B8
 .simp
 .intro i u l;simp[l]
section
variable{X:Cx}
def _eo(j:z.length<=16)(y:-1000<=i)(m:i<=1000):MulOk z i:=by
 erw[⟨?_,λl _=>?_,λl _=>?_⟩]
 .rw[decide_eq_false (by lia),decide_eq_false (by lia)];rfl
 .have g:1<=i:=by lia
  have:(16:Int)<=(2^63 - 1)/i:=by
   rw[Int.le_ediv_iff_mul_le (by lia)]
   lia
  lia
 .have:z.length*i.toNat<=16*1000:=Nat.mul_le_mul j (by lia)
  have u:z.length*i.toNat<2^20:=by lia
  generalize z.length*i.toNat=n at u;revert n;intro n d;have w:sizeLine=16777216:=by decide
  show decide (n>sizeLine)=wg;rw[w];erw[decide_eq_false (by lia)]
def _mv:OpR X (Yk .Mult) (λx y H Q=>∃z i,x=.str z/\y=.int i/\z.length<=16/\ -1000<=i/\i<=1000/\Q (.str (Txt.mul z i)) H):=by
 intro c s f H x y v u Q I j l h;have⟨z,i,rfl,rfl,w,m,g,q⟩:=h;have⟨t,rfl⟩:=j;have⟨d,rfl⟩:=l;erw[SB.mul (_eo w m g) (λd k=>⟨.str (Txt.mul z i),H,I.tok _,⟨_,rfl⟩,q⟩)]
theorem HG(x:Array Nat):∀(k:Nat)(j:Array Nat),((Xj k x).foldl (·++·) j).size=j.size+k*x.size
 |0,j=>by simp
 |k+1,j=>by
  rw[Zk,Vc,HG x k,Array.size_append,Nat.succ_mul];lia
def _mL(z:Str)(i:Int):(Txt.mul z i).length=i.toNat*z.length:=by
 unfold Txt.mul;by_cases h:i<1
 .rw[if_pos h];have:i.toNat=0:=by lia
  rw[this,Nat.zero_mul]
  rfl
 rw[if_neg h];by_cases h2:(i==1||z.length==0)=wf
 .rw[if_pos h2];rcases(Dp _ _).mp h2 with e|e
  .have:i=1:=by simpa using e
   subst this;simp
  .have:z.length=0:=by simpa using e
   rw[this,Nat.mul_zero]
 .rw[if_neg h2];have e:=HG z.cps i.toNat #[];show((Xj i.toNat z.cps).foldl (·++·) #[]).size=_;rw[e];show 0+_=_;rw[Nat.zero_add]
  rfl
def BW{z:Str}{i:Int}(m:Nat)(h:i<=m)(j:z.length<=1):(Txt.mul z i).length<=m:=by
 rw[_mL];have:i.toNat*z.length<=i.toNat*1:=Nat.mul_le_mul_left _ j;lia
def _k7(d:X.A.units<cLine):OpR X (Y8 .Eq) (λx y H Q=>∃a b z,x=.ref a/\y=.ref b/\SqL X.K H a z/\SqL X.K H b []/\Q (.bl z.isEmpty) H):=by
 intro W s Y H x y v u Q I L N h;have⟨a,b,z,rfl,rfl,O,P,q⟩:=h;cases L;cases N;have⟨l,c,f,Z⟩:=I.list O;have⟨m,g,w,_⟩:=I.list P;have R:m=[]:=AV g.length.symm;subst R;cases z with
 |nil=>
  have T:l=[]:=AV c.length.symm;subst T;erw[SeqAt.eq_listAt (e:=λ_=>wf) f.isList w.isList rfl d (λj U _=>absurd U (WD j)) (XH I q rfl)]
 |cons x r=>
  have p:l.length=r.length+1:=by rw[<-c.length];rfl
  erw[SeqAt.eq_list_lengthsAt f.isList w.isList (by simp;intro e;rw[e]at p;simp at p) d (XH I q rfl)]
def _k5(d:X.A.units<cLine):OpR X (Y8 .NotEq) (λx y H Q=>∃a b z,x=.ref a/\y=.ref b/\SqL X.K H a z/\SqL X.K H b []/\Q (.bl (!z.isEmpty)) H):=by
 intro W s Y H x y v u Q I L N h;have⟨a,b,z,rfl,rfl,O,P,q⟩:=h;cases L;cases N;have⟨l,c,f,Z⟩:=I.list O;have⟨m,g,w,_⟩:=I.list P;have R:m=[]:=AV g.length.symm;subst R;cases z with
 |nil=>
  have T:l=[]:=AV c.length.symm;subst T;erw[SeqAt.RcNeAt.lists (e:=λ_=>wf) f.isList w.isList rfl d (λj U _=>absurd U (WD j)) X.prog X.w _ _ (XH I q rfl)]
 |cons x r=>
  have p:l.length=r.length+1:=by rw[<-c.length];rfl
  erw[SeqAt.RcNeAt.lists_lengths f.isList w.isList (by simp;intro e;rw[e]at p;simp at p) d X.prog X.w _ _ (XH I q rfl)]
end
open AutoSeq1 (wpAny_loadPart')
open MeetsSeq MeetsSeq2 MeetsSeq3 SeqRoads2
def AliP(P:Xr)(w:Xm)(A:Xw)(s:X1)(y x:X0):Prop:=∀(E:X0->X1->Prop)(Q:Bool->X1->Prop),Q wf s->X4 (X8 P w) A (eqBool y x) Q E s
def RcP(P:Xr)(w:Xm)(A:Xw)(s:X1)(y x:X0):Prop:=∀(E Q:X0->X1->Prop),Q (.bool wf) s->X4 (X8 P w) A (richCompare .Eq y x) Q E s
def RnP(P:Xr)(w:Xm)(A:Xw)(s:X1)(y x:X0):Prop:=∀(E Q:X0->X1->Prop),Q (.bool wg) s->X4 (X8 P w) A (richCompare .NotEq y x) Q E s
section
variable{P:Xr}{w:Xm}{A:Xw}{s:X1}{a b:Addr}{xs ys:Array X0}
def AliP.of_at(h:SeqAt.EqAt A s y x wf):AliP P w A s y x:=λE Q q=>h P w E Q q
def AliP.refs(h:RcP P w A s (.ref a) (.ref b)):AliP P w A s (.ref a) (.ref b):=by
 intro E Q q;by_cases e:a=b
 .subst e;erw[SeqAt.EqAt.same _ P w E Q q]
 .unfold eqBool;erw[YO (wpAny_ite_split (λz=>absurd (by injection (eq_of_beq z)) e) λ_=>?_)]
  erw[X2 (h E _ (ZO q))]
def _ok(T:s.heap.IsTuple a xs)(U:s.heap.IsTuple b ys)(W:xs.size=ys.size)(Y:A.units<cLine)(Z:∀p∈xs.toList.zip ys.toList,AliP P w A.in1 s p.1 p.2):RcP P w A s (.ref a) (.ref b):=by
 intro E Q q;have⟨⟨D,G,I,J⟩,j,g,M,d⟩:=id T;have⟨⟨S,X,H,v⟩,c,f,o,e⟩:=id U;dsimp only at g d f e;subst g d f e;erw[Vz (op:=.Eq) ⟨_,j,rfl⟩ ⟨_,c,rfl⟩ F.slot_tuple_eq (Zg F.slot_tuple_eq ⟨_,j,rfl⟩ F.entry_tuple_eq ?_ (F.args_tuple_eq_2 _ _)) Y];have⟨L,N,O,R,os⟩:=s;have i:=G3
 wp_walk using Yh j,Yh c,wpAny_forIn_list _ (λrest r l=>r.1=we/\l=⟨L,N,O,R,os⟩/\∀p∈rest,AliP P w A.in1 ⟨L,N,O,R,os⟩ p.1 p.2) _
 case turn=>
  rintro⟨y,x⟩ rest r l ⟨u,rfl,m⟩;erw[X2 (m (y,x) Y3 _ _ ?_)]
  wp_walk
  erw[⟨rfl,rfl,λp B=>m p (XJ _ B)⟩]
 case fin=>
  rintro⟨n,r2⟩ l ⟨u,rfl,-⟩;dsimp only at u;subst u
  wp_walk
  have C:BB .Eq xs.size ys.size=.bool wf:=by simp[BB,W]
  rw[C];erw[⟨_,rfl,(λz=>nomatch z),q⟩]
 case h=>erw[⟨rfl,rfl,Z⟩]
def _kx(g:xs.size=ys.size)
  (u:s.heap.get? a=wc {cls:=.type "list",dict:=d1,data:=.seq xs n1,slots:=l1})(y:s.heap.get? b=wc {cls:=.type "list",dict:=d2,data:=.seq ys n2,slots:=l2})
  (d:∀j (z:j<xs.size)(m:j<ys.size),AliP P w A.in1 s xs[j] ys[j])(q:R (.ok (.ret (.bool wf))) s):∀k i:Nat,xs.size - i=k->
  X4 (X8 P w) A.in1 (Builtin.«list.__eq__.loop» ⟨[.ref a,.ref b,Yc i,Yc 2],[]⟩) (λfin l=>match fin with|.done f=>R (.ok f) l|.again c'=>c'.quiet=wf/\YY (X8 P w) A c' R l) (λe l=>R (.error e) l) s:=by
 have⟨p,L,N,O,os⟩:=s;intro k
 induction k with
 |zero=>
  intro i c
  wp_walk using Yh u,Yh y
  rw[show xs[((i:Nat):Int).toNat]?=we by simp;lia,show ys[((i:Nat):Int).toNat]?=we by simp;lia]
  wp_walk using Yh u,Yh y
  show R (.ok (.ret (.bool (xs.size==ys.size)))) _
  simpa [g]using q
 |succ k r=>
  intro i c;have z:i<xs.size:=by lia
  have m:i<ys.size:=by lia
  wp_walk using Yh u,Yh y
  rw[show xs[((i:Nat):Int).toNat]?=wc xs[i] by simp[z],show ys[((i:Nat):Int).toNat]?=wc ys[i] by simp[m]]
  erw[X2 (d i z m _ _ ?_)]
  wp_walk
  rw[show((i:Int)+1)=((i+1:Nat):Int) by push_cast;rfl]
  erw[⟨ZR plain_eq_loop _,Zh entry_eq_loop ?_⟩];rw[ZH plain_eq_loop _];erw[r (i+1) (by lia)]
def _ol(r:s.heap.IsList a xs)(p:s.heap.IsList b ys)(m:xs.size=ys.size)(e:A.units<cLine)(L:∀j (O:j<xs.size)(T:j<ys.size),AliP P w A.in1 s xs[j] ys[j]):RcP P w A s (.ref a) (.ref b):=by
 intro E Q q;have⟨⟨U,W,l,Y⟩,u,g,Z,d⟩:=id r;have⟨⟨B,C,D,G⟩,y,c,I,f⟩:=id p;dsimp only at g d c f;subst g d c f;have l:s.TypeIs (.ref a) "list":=⟨_,u,rfl⟩;erw[Vz (op:=.Eq) l ⟨_,y,rfl⟩ Dz (wpAny_call (codeAny_call_builtin Dz.plain F.entry_list_eq (Dz.check _ _ _ _ _ _ _ _ l (F.args_list_eq_2 _ _) ?_))) e];have⟨J,M,S,X,os⟩:=s;have H:=G4;have o:¬(xs.size != ys.size)=wf:=by simp[m]
 wp_walk using Yh u,Yh y
 erw[⟨ZR plain_eq_loop _,Zh entry_eq_loop ?_⟩];rw[ZH plain_eq_loop _];erw[_kx (R:=wants (λv N=>v≠.notImplemented/\Q v N) E) m u y L (show UN wf≠.notImplemented/\Q (.bool wf) _ from⟨(λz=>nomatch z),q⟩) _ 0 rfl]
def _mF(T:s.heap.IsTuple a xs)(U:s.heap.IsTuple b ys)(W:xs.size=ys.size)(Y:A.units<cLine)(Z:∀p∈xs.toList.zip ys.toList,AliP P w A.in1 s p.1 p.2):RnP P w A s (.ref a) (.ref b):=by
 intro E Q q;have⟨⟨D,G,I,J⟩,j,g,M,d⟩:=id T;have⟨⟨S,X,H,v⟩,c,f,o,e⟩:=id U;dsimp only at g d f e;subst g d f e;erw[Vz (op:=.NotEq) ⟨_,j,rfl⟩ ⟨_,c,rfl⟩ F.slot_tuple_ne (Zg F.slot_tuple_ne ⟨_,j,rfl⟩ F.entry_tuple_ne ?_ (F.args_tuple_ne_2 _ _)) Y];have⟨L,N,O,R,os⟩:=s;have i:=G3
 wp_walk using Yh j,Yh c,wpAny_forIn_list _ (λrest r l=>r.1=we/\l=⟨L,N,O,R,os⟩/\∀p∈rest,AliP P w A.in1 ⟨L,N,O,R,os⟩ p.1 p.2) _
 case turn=>
  rintro⟨y,x⟩ rest r l ⟨u,rfl,m⟩;erw[X2 (m (y,x) Y3 _ _ ?_)]
  wp_walk
  erw[⟨rfl,rfl,λp B=>m p (XJ _ B)⟩]
 case fin=>
  rintro⟨n,r2⟩ l ⟨u,rfl,-⟩;dsimp only at u;subst u
  wp_walk
  have C:BB .NotEq xs.size ys.size=.bool wg:=by simp[BB,W]
  rw[C];erw[⟨_,rfl,(λz=>nomatch z),q⟩]
 case h=>erw[⟨rfl,rfl,Z⟩]
def _kc(g:xs.size=ys.size)
  (u:s.heap.get? a=wc {cls:=.type "list",dict:=d1,data:=.seq xs n1,slots:=l1})(y:s.heap.get? b=wc {cls:=.type "list",dict:=d2,data:=.seq ys n2,slots:=l2})
  (d:∀j (z:j<xs.size)(m:j<ys.size),AliP P w A.in1 s xs[j] ys[j])(q:R (.ok (.ret (.bool wg))) s):∀k i:Nat,xs.size - i=k->
  X4 (X8 P w) A.in1 (Builtin.«list.__eq__.loop» ⟨[.ref a,.ref b,Yc i,Yc 3],[]⟩) (λfin l=>match fin with|.done f=>R (.ok f) l|.again c'=>c'.quiet=wf/\YY (X8 P w) A c' R l) (λe l=>R (.error e) l) s:=by
 have⟨p,L,N,O,os⟩:=s;intro k
 induction k with
 |zero=>
  intro i c
  wp_walk using Yh u,Yh y
  rw[show xs[((i:Nat):Int).toNat]?=we by simp;lia,show ys[((i:Nat):Int).toNat]?=we by simp;lia]
  wp_walk using Yh u,Yh y
  show R (.ok (.ret (.bool (xs.size != ys.size)))) _
  simpa [g]using q
 |succ k r=>
  intro i c;have z:i<xs.size:=by lia
  have m:i<ys.size:=by lia
  wp_walk using Yh u,Yh y
  rw[show xs[((i:Nat):Int).toNat]?=wc xs[i] by simp[z],show ys[((i:Nat):Int).toNat]?=wc ys[i] by simp[m]]
  erw[X2 (d i z m _ _ ?_)]
  wp_walk
  rw[show((i:Int)+1)=((i+1:Nat):Int) by push_cast;rfl]
  erw[⟨ZR plain_eq_loop _,Zh entry_eq_loop ?_⟩];rw[ZH plain_eq_loop _];erw[r (i+1) (by lia)]
def _mG(r:s.heap.IsList a xs)(p:s.heap.IsList b ys)(m:xs.size=ys.size)(e:A.units<cLine)(L:∀j (O:j<xs.size)(T:j<ys.size),AliP P w A.in1 s xs[j] ys[j]):RnP P w A s (.ref a) (.ref b):=by
 intro E Q q;have⟨⟨U,W,l,Y⟩,u,g,Z,d⟩:=id r;have⟨⟨B,C,D,G⟩,y,c,I,f⟩:=id p;dsimp only at g d c f;subst g d c f;have l:s.TypeIs (.ref a) "list":=⟨_,u,rfl⟩;erw[Vz (op:=.NotEq) l ⟨_,y,rfl⟩ DA (wpAny_call (codeAny_call_builtin DA.plain F.entry_list_ne (DA.check _ _ _ _ _ _ _ _ l (F.args_list_ne_2 _ _) ?_))) e];have⟨J,M,S,X,os⟩:=s;have H:=G4;have o:¬(xs.size != ys.size)=wf:=by simp[m]
 wp_walk using Yh u,Yh y
 erw[⟨ZR plain_eq_loop _,Zh entry_eq_loop ?_⟩];rw[ZH plain_eq_loop _];erw[_kc (R:=wants (λv N=>v≠.notImplemented/\Q v N) E) m u y L (show UN wg≠.notImplemented/\Q (.bool wg) _ from⟨(λz=>nomatch z),q⟩) _ 0 rfl]
def HH{K:Type} [DecidableEq K] {u:KeyKind P w K}{nm:String}{d L:List (K×X0)}{E:X0->X1->Prop}{Q:Bool->X1->Prop}(I:(a==YN)=wg)(J:(b==YN)=wg)
  (M:s.heap.DictOf u a d)(S:s.heap.DictOf u b L)(B:d.length=L.length)(X:∀p∈d,∃y,Z4 L p.1=wc y/\AliP P w A s p.2 y)(q:Q wf s):
  X4 (X8 P w) A (G8 nm a b) Q E s:=by
 have⟨oa,c,pa,O,_,R,H,C,_⟩:=M;have⟨ob,f,pb,T,_,U,D,W,_⟩:=S;have za:d.length=c.size:=C.length.symm.trans Yt;have o:L.length=f.size:=W.length.symm.trans Yt;have n:∀k,findBy u.is f k=Z4 L k:=by
  intro k;rw[<-W.find k];clear o W D U T;have⟨l⟩:=f;simp[findBy]
 have x:c.size=f.size:=by lia
 unfold G8 Builtin.Dict.showsAll;rw[I,J];erw[X2 (Xd (X2 (Xd (X2 (AS O R ?_)))))];dsimp only;erw[X2 (AS T U ?_)];rw[if_neg (by simp[x])]
 erw[X2 (wpAny_dictEpoch O R (X2 ?_))];rw[Std.Legacy.Range.forIn_eq_forIn_range'];simp only[Std.Legacy.Range.size,Bo,Nat.add_sub_cancel,Nat.div_one];erw[wpAny_forIn_list _ (λrest r Y=>Y=s/\r=(we,())/\∀i∈rest,i<c.size) _ ?_ ?_ _ _ ⟨rfl,rfl,λi h=>by simpa using h⟩]
 .rintro i rest r Y ⟨rfl,rfl,m⟩;have lt:i<c.size:=m i Y3;have lt':i<d.length:=by lia
  erw[X2 (AS O R ?_)];rw[Vg lt];have⟨N,val⟩:=C.get? (i:=i) (e:=c[i]) (k:=d[i].1) (v:=d[i].2) (by rw[Dt];erw[Vg lt]) (X6 lt')
  have⟨k',i',hh⟩:=H c[i] (Array.getElem_mem lt);obtain rfl:k'=d[i].1:=u.inj _ _ _ i' N;have⟨y,fy,F⟩:=X d[i] (XS lt');show X4 _ _ (Zc [c[i].key,c[i].val] _ >>= _) _ _ _;rw[hh];erw[X2 (YO (X2 (wpAny_dictFind_of N T U D ?_)))];have g:=fy;rw[<-n,findBy_of_findIdx?]at g;cases Z:f.findIdx? λe=>u.is d[i].1 e.key with
  |none=>rw[Z]at g;cases g
  |some j=>
   rw[Z]at g;have⟨G,_,_⟩:=Array.findIdx?_eq_some_iff_getElem.mp Z;erw[X2 (AS T U ?_)];rw[Vg G];have ey:f[j].val=y:=by simpa [Vg G]using g
   rw[<-ey,<-val]at F;erw[YO (F _ _ ?_)];show X4 _ _ (if(!wf)=wf then _ else _) _ _ _;rw[if_neg (show¬(!wf)=wf from XB)];erw[X2 (wpAny_dictEpoch O R ?_)];rw[if_neg (by simp)]
   erw[Xd ⟨rfl,rfl,λz B=>m z (XJ _ B)⟩]
 .rintro r Y ⟨rfl,rfl,-⟩;erw[Xd q]
def _om{K:Type} [DecidableEq K] {j:KeyKind P w K}{u m:List (K×X0)}(d:(a==YN)=wg)(c:(b==YN)=wg)
  (l:s.heap.DictOf j a u)(g:s.heap.DictOf j b m)(f:A.units<cLine)(r:u.length=m.length)(e:∀p∈u,∃y,Z4 m p.1=wc y/\AliP P w A.in1 s p.2 y):RcP P w A s (.ref a) (.ref b):=by
 intro E Q q;erw[Vz (op:=.Eq) l.typeIs g.typeIs Gm (Zg Gm l.typeIs PySem.F.entry_dict_eq ?_ (PySem.F.args_dict_eq_2 _ _)) f];show X4 _ _ (BF "__eq__" ⟨[.ref a,.ref b],[]⟩>>= _) _ _ s;erw[X2 ?_];unfold BF;erw[X2 (wpAny_notOrdered_dict l.typeIs (Xd (X2 (VA (T:="dict") g.typeIs Gj ?_))))];rw[if_neg (by decide)]
 erw[X2 (Xd (X2 (Xd (X2 (HH d c l g r e ?_)))))];erw[Xd ⟨_,rfl,(λz=>nomatch z),q⟩]
def _mH{K:Type} [DecidableEq K] {j:KeyKind P w K}{u m:List (K×X0)}(d:(a==YN)=wg)(c:(b==YN)=wg)
  (l:s.heap.DictOf j a u)(g:s.heap.DictOf j b m)(f:A.units<cLine)(r:u.length=m.length)(e:∀p∈u,∃y,Z4 m p.1=wc y/\AliP P w A.in1 s p.2 y):RnP P w A s (.ref a) (.ref b):=by
 intro E Q q;erw[Vz (op:=.NotEq) l.typeIs g.typeIs Gn (Zg Gn l.typeIs PySem.F.entry_dict_ne ?_ (PySem.F.args_dict_ne_2 _ _)) f];show X4 _ _ (BF "__ne__" ⟨[.ref a,.ref b],[]⟩>>= _) _ _ s;erw[X2 ?_];unfold BF;erw[X2 (wpAny_notOrdered_dict l.typeIs (Xd (X2 (VA (T:="dict") g.typeIs Gj ?_))))];rw[if_neg (by decide)]
 erw[X2 (Xd (X2 (Xd (X2 (HH d c l g r e ?_)))))];erw[Xd ⟨_,rfl,(λz=>nomatch z),q⟩]
end
section
variable{X:Cx}
end
end L2
namespace L2
open PySem PySem.Spec PyProof.Rows
def _8T:fillsNumberSlot (.type "tuple") "mul"=pure wg:=
 PySem.fillsNumberSlot_seq (id:="tuple.__mul__") (r:=wc (.builtin "tuple.__rmul__")) BJ.lookup (by decide+kernel) Gg.lookup (by decide+kernel)
def _d5:seqRepeat? (.type "tuple")=pure (wc (.builtin "tuple.__mul__")):=by
 unfold seqRepeat?;rw[PySem.seqSlot_of (T:="tuple") (name:="__mul__") (id:="tuple.__mul__") BJ.lookup (by decide+kernel),PySem.seqSlot_of (T:="tuple") (name:="__rmul__") (id:="tuple.__rmul__") Gg.lookup (by decide+kernel)]
 rfl
def _dB(a:Int)(t:Tok)(l:Addr)(items:Array X0)(n:Nat)(u:Option Addr)(y:Array (Option X0)):
  Meets (Builtin.«int.__rmul__» ⟨[.int a t,.ref l],[]⟩) (fun _ R s=>s.heap.get? l=wc {cls:=.type "tuple",dict:=u,data:=.seq items n,slots:=y}/\R (.ok (.ret Value.notImplemented)) s):=
 .of_wp λj w A R s h=>by have⟨z,g,d,m,os⟩:=s;have⟨c,h⟩:=h;wp_walk;erw[⟨_,rfl,h⟩]
def _jv(l:Addr)(items:Array X0)(n:Nat)(y:Option Addr)(z:Array (Option X0))(u:Tok):
  Meets (Builtin.«tuple.__mul__» ⟨[.ref l,.int 1 u],[]⟩) (fun _ R s=>s.heap.get? l=wc {cls:=.type "tuple",dict:=y,data:=.seq items n,slots:=z}/\R (.ok (.ret (XC l))) s):=
 .of_wp λj w A R s h=>by
  have⟨f,g,d,q,os⟩:=s;have⟨m,h⟩:=h;have r:=G5;have c:(items.isEmpty||(1:Int)==1)=wf:=by simp
  wp_walk using BD m;erw[⟨_,rfl,h⟩]
def _ju(l:Addr)(items:Array X0)(n:Nat)(r:Option Addr)(p:Array (Option X0))(k:Int)(u:Tok)(P:2<=k)(f:items.size≠0)(T:items.size*k.toNat<=1000000):
  Meets (Builtin.«tuple.__mul__» ⟨[.ref l,.int k u],[]⟩) (fun _ R s=>s.heap.get? l=wc {cls:=.type "tuple",dict:=r,data:=.seq items n,slots:=p}/\
   R (.ok (.ret (XC s.heap.objs.size))) {s with heap:=s.heap.push {cls:=ZG "tuple",data:=Data.seq (VG (fun j y=>j++y) #[] (Xj k.toNat items))},toks:=s.toks}):=
 .of_wp λq w A R s h=>by
  have⟨U,g,d,W,os⟩:=s;have⟨m,h⟩:=h;have Y:=G5;have Z:k<=1000000:=by
   have:1*k.toNat<=items.size*k.toNat:=Nat.mul_le_mul_right _ (by lia)
   lia
  have B:(items.size:Int)*k<=1000000:=by
   have e:(items.size:Int)*k=((items.size*k.toNat:Nat):Int):=by rw[By,ZV (by lia)]
   rw[e];lia
  have L:¬(decide (k< -(2^63))||decide (k >= 2^63))=wf:=by simp;lia
  have C:¬(items.isEmpty||k==1)=wf:=by
   simp;erw[⟨λz=>f (by rw[z];rfl),by lia⟩]
  have D:¬(decide (k<=0)||items.isEmpty)=wf:=by
   simp;erw[⟨by lia,λz=>f (by rw[z];rfl)⟩]
  have N:¬((items.size:Int)*k>(2^63 - 1)/8):=by lia
  have E:¬(G1 ((items.size:Int)*k)=wf):=by
   unfold G1;have c:sizeLine=16777216:=by decide
   rw[c];simp;lia
  have O:(VG (λj y=>j++y) #[] (Xj k.toNat items)).size<=sizeLine:=by
   have c:sizeLine=16777216:=by decide
   rw[PySem.AutoListH.size_joined,c,Nat.mul_comm];simp;lia
  wp_walk using BD m
  erw[wpAny_ite_false (decide_eq_false L) ?_]
  wp_walk using BD m
  erw[wpAny_ite_false (decide_eq_false N) ?_]
  wp_walk using BD m
  erw[⟨_,rfl,h⟩]
section
variable{X:Cx}
def _mu:OpR X (Yk .Mult) (λx y H Q=>∃a k l,x=.ref a/\y=.int k/\SqT X.K H a l/\l≠ []/\1<=k/\l.length*k.toNat<=1000000/\(k=1->Q (.ref a) H)/\
  (k≠1->∀p,H p=we->Q (.ref p) (upd H p (.tup (Xj k.toNat l).flatten)))):=by
 intro F s G H x y v u Q I L N h;have⟨a,k,l,rfl,rfl,O,P,J,R,W,Y⟩:=h;obtain rfl:v=XC a:=L;have⟨m,rfl⟩:=N;have⟨j,r,Z,_⟩:=I.tuple O;have⟨⟨A,g,c,d⟩,w,f,n,hd⟩:=id Z;simp only at f hd;subst f hd;have e:j.toArray.size=l.length:=by rw[XM,<-r.length]
 erw[wpAny_binaryOp_repeat_ref (T:="tuple") (U:="int") (by decide) ⟨_,w,rfl⟩ (fun B=>typeIs_int B k m) _8T PySem.F.fills_int_mul Gk _d5 PySem.F.slot_int_index.lookup
  (Ua Gk (typeIs_int s k m) PySem.F.entry_int_rmul (PySem.F.args_int_rmul_2 _ _) (_dB k m a j.toArray n g d) ⟨w,rfl,⟨_,w,rfl⟩,?_⟩)]
 by_cases e1:k=1
 .subst e1;erw[Ua BJ ⟨_,w,rfl⟩ Gh (Gd _ _) (_jv a j.toArray n g d m) ⟨w,.ref a,H,I,rfl,W rfl⟩]
 .erw[Ua BJ ⟨_,w,rfl⟩ Gh (Gd _ _) (_ju a j.toArray n g d k m (by lia) (by rw[e];erw[λz=>P (Wu.mp z)]) (by rw[e];erw[R])) ⟨w,?_⟩]
  have f0:VG (λC D=>C++D) #[] (Xj k.toNat j.toArray)=(Xj k.toNat j).flatten.toArray:=by
   have:=DJ j k.toNat [];rw[Yr]at this;erw[this]
  rw[f0];erw[⟨.ref s.heap.objs.size,_,I.laid (t':=s.toks) (o:=.tup (Xj k.toNat l).flatten) (λb M q=>Xt _ q) (Xa _) ?_,rfl,Y e1 _ (I.hok.fresh (Xa _))⟩];erw[⟨?_,_,r.rep k.toNat,IsTup.new _ _,_,XT _ rfl,rfl⟩];have E:sizeLine=16777216:=by decide
  rw[Ht,E,Nat.mul_comm];lia
end
section
variable{X:Cx}{pq:List (Addr×Obj)}{σ:St}{H:Hp}{s:X1}
def WW(e:H a=wc u)(j:Mut (wc u))(q:H b=wc v)(l:¬Mut (wc v)):b≠a:=by
 intro z;subst z;rw[e]at q;cases q;erw[l j]
def Inv.freeze(I:Inv X pq σ H s){a:Addr}{u:HO}{o:Obj}(e:H a=wc u)(j:Mut (wc u))(l:s.heap.get? a=wc o):Inv X pq σ (upd H a (.frz o u)) s:=by
 have nn:∀b,H b=we->b≠a:=λb n z=>by subst z;rw[e]at n;cases n
 erw[I.step (h':=s.heap) (M:=s.gens) (a:=s.toks) (d':=s.drawn) (N:=[]) (λ_ z=>nomatch z) (λb o _ _ _ q _=>q) (λb o _ _ _ q _=>⟨o.slots,q⟩) (λb o _ _ n=>by rw[XE (nn b n)];erw[n]) (λb o _ q=>⟨o,q⟩)
  (λb w q=>by rw[XE (WW e j q λz=>z)];erw[q]) (λb o u q=>by rw[XE (WW e j q λz=>z)];erw[q]) (λb g q=>⟨#[],by rw[XE (WW e j q λz=>z),q];simp⟩) (λm h=>h) (λb v q=>?_) I.bare]
 have st:∀{c:Addr} {y:HO},ObjOk X.prog X.w H s.heap c y->ObjOk X.prog X.w (upd H a (.frz o u)) s.heap c y:=λx=>
  x.stay (λc v _ q=>q) (λc q=>by rw[XE (WW e j q λz=>z)];erw[q]) λc w q=>by rw[XE (WW e j q λz=>z)];erw[q]
 by_cases hb:b=a
 .subst hb;rw[_I]at q;cases q;erw[⟨l,st (I.hok b u e)⟩]
 .rw[XE hb]at q;erw[st (I.hok b v q)]
def Thw(X:Cx)(H j:Hp):Prop:=j=H\/∃a o u,H a=wc (.frz o u)/\Mut (wc u)/\(∀l w,X.H₀ a≠wc (.frz l w))/\j=upd H a u
def Inv.thaw(I:Inv X pq σ H s)(t:Thw X H H'):Inv X pq σ H' s:=by
 rcases t with rfl|⟨a,o,u,e,T,f,rfl⟩
 .erw[I]
 have j:∀{b:Addr} {y:HO},H b=wc y->y≠.frz o u->b≠a:=fun{b y} q n z=>by subst z;rw[e]at q;cases q;erw[n rfl]
 have nn:∀b,H b=we->b≠a:=λb n z=>by subst z;rw[e]at n;cases n
 have st:∀{c:Addr} {y:HO},ObjOk X.prog X.w H s.heap c y->ObjOk X.prog X.w (upd H a u) s.heap c y:=λx=>
  x.stay (λc v _ q=>q) (λc q=>by rw[XE (j q (λz=>by cases z))];erw[q]) λc l q=>by rw[XE (j q (λz=>by cases z))];erw[q]
 erw[⟨I.ok,I.os,I.bare,⟨I.base.keep,I.base.slot,λb r q n L=>?_,I.base.there,λb l q=>?_,λb w g q=>?_,λb N q=>?_⟩,I.loc,I.cell,?_,λx c q=>?_,λp O=>?_,λb v q=>?_,I.len⟩]
 .have:=I.base.free b r q n L;rw[XE (nn b this)];erw[this]
 .have:=I.base.tups b l q;rw[XE (j this (λz=>by cases z))];erw[this]
 .rw[XE (λz=>by subst z;erw[f w g q])]
  erw[I.base.frzs b w g q]
 .have⟨m,h⟩:=I.base.tbls b N q;erw[⟨m,by rw[XE (j h (λz=>by cases z))];erw[h]⟩]
 .rw[XE (nn _ I.free)];erw[I.free]
 .rw[XE (nn _ (I.freeC x c q))];erw[I.freeC x c q]
 .have⟨P,d,R⟩:=I.pin p O;erw[⟨P,by rw[XE (nn _ d)];erw[d],R⟩]
 .by_cases hb:b=a
  .subst hb;rw[_I]at q;cases q;erw[st (I.hok b _ e).2]
  .rw[XE hb]at q;erw[st (I.hok b v q)]
def Inv.nofrz(I:Inv X pq σ H s)(e:H a=wc u)(w:Mut (wc u)):∀j l,X.H₀ a≠wc (.frz j l):=λj l z=>by
 have:=I.base.frzs a j l z;rw[e]at this;cases this;erw[w]
def thwD(X:Cx)(D:Ends):Ends where
 nx:=λσ H=>∃j,Thw X H j/\D.nx σ j
 rt:=λv H=>∃j,Thw X H j/\D.rt v j
 bk:=λσ H=>∃j,Thw X H j/\D.bk σ j
 ct:=λσ H=>∃j,Thw X H j/\D.ct σ j
theorem PS.thaw{st:Stmt}{t:TS}(h:PS X st t):PS X st (λD σ H=>t (thwD X D) σ H):=by
 intro pq s σ H D I q;erw[thn (h pq s σ H _ I q) λf g z=>?_];cases f with
 |next=>have⟨j,m,l,w,y,d⟩:=z;erw[⟨j,w,l.thaw y,d⟩]
 |brk=>have⟨j,m,l,w,y,d⟩:=z;erw[⟨j,w,l.thaw y,d⟩]
 |cont=>have⟨j,m,l,w,y,d⟩:=z;erw[⟨j,w,l.thaw y,d⟩]
 |ret u=>have⟨v,j,m,l,r,w,y,d⟩:=z;erw[⟨v,j,w,l.thaw y,r,d⟩]
theorem PE.thaw{e:Expr}{t:TE}(h:PE X e t):PE X e (λσ H Q=>t σ H λv l=>∃j,Thw X l j/\Q v j):=by
 intro pq s σ H Q I q;erw[thn (h pq s σ H _ I q) λu z ⟨v,l,w,r,j,y,d⟩=>⟨v,j,w.thaw y,r,d⟩]
def Itd(a:Addr)(o:Obj):It where
 go:=λi H=>∃j,H a=wc (.frz o (.dK j))/\i<j.length
 yld:=λi H x l=>l=H/\∀j,H a=wc (.frz o (.dK j))->∃k v,j[i]?=wc (k,v)/\x=kV k
 stop:=λi H=>∃j,H a=wc (.frz o (.dK j))/\j.length<=i
def HI(ok:HOk P w H h)(e:H a=wc (.frz o (.dK kvs)))(hd:o.data=.dict es ep):
  ∃j,KV kvs j/\h.DictAt (YA P w) a j ep/\j.length=es.size:=by
 have⟨y,z,_,j,u,q,d,c,l,f,m,g⟩:=ok a _ e;rw[y]at l;cases l;rw[hd]at m;injection m with e1 e2;subst e1 e2;erw[⟨j,u,⟨o,es,y,f,hd,g⟩,by rw[<-g.2.1.length];simp⟩]
def _pv(r:KV kvs vs):kvs.length=vs.length:=by
 induction r with
 |nil=>rfl
 |cons _ _ j=>rw[Yi,Yi,j]
def _pw(r:KV kvs vs):∀{i:Nat} {k:Key} {v:V},kvs[i]?=wc (k,v)->∃u,vs[i]?=wc (k,u)/\RelV v u:=by
 induction r with
 |nil=>intro i k v h;cases h
 | @cons p j _ _ q _ l=>
  intro i k v h;cases i with
  |zero=>
   cases h;have⟨w,y⟩:=j;have z:k=w:=q.1;subst z;erw[⟨y,rfl,q.2⟩]
  |succ i=>erw[l (i:=i) h]
def _mW{k:Key}(h:(YA P w).is k u=wf):RelV (kV k) u:=by
 rcases _X h with⟨i,t,rfl,rfl⟩|⟨x,t,rfl,rfl⟩
 .erw[⟨t,rfl⟩]
 .erw[⟨t,rfl⟩]
def _56(j:s.heap.IsKeyIter it d i n ep)(h:Q (.ref it) s):
  X4 (X8 P w) A (pyIter (.ref it)) Q E s:=by
 erw[wpAny_pyIter_slot j.typeIs Gb (Zg Gb j.typeIs PySem.F.entry_dict_keyiterator_iter ?_ (PySem.F.args_dict_keyiterator_iter_1 _))];show X4 _ _ (ret (.ref it)) _ _ s;erw[Xd ⟨_,rfl,"dict_keyiterator",_,j.typeIs,PySem.F.slot_dict_keyiterator_next.lookup,h⟩]
def _gM{K:X3}(a j:Addr)(o:Obj)(F:Array DictEntry)(G:Nat)(hd:o.data=.dict F G):Turn P w K tg (Itd a o) [j] j (λi h=>h.IsKeyIter j a i F.size G)where
 mem:=by simp
 obj:=λi h st b l=>by
  have e:b=j:=by simpa using l
  subst e;have⟨o,e,c,d⟩:=st;erw[⟨o,e,λv z=>by rw[d]at z;cases z⟩]
 keep:=λi h q st k=>by
  have⟨o,e,c,d⟩:=st;erw[⟨o,k j (by simp) o e,c,d⟩]
 item:=by
  intro X R T U J i pq s σ H E I r st W;subst R T U;have⟨g,L,N⟩:=W;have⟨n,y,Y,O⟩:=HI I.hok L hd;obtain⟨⟨k,v⟩,M⟩:∃p,g[i]?=wc p:=⟨_,X6 N⟩;have⟨u,x,ru⟩:=_pw y M;have⟨f0,Z,f2,A,B,C⟩:=r j (by simp)
  rw[<-O]at st;erw[wpAny_pyNext_dict_item st Y x λD q f m sb=>?_];have I1:Inv X pq σ H {s with heap:=q}:=I.turned (g:=s.toks) (λb o l e=>(sb.2 b l).trans e) f0 Z A B C;rw[O]at m;have⟨o',e,c,d⟩:=id m;erw[⟨D,rfl,VT (s:={s with heap:=q}) e c d (by decide) ⟨kV k,H,I1,_mW f,⟨rfl,λQ S=>by rw[L]at S;cases S;erw[⟨k,v,M,rfl⟩]⟩,m,λb l=>(r b l).1⟩⟩]
 done:=by
  intro X R T U J i pq s σ H E I r st W;subst R T U;have⟨g,L,N⟩:=W;have⟨n,y,Y,O⟩:=HI I.hok L hd;have⟨f0,Z,f2,A,B,C⟩:=r j (by simp)
  rw[_pv y]at N;rw[<-O]at st;erw[wpAny_pyNext_dict_end (I.ok.hd J) st Y (CZ.mpr N) λq eb=>⟨rfl,I.turned (g:=s.toks) (λb o l e=>eb b o l e) f0 Z A B C⟩]
 self:=λ_ _ _ _ _ st h=>_56 st h
def _jV(I:Inv X pq σ H s)(e:H a=wc (.dK kvs))(q:∀o,(∀d c,X.H₀ a≠wc (.frz d c))->R (Itd a o) (upd H a (.frz o (.dK kvs)))):
  X4 (X8 X.prog X.w) X.A (pyIter (.ref a)) (PIE X pq σ tg R) E s:=by
 have⟨z,f,u,r,o,j,w,y,p,m,g⟩:=I.hok a _ e;have l:=I.freeze e trivial y;have L:=I.nofrz e trivial;erw[wpAny_pyIter_dict f (⟨o,j,y,p,m,g⟩:s.heap.DictAt (YA X.prog X.w) a u w) ?_];erw[⟨s.heap.objs.size,[s.heap.objs.size],_,_,upd H a (.frz o (.dK kvs)),rfl,l.kept (t':=s.toks) λb o e=>Xt _ e,_gM a _ o j w m,?_,λb N=>?_,q o L⟩]
 .have O:j.size=u.length:=by rw[<-g.2.1.length];simp
  rw[O];erw[⟨_,XT _ rfl,rfl,rfl⟩]
 .have e:b=s.heap.objs.size:=by simpa using N
  subst e;erw[l.fpOk (Xa _) (l.hok.fresh (Xa _))]
end
section
variable{prog:Xr}{w:Xm}{A:Xw}{E:X0->X1->Prop}{s:X1}{a₀:Array Keyed}
end
section
variable{X:Cx}
end
structure Mrk (t t':Yx):Prop where
 led:t'.led=t.led
 plain:t.plain=wg->t'.plain=wg
def Mrk.refl(t:Yx):Mrk t t:=⟨rfl,id⟩
theorem Mrk.trans(x:Mrk a b)(y:Mrk b c):Mrk a c:=⟨y.led.trans x.led,λh=>y.plain (x.plain h)⟩
theorem Mrk.standIn(t:Yx)(n:Nat):Mrk t (t.standIn n):=⟨rfl,λ_=>rfl⟩
theorem Mrk.orStandIn(t:Yx)(n:Nat):Mrk t (t.orStandIn n):=by
 unfold SetTable.orStandIn;split
 .erw[.refl t]
 .erw[.standIn t n]
def Mrk.lay(t:Yx)(j:Array (Int×X0))(k:Int)(x:X0):Mrk t (layNew t j k x).2.1:=by
 unfold layNew;split
 .erw[Mrk.trans (b:=(t.put _).1) ⟨rfl,id⟩ (.orStandIn _ _)]
 .erw[.standIn t _]
theorem Mrk.relaid{t:Yx}(h:t.relaid hs n=wc (t',od)):Mrk t t':=by
 unfold SetTable.relaid SetTable.laid at h;cases j:SetTable.layClean (SetTable.sizeAbove n - 1) hs with
 |none=>rw[j]at h;simp at h
 |some l=>
  rw[j]at h;simp only[Option.bind_eq_bind,Option.bind_some,Option.pure_def,Bw,Prod.mk.injEq]at h;have⟨rfl,_⟩:=h;erw[⟨rfl,id⟩]
set_option tactic.hygienic true in
def Mrk.relay(t:Yx)(j:Array (Int×X0))(n:Nat):Mrk t (relayAll t j n).2.1:=by
 unfold relayAll;split
 .rename_i l
  dsimp only;split
  .erw[.relaid l]
  .erw[.standIn t _]
 .erw[.standIn t _]
noncomputable def txt:X0->Str
 |.str x _=>x
 |_=>⟨#[]⟩
noncomputable def met1(j:List Str)(x:Str):List Str:=if x∈j then j else j++[x]
def met(f:Nat->Str):Nat->List Str
 |0=>[]
 |i+1=>met1 (met f i) (f i)
set_option tactic.hygienic true in
def _gb(h:zs.Nodup)(x:Str):(met1 zs x).Nodup:=by
 unfold met1;split
 .erw[h]
 .rename_i n
  rw[Yy];erw[⟨h,by simp,λa l b j=>by rw[Y1]at j;subst j;erw[λe=>n (e▸l)]⟩]
theorem HJ(f:Nat->Str):∀i,(met f i).Nodup
 |0=>.nil
 |i+1=>_gb (HJ f i) _
set_option tactic.hygienic true in
def _ke:y∈met1 zs x↔y∈zs\/y=x:=by
 unfold met1;split
 .rename_i h
  erw[⟨.inl,λz=>z.elim id λe=>e▸h⟩]
 .simp
theorem HK:∀i,y∈met f i↔∃j,j<i/\f j=y
 |0=>by simp[met]
 |i+1=>by
  unfold met;rw[_ke,HK i];constructor
  .rintro(⟨j,l,e⟩|e)
   .erw[⟨j,by lia,e⟩]
   .erw[⟨i,by lia,e.symm⟩]
  .rintro⟨j,l,e⟩;by_cases z:j=i
   .subst z;erw[.inr e.symm]
   .erw[.inl ⟨j,by lia,e⟩]
theorem HL(f:Nat->Str):∀i,(met f i).length<=i
 |0=>Xa _
 |i+1=>by
  have:=HL f i;unfold met met1;split
  .lia
  .rw[XR];simp;lia
section
variable{prog:Xr}{w:Xm}{A:Xw}{E:X0->X1->Prop}{s:X1}
def WSet(prog:Xr)(w:Xm)(o:Obj)(l:List Str):Prop:=
 o.ExactSet/\∃j u t,o.data=.set j u t/\ElemsOf (strKind prog w) j.toList/\(j.toList.map λe=>txt e.2).Perm l/\j.size<scanBound/\t.fits j.size=wf
  /\t.led=(!w.params.followText "set-order")/\(l≠ []->t.plain=wg)
theorem WSet.fresh:WSet prog w {cls:=.type "set",dict:=we,data:=.set #[] 0 (.fresh 0 0 (!w.params.followText "set-order"))} []:=
 ⟨⟨rfl,rfl,rfl⟩,#[],0,_,rfl,λe j=>by simp at j,by simp,by decide,by rfl,rfl,λh=>absurd rfl h⟩
def isT{k:Str}:(strKind prog w).is k v=wf↔∃t,v=.str k t:=by
 constructor
 .erw[λh=>Value.isStrOf_shape h]
 .rintro⟨t,rfl⟩;erw[strKind_is prog w k t]
def WSet.mem{es:Array (Int×X0)}{zs:List Str}(u:ElemsOf (strKind prog w) es.toList)(y:(es.toList.map λe=>txt e.2).Perm zs)(k:Str):
  k∈zs↔∃e∈es.toList,(strKind prog w).is k e.2=wf:=by
 rw[<-y.mem_iff,XA];constructor
 .rintro⟨e,j,q⟩;erw[⟨e,j,isT.mpr ?_⟩];have⟨⟨m,z,_⟩,_⟩:=u e j;have⟨t,l⟩:=isT.mp z;rw[l]at q ⊢;erw[⟨t,by rw[<-q];rfl⟩]
 .rintro⟨e,j,q⟩;have⟨t,l⟩:=isT.mp q;erw[⟨e,j,by rw[l];rfl⟩]
def HM{h:Heap}{a:Addr}{o:Obj}{y:Array (Int×X0)}{u:Nat}{t:Yx}(m:h.get? a=wc o)(hd:o.data=.set y u t)(j:Array (Int×X0))(l:Yx):
  (h.update a (Obj.putSet j l)).get? a=wc {o with data:=.set j (u+1) l}:=by
 have z:=WE (Obj.putSet j l) m (by rw[putSet_of j l hd];rfl)
 rwa [putSet_of j l hd]at z
def HN{g:Bool->Sem Unit}(B:∀(b:Bool)(y:X1)(O:Unit->X1->Prop),O () y->X4 (X8 prog w) A (g b) O E y)
  {a:Addr} {o:Obj} {C:Array (Int×X0)} {D:Nat} {t:Yx} (P:s.heap.get? a=wc o)(f:o.ExactSet)(hd:o.data=.set C D t)
  {j:Array (Int×X0)} {l:Yx} {T:List Str} (q:ElemsOf (strKind prog w) j.toList)(U:(j.toList.map λe=>txt e.2).Perm T)(W:j.size<scanBound)
  (F:l.fits j.size=wf)(z:l.led=(!w.params.followText "set-order"))(r:l.plain=wg){L:Bool} {R:Option Bool->X1->Prop}
  (h:∀N Y,Ue a s.heap N->N.get? a=wc Y->WSet prog w Y T->R (wc wf) {s with heap:=N}):
  X4 (X8 prog w) A (do
    storeSet a j l
    if(!L&&l.tooFull)=wf then do
      g (relayAll l j (Vj j.size)).2.2
      storeSet a (relayAll l j (Vj j.size)).1 (relayAll l j (Vj j.size)).2.1
      pure (wc wf)
     else pure (wc wf)) R E s:=by
 erw[X2 (wpAny_storeSet_of P hd ?_ (fits_of_scanBound W))];have m:=HM P hd j l;split
 .have u:=relayAll_perm l j (Vj j.size);have d:=relayAll_fits l j (Vj j.size);have p:=Mrk.relay l j (Vj j.size);generalize relayAll l j (Vj j.size)=Rl at u d p ⊢;have⟨c,Z,G⟩:=Rl;dsimp only at u d p ⊢;have I:c.size=j.size:=by rw[<-Yt,u.length_eq,Yt]
  erw[X2 (B _ _ _ ?_)];erw[X2 (wpAny_storeSet_of m rfl ?_ (fits_of_scanBound (by lia)))]
  erw[Xd (h _ _ ((Uh _ a _).trans (Uh _ a _)) (HM m rfl c Z)
   ⟨f,c,_,Z,rfl,q.perm u,(u.map _).trans U,by lia,d,p.led.trans z,λ_=>p.plain r⟩)]
 .erw[Xd (h _ _ (Uh _ a _) m ⟨f,j,_,l,rfl,q,U,W,F,z,λ_=>r⟩)]
set_option tactic.hygienic true in
def _jx{a:Addr}{o:Obj}{m:List Str}{x:Str}{g:Tok}{Q:Bool->X1->Prop}(T:s.heap.get? a=wc o)(H:WSet prog w o m)(G:m.length+1<scanBound)
  (h:∀b l u,Ue a s.heap l->l.get? a=wc u->WSet prog w u (met1 m x)->Q b {s with heap:=l}):
  X4 (X8 prog w) A (setAddHashed a (.str x g) ((strKind prog w).hash x)) Q E s:=by
 have⟨U,P,ep,t,hd,d,I,hb,v,f,hpl⟩:=id H;have r:(strKind prog w).is x (.str x g)=wf:=strKind_is prog w x g;have i:P.size=m.length:=by rw[<-I.length_eq,X5,Yt]
 unfold setAddHashed setAddHashedIn;erw[YO (X2 (Ws T hd v ?_))];dsimp only;rw[byScan_of (x:=.str x g) rfl hb d];simp only[↓reduceIte];unfold setAddByScan;erw[X2 (X2 (wpAny_rule (X2 (wpAny_setScan_of r T hd v d ?_))))];have p:=WSet.mem d I x;cases n:List.findIdx? (λe=>(strKind prog w).is x e.2) P.toList with
 |some j=>
  dsimp only;have⟨hj,J,_⟩:=List.findIdx?_eq_some_iff_getElem.mp n;have M:x∈m:=p.mpr ⟨_,XS hj,J⟩;erw[Xd (Xd ?_)];have:=h wg s.heap o (Heap.SameBut.refl a s.heap) T (by unfold met1;rw[if_pos M];erw[H])
  cases s;erw[this]
 |none=>
  dsimp only;have M:x∉m:=λz=>by
   have⟨e,he,q⟩:=p.mp z;have:=List.findIdx?_eq_none_iff.mp n e he;rw[q]at this;erw[Bool.noConfusion this]
  have hz:met1 m x=m++[x]:=by unfold met1;rw[if_neg M]
  have R:=layNew_perm t P ((strKind prog w).hash x) (.str x g);have c:=layNew_fits t P ((strKind prog w).hash x) (.str x g);have F:=Mrk.lay t P ((strKind prog w).hash x) (.str x g);generalize layNew t P ((strKind prog w).hash x) (.str x g)=L at R c F ⊢;have⟨O,t1,was,gave⟩:=L;dsimp only at R c F ⊢;rw[Array.toList_push]at R;have N:ElemsOf (strKind prog w) O.toList:=(d.push r rfl).perm R;have W:(O.toList.map λe=>txt e.2).Perm (met1 m x):=by
   rw[hz];erw[(R.map _).trans ?_];rw[XI];erw[I.append (.refl _)]
  have Y:O.size<scanBound:=by rw[<-Yt,R.length_eq,XR,Yt];simp;lia
  have S:∀(b:Bool)(y:X1)(X:Unit->X1->Prop),X () y->X4 (X8 prog w) A (match b with|wf=>rule "set.scan.the-table-gave-way"|wg=>pure ()) X E y:=
   λb y X hq=>by cases b<;>first|erw[Xd hq]|erw[wpAny_rule hq]
  erw[X2 (S _ _ _ ?_)];have Z:∀l u,Ue a s.heap l->l.get? a=wc u->WSet prog w u (met1 m x)->Q wf {s with heap:=l}:=λl u B C D=>h wf l u B C D;split
  .rw[hashByValue_scannable 8 (x:=.str x g) rfl];erw[X2 (Xd ?_)];erw[HN S T U hd N W Y (l:={t1 with plain:=wg}) (SetTable.fits_plain_off c) (F.led.trans f) rfl ?_];intro l u B C D;erw[Xd (Z l u B C D)]
  .rename_i np
   erw[X2 (Xd ?_)];simp only[↓reduceIte];erw[HN S T U hd N W Y c (F.led.trans f) (by simpa using np) ?_]
   intro l u B C D;erw[Xd (Z l u B C D)]
def _gO{St:Nat->X1->Prop}
  (W:WalksS prog w A.in1 I fp wr G n P St)(S:Addr)(m:S∉fp)(f:Nat->Str)(g:∀i v,P i v->∃t,v=.str (f i) t)(y:n+1<scanBound):
  ∀(k i:Nat)(s:X1)(o:Obj),n - i=k->i<=n->St i s->s.heap.get? S=wc o->WSet prog w o (met f i)->
   (∀j T,Moved (S::wr) G s j->j.heap.get? S=wc T->WSet prog w T (met f n)->R (.ok (.ret .none)) j)->
   YY (X8 prog w) A (.builtin "set.update.loop" ⟨[.ref S,.ref I],[]⟩) R s:=by
 have d:S∉wr:=λh=>m (W.sub _ h);have l:∀b∈wr,b∈S::wr:=λb y=>XJ _ y;intro k
 induction k with
 |zero=>
  intro i s o X H u U Y Z;have B:i=n:=by lia
  subst B;erw[Zh F.entry_set_update_loop ?_];rw[ZH F.plain_set_update_loop _];show X4 _ A.in1 (pyNext (.ref I)>>= _) _ _ s;erw[X2 (W.done s _ _ u λj c=>?_)];erw[Xd (Z j o (c.mono l) (c.heap S _ d U) Y)]
 |succ k x=>
  intro i s o X H u U Y Z;have q:i<n:=by lia
  erw[Zh F.entry_set_update_loop ?_];rw[ZH F.plain_set_update_loop _];show X4 _ A.in1 (pyNext (.ref I)>>= _) _ _ s;erw[X2 (W.item i s _ _ q u λv j a r c=>?_)];have⟨t,rfl⟩:=g i v a;have C:=c.heap S _ d U;show X4 _ A.in1 (Zc [Z8 (f i) t] (setAdd S (.str (f i) t))>>= _) _ _ j;erw[X2 (YO ?_)];unfold setAdd;erw[YO (X2 ((strKind prog w).pyHash (k:=f i) (strKind_is prog w _ _) ?_))];erw[_jx (s:={j with toks:=j.toks+1}) C Y (by have:=HL f i;lia) λb h' T p D J=>?_]
  erw[Xd ⟨ZR F.plain_set_update_loop _,x (i+1) _ T (by lia) q (W.frame _ j _ _ r (YT _) λb y o e=>?_) D J λM Q L N O=>?_⟩]
  .rw[p.2 b (λz:b=S=>m (by rw[<-z];erw[y]))];erw[e]
  .erw[Z M Q (Moved.trans W.gtrans ((c.mono l).then_heap (YT _) λb o y e=>?_) L) N O];rw[p.2 b (λz:b=S=>y (by rw[z];erw[Y3]))];erw[e]
noncomputable def U0(w:Xm):Obj:={cls:=.type "set",dict:=we,data:=.set #[] 0 (.fresh 0 0 (!w.params.followText "set-order"))}
def _jw(a:X0)(h:Q₁ (.ref s.heap.objs.size) {s with heap:=s.heap.push (U0 w)}):
  YY (X8 prog w) A (.call (.builtin "set.__new__") ⟨[.type "set",a],[]⟩) (wants Q₁ E) s:=by
 erw[codeAny_of_tree ?_];show X4 _ A.in1 (do checkBuiltinCall "set.__new__" ⟨[.type "set",a],[]⟩;again (.builtin "set.__new__" ⟨[.type "set",a],[]⟩)) _ _ s
 erw[X2 (wpAny_of_eq (F.newCall_set_1 a) (Xd ⟨ZR F.plain_set_new _,Zh F.entry_set_new ?_⟩))];rw[ZH F.plain_set_new _];unfold Builtin.«set.__new__» Builtin.Frozenset.newClass;have j:=sub_set_self;have⟨l,g,d,u,os⟩:=s;dsimp only
 wp_walk
 erw[Wt (Xd ?_)];dsimp only;simp only[newObj];erw[X2 (wpAny_alloc (Xd ?_))];erw[Xd h]
def _j2{items:Array X0}
  (hh:A.handled=we)(hl:s.heap.IsList l items)(hi:∀(i:Nat)(v:X0),items[i]?=wc v->∃t,v=Z8 (f i) t)(B:items.size+1<scanBound)
  (h:∀(u:Heap)(C:Nat)(o:Obj),u.get? s.heap.objs.size=wc o->WSet prog w o (met f items.size)->
   (∀b o,b<s.heap.objs.size->s.heap.get? b=wc o->u.get? b=wc o)->Q (.ref s.heap.objs.size) {s with heap:=u,toks:=C}):
  X4 (X8 prog w) A (call (.type "set") [.ref l]) Q E s:=by
 have⟨c,tl,n⟩:=UO.mro;have G:=UO.made;have x:=UO.sub;erw[wpAny_call (codeAny_of_tree ?_)];show X4 _ _ (callAny (.type "set") _) _ _ _;erw[Xd ⟨Code.quiet_builtin _ (by decide+kernel),Zh F.entry_type_call ?_⟩]
 rw[Around.under_plain (weight_type_call_type "set" [.ref l] []) rfl];have h1:=UO.notType;have h2:=UO.canCreate;have hct:=F.typeCall_set_1 (.ref l)
 repeat (any_goals (first|assumption|wp_step))
 erw[Vy (_jw (.ref l) (E:=E) (Q₁:=λL z=>L=.ref s.heap.objs.size/\z={s with heap:=s.heap.push (U0 w)}) ⟨rfl,rfl⟩) λr z I=>?_];cases r with
 |error e=>erw[I]
 |ok fl=>
  cases fl with
  |ret L=>
   have⟨rfl,rfl⟩:=I;have a:(s.heap.push (U0 w)).get? s.heap.objs.size=wc (U0 w):=XT _ rfl;have hT:BN {s with heap:=s.heap.push (U0 w)} (.ref s.heap.objs.size) "set":=⟨_,a,rfl⟩;have hli:=UO.init.lookup;have hbi:=UO.init.bind (.ref s.heap.objs.size)
   repeat (any_goals (first|assumption|wp_step))
   erw[Vy (codeAny_call_builtin (R:=wants (λr m=>r=.none/\∃u C o,m={s with heap:=u,toks:=C}/\
     u.get? s.heap.objs.size=wc o/\WSet prog w o (met f items.size)/\
     (∀b o,b<s.heap.objs.size->s.heap.get? b=wc o->u.get? b=wc o)) E) UO.init.plain F.entry_set_init (check_set_init_1 hT ?_)) λN m j=>?_]
   .have⟨ol,O,P,nl,T⟩:=hl;have⟨ocls,g,J,y⟩:=ol;simp only at P T;subst P;subst T;have U:(s.heap.push (U0 w)).get? l=wc {cls:=.type "list",dict:=g,data:=.seq items nl,slots:=y}:=Xt _ O;have hsls:=F.sub_list_set;have hslf:=F.sub_list_frozenset;have hne:(ZG "list"==ZG "dict")=wg:=by decide
    have W:(s.heap.push (U0 w)).IsList l items:=⟨_,U,rfl,nl,rfl⟩;unfold Builtin.«set.__init__» noKeywords Builtin.Frozenset.updateFrom;generalize hPI:pyIter=PI
    wp_walk
    subst hPI;erw[AT W ?_];erw[X2 (wpAny_runValue ?_)];have Y:l<s.heap.objs.size:=Xu O;have Z:l≠(s.heap.push (U0 w)).objs.size:=by
     rw[Ud];erw[XG (VH Y)]
    have M:s.heap.objs.size∉ [(s.heap.push (U0 w)).objs.size,l]:=by
     rw[Ud];simp only[Xk,XN,or_false,not_or];erw[⟨XG (ZC _),Bm Y⟩]
    erw[_gO ((Walks.list (A:=A.in1.in1.in1) (by simp[hh]) _ l Z items).toS) s.heap.objs.size
     M f hi B (items.size - 0) 0 _ (U0 w) (by lia) (Yg _)
     ⟨⟨_,XT _ rfl,rfl,rfl⟩,(W.push _)⟩ (Xt _ a) WSet.fresh ?_]
    intro s' o' D d q;have⟨u,g',d',S,X⟩:=s';have eg:g'=s.gens:=D.gens;have ed:d'=s.drawn:=D.drawn;have eo:X=s.os:=D.os;subst eg;subst ed;subst eo;erw[Xd (Xd ⟨rfl,u,S,o',rfl,d,q,λb o B e=>?_⟩)];erw[D.heap b o ?_ (Xt _ (Xt _ e))];simp only[Xk,XN,or_false,not_or];erw[⟨XG B,by rw[Ud];erw[XG (VH B)]⟩]
   .cases N with
    |error e=>erw[j]
    |ok p=>
     cases p with
     |ret r=>
      have⟨rfl,u,C,o',rfl,d,q,H⟩:=j
      repeat (any_goals (first|assumption|wp_step))
      erw[h _ _ _ d q H]
     |_=>erw[j.elim]
  |_=>erw[I.elim]
end
def slot_setiter_next:Slot "set_iterator" "__next__" "set_iterator.__next__":=
 .of (owner:="set_iterator") (n:="__next__") (by rw[typeLookup_type,builtinLookup_eq_fast];kernel_rfl) (by decide+kernel) (by decide+kernel) (by decide+kernel)
  (by first|erw[.inl (by decide+kernel)]|erw[.inr (by decide+kernel)]) (by rw[isSubtype_type];kernel_rfl)
def HP:Slot "set_iterator" "__iter__" "set_iterator.__iter__":=
 .of (owner:="set_iterator") (n:="__iter__") (by rw[typeLookup_type,builtinLookup_eq_fast];kernel_rfl) (by decide+kernel) (by decide+kernel) (by decide+kernel)
  (by first|erw[.inl (by decide+kernel)]|erw[.inr (by decide+kernel)]) (by rw[isSubtype_type];kernel_rfl)
def HQ:entryFor table "set_iterator.__next__"=wc Builtin.«set_iterator.__next__»:=entryFor_of_fast (by kernel_rfl)
def _7d:entryFor table "set_iterator.__iter__"=wc Builtin.«dict_keyiterator.__iter__»:=
 entryFor_alias (id':="dict_keyiterator.__iter__") (by kernel_rfl) rfl (by decide+kernel) (by kernel_rfl)
def _aZ:entryFor table "set.__iter__"=wc Builtin.«frozenset.__iter__»:=
 entryFor_alias (id':="frozenset.__iter__") (by kernel_rfl) rfl (by decide+kernel) (by kernel_rfl)
def HR(a:X0):argsOk "set_iterator.__next__" ⟨[a],[]⟩:=by unfold argsOk;kernel_rfl
def _7C(a:X0):argsOk "set_iterator.__iter__" ⟨[a],[]⟩:=by unfold argsOk;kernel_rfl
theorem ers{j:Type}:∀(l:List j)(i:Nat)(h:i<l.length),(l[i]::l.eraseIdx i).Perm l
 |[],_,h=>absurd h (by simp)
 |x::xs,0,_=>.refl _
 |x::xs,i+1,h=>(List.Perm.swap x _ _).trans ((ers xs i (by simpa using h)).cons x)
section
variable{prog:Xr}{w:Xm}{A:Xw}{E:X0->X1->Prop}{s:X1}
def _nT(j:n≠0)(h:∀i d,i<n->Q i {s with drawn:=d}):X4 M A (choose src n) Q E s:=λu p l=>by
 unfold choose;rw[Sem.wp_choose];erw[⟨j,by rw[Sem.wp_pure];erw[h _ _ (UL _ (Nat.pos_of_ne_zero j))]⟩]
def _lL{z:Type}:∀(n:Nat)(j:List z)(s:X1)(Q:List z->X1->Prop),j.length=n->(∀l d,l.Perm j->Q l {s with drawn:=d})->X4 M A (drawOrder n j) Q E s:=by
 intro n
 induction n with
 |zero=>
  intro j s Q u h;unfold drawOrder;have:j=[]:=Wu.mp u;subst this;erw[Xd (h [] s.drawn (.refl _))]
 |succ n m=>
  intro j s Q u h;cases j with
  |nil=>simp at u
  |cons x j=>
   unfold drawOrder;erw[X2 (_nT (by simp) λi d y=>?_)]
   rw[X6 y];dsimp only;erw[X2 (m _ _ _ (by rw[CY y];lia) λl g c=>Xd ?_)]
   have:(((x::j)[i])::l).Perm (x::j):=((List.Perm.cons _ c).trans (ers _ _ y));erw[h _ g this]
def _mi{u:Type}(next:Nat->Nat):∀(n k:Nat)(j:List u)(out:Array u),j.length=n->(pickOrder.go next n k j out).toList.Perm (out.toList++j):=by
 intro n
 induction n with
 |zero=>
  intro k j out y;have:j=[]:=Wu.mp y;subst this;unfold pickOrder.go;simp
 |succ n z=>
  intro k j out y;unfold pickOrder.go;have l:next k%j.length<j.length:=UL _ (by lia)
  rw[X6 l];dsimp only;erw[(z _ _ _ (by rw[CY l];lia)).trans ?_]
  rw[Array.toList_push,UE];erw[(List.Perm.refl _).append (by simpa using ers _ _ l)]
def _hv{l:Type}(next:Nat->Nat)(j:Array l):(pickOrder next j).toList.Perm j.toList:=by
 unfold pickOrder
 simpa using _mi next j.size 0 j.toList #[] (by simp)
def SIt(h:Heap)(j S:Addr)(first:X0)(i n l:Nat):Prop:=
 ∃o,h.get? j=wc o/\o.cls=.type "set_iterator"/\o.data=.fields #[first,.int i 0,.ref S,.int n 0,.int l 0]
def SIt.typeIs{first:X0}(x:SIt s.heap it S first i n ep):s.TypeIs (.ref it) "set_iterator":=let⟨o,ho,hc,_⟩:=x;⟨o,ho,hc⟩
def BX{h:Heap}{l:Addr}{o:Obj}{y:Array X0}(z:h.get? l=wc o)(hd:o.data=.fields y)(j:Nat)(v:X0):
  ∃u,(h.update l (Obj.mapFields (·.setIfInBounds j v))).get? l=wc u/\u.cls=o.cls/\u.data=.fields (y.setIfInBounds j v):=
 ⟨_,WE _ z (Obj.isFreed_of_fields (Obj.data_mapFields hd _)),Obj.cls_mapFields ..,Obj.data_mapFields hd _⟩
noncomputable def Nx(w:Xm)(S:Addr)(u:Array (Int×X0))(y:Nat)(t:Yx)(l i:Nat):Option (X0×Nat):=
 if w.params.followText "set-order"=wf then(pickOrder (w.params.setOrder S y) u)[i]?.map fun e=>(e.2,l)
 else match u[BH t.place l]?,t.place[BH t.place l]? with
  |wc (_,x),wc j=>wc (x,j+1)
  |_,_=>we
def _jH{t:Yx}
  (j:s.heap.get? S=wc o)(l:o.data=.set es ep t)(y:t.fits es.size=wf)(hw:w.params.followText "set-order"=wf\/(es.size<=1/\t.led=wf))
  (h:Q (Nx w S es ep t slot i) s):X4 (X8 prog w) A (setNext S slot i ep) Q E s:=by
 unfold setNext;erw[X2 (Ws j l y ?_)];erw[X2 (m:=setsByText) (X2 (Wt (Xd ?_)))];show X4 _ _ (if w.params.followText "set-order"=wf then _ else _) _ _ _;unfold Nx at h;by_cases hb:w.params.followText "set-order"=wf
 .rw[if_pos hb];rw[if_pos hb]at h;simp only[bne_self_eq_false,YZ,if_false];erw[X2 ?_];unfold setWalk;erw[X2 (Ws j l y ?_)];erw[X2 (m:=setsByText) (X2 (Wt (Xd ?_)))];show X4 _ _ (if w.params.followText "set-order"=wf then _ else _) _ _ _;rw[if_pos hb];erw[X2 (Wt (Xd (Xd ?_)))];erw[h]
 .rw[if_neg hb];rw[if_neg hb]at h;have⟨g,z⟩:=hw.resolve_left hb;have u:(!t.plain&&decide (es.size>1))=wg:=by
   rw[decide_eq_false (by lia),Bs]
  show X4 _ _ (if(!t.plain&&decide (es.size>1))=wf then _ else _) _ _ _;rw[u,if_neg XB];erw[X2 ?_];show X4 _ _ (if(!t.led&& !es.isEmpty)=wf then _ else _) _ _ _;rw[z];simp only[Bt,WF,YZ,if_false];erw[Xd (Xd h)]
def HS(u:A.handled=we)(y:Bq it s.heap h₁)
  (z:∀l,Bq it s.heap l->Q we {s with heap:=l}):
  X4 (X8 prog w) A.in1 (do let x<- newExc (.type "StopIteration") [];(raiseNew x:Sem Fin)) (fun fin j=>∃v,fin=Fin.done (Flow.ret v)/\X4 (X8 prog w) A (pure (wc v)) Q E j)
   (fun e j=>X4 (X8 prog w) A (do let b<- isInstance e (.type "StopIteration");if b=wf then pure we else throw e) Q E j) {s with heap:=h₁}:=by
 erw[X2 ?_];simp only[newExc,newTuple];erw[X2 (U9 ?_ (by size_fits))]
 erw[X2 (m:=firstArgMember _ _) (wpAny_of_eq (a:=UM) (by first|rfl|(simp only[firstArgMember];rfl)) ?_)]
 erw[U9 ?_ (by size_fits)]
 simp only[raiseNew];erw[X2 (wpAny_handled ?_)];rw[show A.in1.handled=we from u];erw[X2 (Xd (wpAny_throw ?_))];erw[X2 (VA (T:="StopIteration") (b:=wf) ⟨_,XT _ rfl,rfl⟩ isSubtype_stop ?_)];erw[Xd (z _ ((y.push _).push _))]
def HU{g S:Addr}{i n d j:Nat}{o:Obj}{y:Array (Int×X0)}{t:Yx}{Q:Option X0->X1->Prop}(U:A.handled=we)
  (z:SIt s.heap g S (.int j 0) i n d)(f:s.heap.get? S=wc o)(q:o.data=.set y d t)(R:t.fits y.size=wf)(W:y.size=n)
  (hw:w.params.followText "set-order"=wf\/(y.size<=1/\t.led=wf))
  (Y:∀x r,Nx w S y d t j i=wc (x,r)->∀c,SIt c g S (.int r 0) (i+1) n d->Ue g s.heap c->Q (wc x) {s with heap:=c})
  (Z:Nx w S y d t j i=we->∀c,Bq g s.heap c->Q we {s with heap:=c}):
  X4 (X8 prog w) A (pyNext (.ref g)) Q E s:=by
 have⟨oi,l,L,u⟩:=id z;unfold pyNext;erw[X2 (wpAny_attempt (AQ (name:=VQ "__next__") z.typeIs slot_setiter_next
  (Zg slot_setiter_next z.typeIs HQ ?_ (HR _))))]
 show X4 _ _ (fieldsOf (.ref g)>>= _) _ _ s;erw[X2 (wpAny_fieldsOf l u ?_)];show X4 _ _ (setEntries S >>= _) _ _ s;erw[X2 (wpAny_setEntries_of f q R ?_)];simp only[W,bne_self_eq_false,YZ,if_false];erw[X2 (m:=setNext _ _ _ _) ?_];simp only[Z0];erw[_jH f q R hw ?_];cases T:Nx w S y d t j i with
 |none=>
  dsimp only;erw[X2 (VB l u (by simp) ?_)]
  erw[HS U (Uh ..).extBut (Z T)]
 |some p=>
  have⟨x,r⟩:=p;dsimp only;have⟨C,e,N,hd1⟩:=BX l u 0 (Yc r);erw[X2 (VB l u (by simp) ?_)]
  erw[X2 (VB e hd1 (by simp) ?_)]
  have⟨B,O,P,hd2⟩:=BX e hd1 1 (Yc ((i:Int)+1));erw[Xd ⟨x,rfl,Xd (Y x r T _ ⟨B,O,P.trans (N.trans L),?_⟩ ((Uh ..).trans (Uh ..)))⟩];rw[hd2];simp[Yc]
def HV{u S P:Addr}{i n L:Nat}{o T:Obj}{q:Array (Int×X0)}{t:Yx}{r:Array X0}{Z:Nat}{Q:Option X0->X1->Prop}(B:A.handled=we)
  (y:SIt s.heap u S (.ref P) i n L)(d:s.heap.get? S=wc o)(c:o.data=.set q L t)(U:t.fits q.size=wf)(C:q.size=n)
  (N:s.heap.get? P=wc T)(O:T.data=.seq r Z)
  (D:∀v,r[i]?=wc v->∃(p:Nat) (e:Int×X0),v=.int p 0/\q[p]?=wc e/\∀g,SIt g u S (.ref P) (i+1) n L->Ue u s.heap g->Q (wc e.2) {s with heap:=g})
  (F:r[i]?=we->∀g,Bq u s.heap g->Q we {s with heap:=g}):
  X4 (X8 prog w) A (pyNext (.ref u)) Q E s:=by
 have⟨oi,j,R,l⟩:=id y;unfold pyNext;erw[X2 (wpAny_attempt (AQ (name:=VQ "__next__") y.typeIs slot_setiter_next
  (Zg slot_setiter_next y.typeIs HQ ?_ (HR _))))]
 show X4 _ _ (fieldsOf (.ref u)>>= _) _ _ s;erw[X2 (wpAny_fieldsOf j l ?_)];show X4 _ _ (setEntries S >>= _) _ _ s;erw[X2 (wpAny_setEntries_of d c U ?_)];simp only[C,bne_self_eq_false,YZ,if_false];erw[X2 (m:=seqItems? _) (wpAny_seqItems N O ?_)];simp only[Z0];cases W:r[i]? with
 |none=>
  dsimp only;have⟨Y,z,f,hd1⟩:=BX j l 0 (Yc 0);erw[X2 (VB j l (by simp) ?_)]
  erw[X2 (VB z hd1 (by simp) ?_)]
  erw[HS (s:=s) (it:=u) B ?_ (F W)];erw[Heap.SameBut.extBut (Heap.SameBut.trans (Uh _ _ _) (Uh _ _ _))]
 |some v=>
  have⟨p,e,rfl,G,I⟩:=D v W;dsimp only;erw[X2 ?_];unfold setNextDrawn;erw[X2 (Ws d c U ?_)];simp only[Z0,bne_self_eq_false,YZ,if_false,G];have⟨k,x⟩:=e;erw[Xd ?_];have⟨Y,z,f,hd1⟩:=BX j l 1 (Yc ((i:Int)+1));erw[X2 (VB j l (by simp) ?_)]
  erw[Xd ⟨x,rfl,Xd (I _ ⟨Y,z,f.trans R,?_⟩ (Uh ..))⟩];rw[hd1];simp[Yc]
def HW{first:X0}(j:SIt s.heap it S first i n ep)(h:Q (.ref it) s):
  X4 (X8 prog w) A (pyIter (.ref it)) Q E s:=by
 erw[wpAny_pyIter_slot j.typeIs HP (Zg HP j.typeIs _7d ?_ (_7C _))];show X4 _ _ (ret (.ref it)) _ _ s;erw[Xd ⟨_,rfl,"set_iterator",_,j.typeIs,slot_setiter_next.lookup,h⟩]
def SIt.at{first:X0}(x:SIt h it S first i n ep)(e:∀o,h.get? it=wc o->h'.get? it=wc o):SIt h' it S first i n ep:=
 let⟨o,ho,r⟩:=x;⟨o,e _ ho,r⟩
def _nV(R:A.handled=we){I S:Addr}{n f:Nat}{o:Obj}{y:Array (Int×X0)}{t:Yx}{T:List X0}{Good:Nat->Nat->Prop}(L:S≠I)
  (d:o.data=.set y f t)(U:t.fits y.size=wf)(W:y.size=n)(hw:w.params.followText "set-order"=wf\/(y.size<=1/\t.led=wf))
  (Y:∀i u,Good i u->(i<n->∃x N,Nx w S y f t u i=wc (x,N)/\T[i]?=wc x/\Good (i+1) N)/\(i=n->Nx w S y f t u i=we)):
  Walks prog w A I [I,S] [I] n (λi v=>T[i]?=wc v) (λi h=>∃u,Good i u/\SIt h I S (.int (u:Nat) 0) i n f/\h.get? S=wc o)where
 sub:=λb m=>by simp at m;simp[m]
 frame:=λ_ _ _ st Z=>let⟨u,g,j,l⟩:=st;⟨u,g,j.at λo e=>Z I (by simp) o e,Z S (by simp) _ l⟩
 item:=λi s Q E C st c=>by
  have⟨u,g,j,l⟩:=st;have⟨x,N,r,D,F⟩:=(Y i u g).1 C;erw[HU R j l d U W hw (λG O q p B P=>?_) (λq=>by rw[r]at q;simp at q)]
  rw[r]at q;simp only[Bw,Prod.mk.injEq]at q;have⟨rfl,rfl⟩:=q;erw[c _ p s.toks D ⟨_,F,B,(P.2 S L).trans l⟩ λb o m e=>(P.2 b (λz=>m (by simp[z]))).trans e]
 done:=λs Q E st c=>by
  have⟨u,g,j,l⟩:=st;have r:=(Y n u g).2 rfl;erw[HU R j l d U W hw (λG O q p B P=>by rw[r]at q;simp at q) (λ_ p a=>c p s.toks λb o m e=>a b o (λz=>m (by simp[z])) e)]
 self:=λ_ _ _ _ st c=>let⟨_,_,j,_⟩:=st;HW j c
def _nU(R:A.handled=we){I S P:Addr}{n T B:Nat}{o U:Obj}{c:Array (Int×X0)}{t:Yx}{f:List Nat}{W:List X0}(r:S≠I)(p:P≠I)
  (m:o.data=.set c T t)(Y:t.fits c.size=wf)(Z:c.size=n)(g:U.data=.seq (f.map λi:Nat=>Yc i).toArray B)
  (G:f.length=n)(C:∀(i:Nat)(j:Nat),f[i]?=wc j->∃e,c[j]?=wc e/\W[i]?=wc e.2):
  Walks prog w A I [I,S,P] [I] n (λi v=>W[i]?=wc v) (λi h=>SIt h I S (.ref P) i n T/\h.get? S=wc o/\h.get? P=wc U)where
 sub:=λb y=>by simp at y;simp[y]
 frame:=λ_ _ _ st L=>⟨st.1.at λo e=>L I (by simp) o e,L S (by simp) _ st.2.1,L P (by simp) _ st.2.2⟩
 item:=λi s Q E J st d=>by
  erw[HV R st.1 st.2.1 m Y Z st.2.2 g (λv u=>?_) (λq=>?_)]
  .simp only[D0,Xe,VO]at u;have⟨j,l,rfl⟩:=u;have⟨e,D,u⟩:=C i j l;erw[⟨j,e,rfl,D,λN F O=>d _ N s.toks u ⟨F,(O.2 S r).trans st.2.1,(O.2 P p).trans st.2.2⟩ λb o y e=>(O.2 b (λz=>y (by simp[z]))).trans e⟩]
  .simp at q;lia
 done:=λs Q E st d=>by
  erw[HV R st.1 st.2.1 m Y Z st.2.2 g (λv u=>?_) (λ_ N a=>d N s.toks λb o y e=>a b o (λz=>y (by simp[z])) e)]
  simp only[D0,Xe,VO]at u;have⟨j,l,rfl⟩:=u;rw[Zj (by lia)]at l
  simp at l
 self:=λ_ _ _ _ st d=>HW st.1 d
def _j9{d:Type}(l:Array d){u:List Nat}(m:u.Perm (Xq l.size)):
  ∃g:List d,g.Perm l.toList/\g.length=u.length/\∀(i:Nat)(j:Nat),u[i]?=wc j->∃e,l[j]?=wc e/\g[i]?=wc e:=by
 have y:∀j∈u,j<l.size:=λj z=>Zl.mp (m.mem_iff.mp z);erw[⟨u.filterMap λj=>l[j]?,(m.filterMap _).trans (by rw[filterMap_getElem?_range]),?_⟩]
 clear m
 induction u with
 |nil=>erw[⟨rfl,λi j h=>by simp at h⟩]
 |cons j u c=>
  have z:=y j Y3;have⟨f,q⟩:=c λk r=>y k (XJ _ r);rw[List.filterMap_cons_some (b:=l[j]) (by simp[z])]
  erw[⟨by simp[f],λi k h=>?_⟩]
  cases i with
  |zero=>
   simp at h;subst h;erw[⟨l[j],by simp[z],rfl⟩]
  |succ i=>
   simp at h;have⟨e,p,L⟩:=q i k h;erw[⟨e,p,by simpa using L⟩]
def ZrH(prog:Xr)(w:Xm)(z:List Str)(j:Heap)(S I:Addr)(m:Heap):Prop:=
 ∃(u:List Addr) (n:Nat) (l:List X0) (St:Nat->Heap->Prop),
  (∀y:Xw,y.handled=we->Walks prog w y I u [I] n (λi v=>l[i]?=wc v) St)/\St 0 m/\l.length=n/\(l.map txt).Perm z/\(∀v∈l,∃t,v=Z8 (txt v) t)/\
  (∀b∈u,b=S\/j.objs.size<=b)/\j.objs.size<=I
def HX(h:p.size=1)(j:Nat):BH p j=if p[0]'(by lia)<j then 1 else 0:=by
 have⟨l⟩:=p
 match l,h with
 |[a],_=>
  show(if 0<1 then(if(#[a]:Array Nat).getD ((0+1)/2) j<j then Gz #[a] j 0 ((0+1)/2+1) 1 else Gz #[a] j 0 0 ((0+1)/2))else 0)=if a<j then 1 else 0;rw[if_pos (by lia)]
  rfl
def _gP{S:Addr}{o:Obj}{B:List Str}{Q:X0->X1->Prop}(q:s.heap.get? S=wc o)(hS:WSet prog w o B)
  (hQ:∀(I:Addr)(h':Heap)d,ZrH prog w B s.heap S I h'->(∀b o,s.heap.get? b=wc o->h'.get? b=wc o)->Q (.ref I) {s with heap:=h',drawn:=d}):
  X4 (X8 prog w) A (pyIter (.ref S)) Q E s:=by
 have⟨hex,u,U,t,hd,hel,hp,W,L,C,hpl⟩:=id hS;have hT:s.TypeIs (.ref S) "set":=⟨o,q,hex.1⟩;have D:S<s.heap.objs.size:=Xu q;have hsz:u.size=B.length:=by rw[<-hp.length_eq,X5,Yt]
 have N:∀e∈u.toList,∃t,e.2=Z8 (txt e.2) t:=λe g=>by
  have⟨⟨k,hk,_⟩,_⟩:=hel e g;have⟨t,ht⟩:=isT.mp hk;erw[⟨t,by rw[ht];rfl⟩]
 have hsl:sizeLine=16777216:=by decide
 have hsb:scanBound=4096:=rfl;erw[wpAny_pyIter_slot hT F.slot_set_iter (Zg F.slot_set_iter hT _aZ ?_ (F.args_set_iter_1 _))];show X4 _ _ (Gq S >>= _) _ _ s;erw[X2 (m:=Gq S) (X2 (wpAny_setEntries_of q hd L (Xd ?_)))];erw[X2 (m:=setDrawn S) ?_];unfold setDrawn;erw[X2 (Ws q hd L ?_)];erw[X2 (m:=setsByText) (X2 (Wt (Xd (Xd ?_))))];show X4 _ _ (if(!w.params.followText "set-order"&&(!t.plain&&decide (u.size>1)))=wf then _ else _) _ _ _;have rest:∀(first:X0)(l:X1)(R:Fin->X1->Prop),l.heap.get? S=wc o->
   R (.done (.ret (.ref l.heap.objs.size))) {l with heap:=l.heap.push {cls:=.type "set_iterator",data:=.fields #[first,.int 0 0,.ref S,.int (u.size:Nat) 0,.int U 0]} }->
   X4 (X8 prog w) A.in1 (do let e<- setEpoch S;let v<- newFields "set_iterator" [first,Yc 0,.ref S,Yc (u.size:Nat),Yc e];ret v) R E l:=by
  intro first l R O h
  erw[X2 (wpAny_setEpoch_of O hd L ?_)];erw[X2 (U9 (Xd h))]
 have y:∀(Good:Nat->Nat->Prop)(Y:List X0),Good 0 0->Y.length=u.size->(Y.map txt).Perm B->(∀v∈Y,∃t,v=Z8 (txt v) t)->
   (w.params.followText "set-order"=wf\/(u.size<=1/\t.led=wf))->
   (∀i c,Good i c->(i<u.size->∃x nx,Nx w S u U t c i=wc (x,nx)/\Y[i]?=wc x/\Good (i+1) nx)/\(i=u.size->Nx w S u U t c i=we))->
   ∀(l:X1),l=s->X4 (X8 prog w) A.in1 (do let e<- setEpoch S;let v<- newFields "set_iterator" [Yc 0,Yc 0,.ref S,Yc (u.size:Nat),Yc e];ret v)
    (fun fin s'=>∃v,fin=Fin.done (Flow.ret v)/\∃T' r,s'.TypeIs v T'/\typeLookup (.type T') "__next__"=pure (wc r)/\Q v s') E l:=by
  intro Good Y g0 hlv hpv hsv hw hg l G;subst G;erw[rest _ _ _ q ⟨_,rfl,"set_iterator",_,⟨_,XT _ rfl,rfl⟩,slot_setiter_next.lookup,?_⟩];erw[hQ _ _ l.drawn ⟨[l.heap.objs.size,S],u.size,Y,_,λA' hh=>_nV hh (XG D) hd L rfl hw hg,⟨0,g0,⟨_,XT _ rfl,rfl,rfl⟩,Xt _ q⟩,hlv,hpv,hsv,λb W=>?_,Xa _⟩ λb o e=>Xt _ e];simp only[Xk,XN,or_false]at W;rcases W with rfl|rfl
  .erw[.inr (Xa _)]
  .erw[.inl rfl]
 by_cases hbt:w.params.followText "set-order"=wf
 .rw[hbt];simp only[Bt,WF,YZ,if_false];erw[X2 (Xd ?_)];have f:=_hv (w.params.setOrder S U) u;erw[y (λ_ _=>True) ((pickOrder (w.params.setOrder S U) u).toList.map (·.2)) trivial ?_ ?_ ?_ (.inl hbt) ?_ s rfl]
  .rw[X5,f.length_eq,Yt]
  .rw[Y9];erw[(f.map _).trans hp]
  .intro v J;have⟨e,g,rfl⟩:=XA.mp J;erw[N e (f.mem_iff.mp g)]
  .intro i c _;have hps:(pickOrder (w.params.setOrder S U) u).size=u.size:=by rw[<-Yt,f.length_eq,Yt]
   unfold Nx;rw[if_pos hbt];erw[⟨λhi=>?_,λhi=>?_⟩]
   .rw[Vg (by lia)]
    erw[⟨_,_,rfl,by simp[hps,hi],trivial⟩]
   .rw[Ds (by lia)]
    rfl
 .have M:w.params.followText "set-order"=wg:=by simpa using hbt
  have hlt:t.led=wf:=by rw[C,M];rfl
  rw[M];simp only[Dq,Bu];by_cases h1:u.size>1
  .have hz:B≠ []:=λz=>by rw[z,List.length_nil]at hsz;lia
   rw[hpl hz,decide_eq_true h1];simp only[Dq,Bool.and_self,if_true];erw[X2 (_lL _ _ _ _ (by simp) λZ d hj=>?_)]
   have⟨ys,X,hy2,hy3⟩:=_j9 u hj;have H:Z.length=u.size:=by rw[hj.length_eq,UF]
   erw[X2 (wpAny_newTuple ?_ (by rw[X5];lia))]
   erw[rest _ _ _ (Xt _ q) ⟨_,rfl,"set_iterator",_,⟨_,XT _ rfl,rfl⟩,slot_setiter_next.lookup,?_⟩];have n:s.heap.objs.size≠(s.heap.push {cls:=.type "tuple",data:=.seq (Z.map fun i:Nat=>Yc i).toArray}).objs.size:=by rw[Ud];lia
   have a:S≠(s.heap.push {cls:=.type "tuple",data:=.seq (Z.map fun i:Nat=>Yc i).toArray}).objs.size:=by rw[Ud];erw[XG (VH D)]
   have p:s.heap.objs.size<=(s.heap.push {cls:=.type "tuple",data:=.seq (Z.map fun i:Nat=>Yc i).toArray}).objs.size:=by rw[Ud];lia
   erw[hQ _ _ d ⟨[_,S,s.heap.objs.size],u.size,ys.map (·.2),_,λA' hh=>_nU hh (S:=S) (P:=s.heap.objs.size) (o:=o) (f:=Z)
    (U:={cls:=.type "tuple",data:=.seq (Z.map fun i:Nat=>Yc i).toArray}) a n hd L rfl rfl H ?_,
    ⟨⟨_,XT _ rfl,rfl,rfl⟩,Xt _ (Xt _ q),Xt _ (XT _ rfl)⟩,?_,?_,?_,λb W=>?_,?_⟩
    λb o e=>Xt _ (Xt _ e)]
   .intro i j hij;have⟨e,g,hy⟩:=hy3 i j hij;erw[⟨e,g,by rw[Xe,hy];rfl⟩]
   .rw[X5,hy2,H]
   .rw[Y9];erw[(X.map _).trans hp]
   .intro v J;have⟨e,g,rfl⟩:=XA.mp J;erw[N e (X.mem_iff.mp g)]
   .simp only[Xk,XN,or_false]at W;rcases W with rfl|rfl|rfl
    .erw[.inr p]
    .erw[.inl rfl]
    .erw[.inr (Xa _)]
   .erw[p]
  .rw[decide_eq_false h1];simp only[Bs,YZ,if_false];erw[X2 (Xd ?_)];have hfp:t.place.size=u.size:=by
    simp only[SetTable.fits,XU,beq_iff_eq,decide_eq_true_eq]at L;erw[L.1]
   erw[y (λi c=>(i=0->c=0)/\(i=1->∃h:0<t.place.size,c=t.place[0]+1)) (u.toList.map (·.2)) ⟨λ_=>rfl,λz=>absurd z (by lia)⟩ (by simp) ?_ ?_ (.inr ⟨by lia,hlt⟩) ?_ s rfl]
   .rw[Y9];erw[hp]
   .intro v J;have⟨e,g,rfl⟩:=XA.mp J;erw[N e g]
   .intro i c ⟨g0,g1⟩;unfold Nx;rw[if_neg hbt];erw[⟨λhi=>?_,λhi=>?_⟩]
    .have hs1:u.size=1:=by lia
     have hi0:i=0:=by lia
     subst hi0;have hpz:t.place.size=1:=by lia
     rw[g0 rfl,HX hpz,if_neg (by lia),Vg (by lia),Vg (by lia)]
     erw[⟨_,_,rfl,?_,λz=>absurd z (by lia),λ_=>⟨by lia,rfl⟩⟩]
     simp[hs1]
    .have T:u[BH t.place c]?=we:=by
      by_cases h0:u.size=0
      .erw[Ds (by lia)]
      .have hs1:u.size=1:=by lia
       have⟨hq,e⟩:=g1 (by lia)
       rw[e,HX (by lia),if_pos (by lia)]
       erw[Ds (by lia)]
     rw[T]
def _dL(hh:A.handled=we)(ho:s.heap.get? S=wc o)(hS:WSet prog w o zs)
  (hQ:∀(R:List X0)(T:Heap)(d:Drawn)(g:Array GenState)tk,(R.map txt).Perm zs->(∀v∈R,∃t,v=Z8 (txt v) t)->(∀b o,s.heap.get? b=wc o->T.get? b=wc o)->g=s.gens->s.heap.objs.size<=T.objs.size->
   Q R {s with heap:=T,drawn:=d,gens:=g,toks:=tk}):X4 (X8 prog w) A (collect (.ref S)) Q E s:=by
 have⟨U,es,ep,t,hd,hel,hp,Y,hf,hled,hpl⟩:=id hS;have X:S<s.heap.objs.size:=Xu ho;have hsl:sizeLine=16777216:=by decide
 have hsb:scanBound=4096:=rfl;have hsz:es.size=zs.length:=by rw[<-hp.length_eq,X5,Yt]
 unfold collect;erw[X2 (wpAny_runValue (Zh F.entry_proto_collect ?_))];rw[ZH F.plain_proto_collect _];show X4 _ A.in1 (newList [] >>= fun l=>again (.builtin "list.__iadd__" ⟨[l,.ref S],[]⟩)) _ _ s;erw[X2 (U9 ?_)];erw[Xd ⟨ZR F.plain_list_iadd _,Zh F.entry_list_iadd ?_⟩];rw[ZH F.plain_list_iadd _];show X4 _ A.in1 (G9 (.ref s.heap.objs.size) (.ref S) (.ref s.heap.objs.size)) _ _ _;have Z:s.heap.objs.size≠S:=(XG X).symm;generalize hL:s.heap.objs.size=L at*;have H:(s.heap.push {cls:=.type "list",data:=.seq ([]:List X0).toArray}).get? L=wc {cls:=.type "list",data:=.seq ([]:List X0).toArray}:=by
  rw[<-hL];erw[XT _ rfl]
 have r:(s.heap.push {cls:=.type "list",data:=.seq ([]:List X0).toArray}).get? S=wc o:=Xt _ ho;have f:(s.heap.push {cls:=.type "list",data:=.seq ([]:List X0).toArray}).objs.size=L+1:=by rw[Ud,hL]
 have B:∀b u,s.heap.get? b=wc u->b≠L/\(s.heap.push {cls:=.type "list",data:=.seq ([]:List X0).toArray}).get? b=wc u:=fun b u e=>
  ⟨by rw[<-hL];erw[XG (Xu e)],Xt _ e⟩
 generalize s.heap.push {cls:=.type "list",data:=.seq ([]:List X0).toArray}=h₁ at*;have hT:BN {s with heap:=h₁} (.ref S) "set":=⟨o,r,U.1⟩;unfold G9;erw[X2 (V4 hT ?_)];have e1:Ga (.ref L) (.ref S)=wg:=by simp[Ga,Z]
 have e2:(ZG "set"==ZG "list")=wg:=by decide
 have e3:(ZG "set"==ZG "tuple")=wg:=by decide
 simp only[e1,e2,e3,Bool.or_false,YZ,if_false];erw[X2 (_gP (s:={s with heap:=h₁}) r hS λI j d hW hk=>?_)];have⟨fp,n,R,St,x,h,a,C,hvs,hfp,hI⟩:=hW;have p:∀b u,h₁.get? b=wc u->j.get? b=wc u:=hk;have N:BN {s with heap:=j,drawn:=d} (.ref S) "set":=⟨o,p _ _ r,U.1⟩;erw[X2 (YO ?_)];unfold Builtin.List.listLengthHint;erw[X2 (wpAny_specialOf N F.slot_set_len.lookup ?_)];have hsp:splitId "set.__len__"=wc ("set","__len__"):=by decide+kernel
 extract_lets j1 j2
 dsimp -zeta only;rw[hsp];dsimp -zeta only;erw[X2 (VA N sub_set_self ?_)];simp only[Bt,YZ,if_false];show X4 _ _ (ite (_=wf) _ _) _ _ _;split
 case isFalse hs=>erw[absurd (by rfl) hs]
 erw[X2 (V4 N ?_)];erw[Xd ?_];split
 case isFalse hs=>erw[absurd (by rfl) hs]
 erw[X2 (wpAny_rule ?_)];erw[X2 ?_];have m:j.get? L=wc {cls:=.type "list",data:=.seq ([]:List X0).toArray}:=p _ _ H;show X4 _ A.in1 (updateSeq L (·.push .none)>>= λ_=>updateSeq L (·.pop)) _ _ _;erw[X2 (wpAny_updateSeq m rfl ?_)];have c:=WE (Ui (·.push UM)) m rfl;erw[wpAny_updateSeq c rfl ?_];have O:=WE (Ui (·.pop)) c rfl;have D:∀b o,b≠L->j.get? b=wc o->((j.update L (Ui (·.push UM))).update L (Ui (·.pop))).get? b=wc o:=
  λb o Y e=>(Bp _ _ (XW Y)).trans ((Bp _ _ (XW Y)).trans e)
 have G:L∉fp:=λz=>by
  rcases hfp L z with e|e
  .erw[Z e]
  .have:L+1<=L:=f▸e;lia
 have hin:A.in1.handled=we:=by simp[hh]
 have W:=(x A.in1 hin).toS;have hn:n<=sizeLine:=by
  have:n=zs.length:=by rw[<-a,<-C.length_eq,X5]
  lia
 erw[Xd ⟨ZR F.plain_extend_loop _,codeAny_extend_loopS W hn L G _ n 0 _ _ _ rfl (Yg _)
  (W.frame 0 ({s with heap:=j,drawn:=d}:X1) _ s.toks h (Xa _) λb Y o e=>D b o (λz=>G (z▸Y)) e) O (ItemsOf.nil _) λs' y c' M J q=>?_⟩]
 show X4 _ A (load L >>= _) _ _ s';erw[X2 (wpAny_load J ?_)];have hav:y.toList=R:=by
  erw[Ww λi=>?_];by_cases hi:i<y.size
  .have e:=q.2 i y[i] (by simp[hi])
   rw[e];simp[hi]
  .rw[Zj (by simp;lia),Zj (by have:=q.1;lia)]
 have⟨T,g',d',tk',os'⟩:=s';have eg:g'=s.gens:=M.gens;have ed:d'=d:=M.drawn;have eo:os'=s.os:=M.os;subst ed;subst eo;erw[Xd ?_];show Q y.toList _;rw[hav];erw[hQ R T _ g' tk' C hvs (λb u e=>?_) eg (ZF (Xu J))];have P:=B b u e;erw[M.heap b u ?_ (D b u P.1 (p b u P.2))];simp only[Xk,XN,or_false,not_or];erw[⟨P.1,λz=>?_⟩];have h1:L+1<=I:=Xy (Vf f.symm) hI;have h2:b<L:=by rw[<-hL];erw[Xu e]
 rw[z]at h2;erw[absurd h1 (Nat.not_le_of_lt (VH h2))]
def _e3(B:A.handled=we)(C:s.heap.get? S=wc o)(D:WSet prog w o zs)(F:zs.length<64)
  (h:∀(p:Addr)(r:Heap)(d:Drawn)q (out:List X0)(L:List Str)(e:Nat),s.heap.objs.size<=p->(∀b o,s.heap.get? b=wc o->r.get? b=wc o)->r.get? p=wc (seqObj "list" out.toArray e)->
   StrsAre out L->L.Perm zs->sortedS L=wf->Q (.ref p) {s with heap:=r,drawn:=d,toks:=q}):
  X4 (X8 prog w) A (call (.builtin "sorted") [.ref S]) Q E s:=by
 erw[Calls.call_function_entry kind_sorted plain_sorted entry_sorted (args_sorted1 _) ?_];unfold Builtin.«sorted»;erw[X2 (m:=checkCount "sorted" 1 1 _) (Xd ?_)];have G:sizeLine=16777216:=by decide
 erw[X2 (_dL (by simp[B]) C D λl j d g q T U I J N=>?_)]
 subst J;have a:l.length=zs.length:=by rw[<-T.length_eq,X5]
 erw[X2 (wpAny_newList ?_ (by lia))]
 have u:(j.push (seqObj "list" l.toArray 0)).get? j.objs.size=wc (seqObj "list" l.toArray 0):=XT _ rfl;have y:StrsAre l (l.map strOf):=strsAre_map l λv O=>by have⟨t,e⟩:=U v O;erw[⟨_,t,e⟩]
 have P:l.map strOf=l.map txt:=List.map_congr_left λv O=>by have⟨t,e⟩:=U v O;rw[e];rfl
 show X4 _ _ _ _ _ {s with heap:=j.push (seqObj "list" l.toArray 0),drawn:=d,toks:=q};erw[X2 (YO (Zg slot_list_sort ⟨_,u,rfl⟩ entry_list_sort (list_sort_treeK strKind_oneLt u y.keysOf (λW Y rest e=>keyKind_strs (by rw[<-e];erw[y])) (by lia) λz M X=>⟨_,rfl,?_⟩) (args_list_sort _)))]
 have⟨R,H,Z,i⟩:=sorted_out_str y M X;erw[Xd ⟨_,rfl,?_⟩];have⟨e,n⟩:=sortedHeap_at (out:=(arrOf z).map (·.2)) u;erw[h j.objs.size _ d q ((arrOf z).map (·.2)).toList R e N (λb o x=>?_) (by rw[Array.toArray_toList];erw[n]) H (by rw[P]at Z;erw[Z.trans T]) i]
 have c:=I b o x;have f:b<j.objs.size:=Xu c;rw[sortedHeap_old (XG f) (by rw[size_push'];erw[VH f])]
 erw[Xt _ c]
end
def Inv.drew(I:Inv X pq σ H s)(d:Drawn):Inv X pq σ H {s with drawn:=d}:=
 ⟨I.ok,I.os,I.bare,I.base,I.loc,I.cell,I.free,I.freeC,I.pin,I.hok,I.len⟩
def few{j:List Str}(l:j.Nodup):∀(N:List Str),(∀z∈j,z∈N)->j.length<=N.length:=by
 induction j with
 |nil=>intro N _;erw[Yg _]
 |cons z j m=>
  intro N h;rw[Yf]at l;have g:=h z Y3;have u:=List.perm_cons_erase g;have:=m l.2 (N.erase z) λy w=>by
   have:=u.mem_iff.mp (h y (XJ _ w));rcases Xk.mp this with e|e
   .erw[absurd (e▸w) l.1]
   .erw[e]
  have d:=u.length_eq;simp only[Yi]at d ⊢;lia
theorem HY:∀{j:List X0} {l:List Str},StrsAre j l->Vals (l.map V.str) j
 |_,_,.nil=>.nil
 |_,_,.cons x t h=>.cons ⟨t,rfl⟩ (HY h)
def WX(X:Cx)(f g:X0)(r:V->Hp->VK->Prop):Prop:=
 ∀(j:List (Addr×Obj))(s:X1)(l:St)(H:Hp)(x:V)(u:X0)(Q:VK),Inv X j l H s->RelV x u->r x H Q->
  X4 (X8 X.prog X.w) X.A (call g [u]) (λv w=>X4 (X8 X.prog X.w) X.A (call f [v]) (EP X j l Q) X.xe w) X.xe s
section
variable{X:Cx}
def DO{x y:Str}{id T:String}{r:V->Hp->VK->Prop}{e:Expr}{t:TE}{p L l j:Pos}(P:WX X (.builtin id) (.type T) r)
  (R:Gl X x)(U:X.mg x=we)(W:YE x=wc (.builtin id))(m:Gl X y)(g:X.mg y=we)(d:YE y=wc (.type T))(Y:PE X e t)
  (Z:x≠"__name__")(c:(x==("__debug__":Str))=wg)(f:y≠"__name__")(w:(y==("__debug__":Str))=wg)
  (N:Xx [e] X.env=(wg,eval e X.env)::Xx [] X.env):
  PE X (.Call (.Name x p) [.Call (.Name y L) [e] [] j] [] l) (λz H Q=>t z H λv q=>r v q Q):=by
 intro O s z H Q I h;erw[UC (UP I R U W ?_ Z c)];erw[FY ?_ rfl rfl];show X4 _ _ (spliced ((wg,eval (.Call (.Name y L) [e] [] j) X.env)::Y5 l (Xx [] X.env))) _ _ s;erw[WI ?_];erw[UC (UP I m g d ?_ f w)];erw[WH ?_ N rfl];rw[N];show X4 _ _ (spliced ((wg,eval e X.env)::Y5 j (Xx [] X.env))) _ _ s;erw[WI (thn (Y O s z H _ I h) λu A B=>?_)];have⟨v,q,C,D,E⟩:=B;erw[WJ ?_];erw[thn (P O A z q v u Q C D E) λG J F=>WJ F]
def _j1(c:X.calm=wf):WX X (.builtin "sorted") (.type "set") (fun x H Q=>∃(a:Addr) (l N:List Str),x=.ref a/\SqL X.K H a (l.map V.str)/\l.length+1<scanBound/\(∀z∈l,z∈N)/\N.length<64/\
  ∀p (A:List Str),H p=we->A.Nodup->(∀y,y∈A↔y∈l)->sortedS A=wf->Q (.ref p) (upd H p (.lst (A.map V.str)))):=by
 intro pq s σ H x u Q I rx h;have⟨a,l,N,rfl,ha,O,S,P,q⟩:=h;cases rx;have⟨g,n,p,B⟩:=I.list ha;have hh:=I.ok.hd c;have R:g.length=l.length:=by rw[<-n.length,X5]
 have T:g.toArray.size=l.length:=by simp[R]
 have hi:∀(i:Nat)(v:X0),g.toArray[i]?=wc v->∃t,v=Z8 (l.getD i ⟨#[]⟩) t:=λi v hv=>by
  have U:g[i]?=wc v:=by simpa using hv
  have W:i<l.length:=by rw[<-R];erw[(Xo.mp U).1]
  have⟨u,hu,ru⟩:=n.get (i:=i) (x:=V.str l[i]) (by simp[W])
  rw[U]at hu;cases hu;have⟨t,rfl⟩:=ru;erw[⟨t,by simp[Wz,W]⟩]
 have m:∀y,y∈met (λi=>l.getD i ⟨#[]⟩) l.length↔y∈l:=λy=>by
  rw[HK,List.mem_iff_getElem];constructor
  .rintro⟨j,Y,rfl⟩;erw[⟨j,Y,by simp[Wz,Y]⟩]
  .rintro⟨j,Y,rfl⟩;erw[⟨j,Y,by simp[Wz,Y]⟩]
 erw[_j2 (f:=λi=>l.getD i ⟨#[]⟩) hh p.isList hi (by rw[T];erw[O]) λh1 Z o ho hS hk=>?_]
 rw[T]at hS;have I1:Inv X pq σ H {s with heap:=h1,toks:=Z}:=I.kept λb u e=>hk b u (Xu e) e;have C:=HJ (λi=>l.getD i ⟨#[]⟩) l.length;erw[_e3 (s:={s with heap:=h1,toks:=Z}) hh ho hS (Do (few C N λz B=>S z ((m z).mp B)) P) λD h2 d E out F e hp G J M w r=>?_];have L:F.length<=sizeLine:=by
  have hsl:sizeLine=16777216:=by decide
  have:=few C N λz B=>S z ((m z).mp B);rw[w.length_eq];lia
 have I2:=(I1.laid (a:=D) (t':=E) (h':=h2) (o:=.lst (F.map V.str)) (λb u e=>G b u e) hp
  ⟨by rw[X5];erw[L],out,e,HY M,J⟩).drew d
 erw[⟨.ref D,_,I2,rfl,q D F (I1.hok.fresh hp) (w.nodup_iff.mpr C) (λy=>(w.mem_iff).trans (m y)) r⟩]
end
def _hS{c:String}(L:c="list"\/c="tuple"){l:Xr}{w:Xm}{A:Xw}{E:X0->X1->Prop}{s:X1}{a:Addr}{j:Array X0}{n:Nat}{m:Array (Option X0)}{Q:Option X0->X1->Prop}(r:s.heap.get? a=wc ⟨.type c,we,.seq j n,m⟩)(N:A.handled=we)
  (O:∀y f,(∀b o,s.heap.get? b=wc o->y.get? b=wc o)->Q we {s with heap:=y,toks:=f}):X4 (X8 l w) A (getAttr? (.ref a) "keys") Q E s:=by
 obtain⟨id,q,P,T,U,W⟩:∃id,Slot c "__getattribute__" id/\entryFor table id=wc Builtin.«object.__getattribute__»/\(∀b,argsOk id ⟨[.ref a,b],[]⟩)/\(∀u,Meets (Builtin.«object.__getattribute__» ⟨[.ref a,.str "keys" u],[]⟩) (fun A R s=>s.heap.get? a=wc ⟨.type c,we,.seq j n,m⟩/\raisesAttr (.ref a) "keys" A R s))/\typeLookup (.type c) "__getattr__"=pure we:=by
  rcases L with rfl|rfl
  .erw[⟨_,F.slot_list_getattribute,am_entry_list_getattribute,F.args_list_getattribute_2 _,fun u=>meets_getattribute_miss_list a j n m "keys" u (am_miss_of_fast (by kernel_rfl)) (by kernel_rfl),am_list_getattr_none⟩]
  .erw[⟨_,F.slot_tuple_getattribute,am_entry_tuple_getattribute,F.args_tuple_getattribute_2 _,fun u=>meets_getattribute_miss_tuple a j n m "keys" u (am_miss_of_fast (by kernel_rfl)) (by kernel_rfl),am_tuple_getattr_none⟩]
 have⟨h,g,d,t,os⟩:=s;unfold getAttr? getAttrBy? mkText;erw[X2 (X2 (wpAny_fresh (Xd ?_)))];erw[X2 (wpAny_attempt ?_)];have p:∀t,(⟨h,g,d,t,os⟩:X1).TypeIs (.ref a) c:=λ_=>⟨_,r,rfl⟩;have Y:=q.lookup;have Z:=q.bind (.ref a)
 repeat (any_goals (first|assumption|erw[p _]|((with_reducible show X4 _ _ (call (Value.builtin id) _ _) _ _ _);erw[Ua q (p _) P (T _) (U _) ⟨r,N,λy f e x=>?_⟩])|wp_step))
 have z:(⟨y,g,d,f,os⟩:X1).TypeIs (.ref e) "AttributeError":=by have⟨_,_,o⟩:=x.there;erw[⟨_,o,rfl⟩]
 show X4 _ _ (getattributeRaised _ _ _ _ _ _ _) _ _ _;unfold getattributeRaised;erw[X2 (VA z sub_AttributeError ?_)];simp only[if_true];unfold hookBehind onTheHeap;simp only[YZ,if_false];rw[W];erw[X2 (Xd ?_)];unfold hookOrError attributeErrorLeaves;simp only[Dq,if_true];erw[X2 (wpAny_throw ?_)];erw[X2 (VA z sub_AttributeError ?_)];simp only[if_true];erw[Xd (O y f x.keeps)]
def HZ:entryFor table "dict.update.loop"=wc Builtin.«dict.update.loop»:=entryFor_of_tree (by kernel_rfl)
def BY:plainId "dict.update.loop"=wf:=by decide+kernel
section
variable{prog:Xr}{w:Xm}{A:Xw}{E:X0->X1->Prop}{s:X1}{K:Type} [DecidableEq K] {knd:KeyKind prog w K}
noncomputable def stTo(j:Nat->K)(l:Nat->X0):Nat->List (K×X0)
 |0=>[]
 |i+1=>stored (stTo j l i) (j i) (l i)
def _dZ(j:List (K×X0))(k:K)(v:X0):(stored j k v).length<=j.length+1:=by
 unfold stored;split<;>simp
theorem DP(j:Nat->K)(l:Nat->X0):∀i,(stTo j l i).length<=i
 |0=>Xa _
 |i+1=>Xy (_dZ _ _ _) (Bl (DP j l i))
def _iQ{St:Nat->X1->Prop}
  (W:WalksS prog w A.in1 I fp wr G n P St)(D:Addr)(N:D∉fp)(O:Nat->K)(y:Nat->X0)(p:n<=sizeLine):
  ∀(k i:Nat)(s:X1),n - i=k->i<=n->St i s->s.heap.DictOf knd D (stTo O y i)->
   (∀j v,P j v->∃q g J L,v=.ref q/\q≠D/\q∉wr/\s.heap.get? q=wc L/\L.cls=.type "tuple"/\L.data=.seq #[g,y j] J/\knd.is (O j) g=wf)->
   (∀l,Moved (D::wr) G s l->l.heap.DictOf knd D (stTo O y n)->R (.ok (.ret .none)) l)->
   YY (X8 prog w) A (.builtin "dict.update.loop" ⟨[.ref D,.ref I,Yc (i:Nat),.none],[]⟩) R s:=by
 have T:D∉wr:=λh=>N (W.sub _ h);have u:∀b∈wr,b∈D::wr:=λb p=>XJ _ p;intro k
 induction k with
 |zero=>
  intro i s hk hi d hd M Q;have S:i=n:=by lia
  subst S;erw[Zh HZ ?_];rw[ZH BY _];show X4 _ A.in1 (pyNext (.ref I)>>= _) _ _ s;erw[X2 (W.done s _ _ d λl c=>?_)];erw[X2 (m:=Builtin.Dict.addKeywords D []) (Xd ?_)];erw[Xd (Q l (c.mono u) ?_)];have⟨o,X,H,x,r⟩:=hd;erw[⟨o,X,H,c.heap D _ T x,r⟩]
 |succ k ih=>
  intro i s hk hi d hd M Q;have U:i<n:=by lia
  erw[Zh HZ ?_];rw[ZH BY _];show X4 _ A.in1 (pyNext (.ref I)>>= _) _ _ s;erw[X2 (W.item i s _ _ U d λv l hP Y c=>?_)];have⟨q,g,J,L,rfl,hqD,a,hq,hqc,hqd,Z⟩:=M i v hP;have B:=c.heap q _ a hq;have hd':l.heap.DictOf knd D (stTo O y i):=by
   have⟨o,X,H,x,r⟩:=hd;erw[⟨o,X,H,c.heap D _ T x,r⟩]
  have hT:l.TypeIs (.ref q) "tuple":=⟨_,B,hqc⟩;show X4 _ A.in1 (Zc [XC q] _ >>= _) _ _ l;erw[X2 (YO ?_)];erw[X2 (wpAny_tryCatch ?_)];unfold Builtin.Dict.pairItems;erw[X2 (V4 hT ?_)];have e2:(ZG "tuple"==ZG "tuple")=wf:=rfl;rw[e2,Bool.or_true,if_pos rfl];erw[X2 (wpAny_seqItems B hqd (Xd ?_))];show X4 _ A.in1 (Zc [g,y i] (dictSet D g (y i))) _ _ l;erw[YO ?_];have hl:=DP O y i;erw[wpAny_dictSet_pairs (knd:=knd) Z hd' (λh' hd2 f=>?_) (by lia)]
  erw[Xd ⟨ZR BY _,?_⟩];have:=ih (i+1) {l with heap:=h',toks:=l.toks+1} (by lia) U (W.frame _ l _ _ Y (YT _) λb p o e=>?_) hd2 (λj v hPj=>?_) λs'' C F=>?_
  .erw[this]
  .rw[f.2 b (λz:b=D=>N (by rw[<-z];erw[p]))];erw[e]
  .have⟨q,g,J,L,rfl,a1,a2,a3,a4⟩:=M j v hPj;erw[⟨q,g,J,L,rfl,a1,a2,(f.2 q a1).trans (c.heap q _ a2 a3),a4⟩]
  .erw[Q s'' (Moved.trans W.gtrans ((c.mono u).then_heap (YT _) λb o p e=>?_) C) F];rw[f.2 b (λz:b=D=>p (by rw[z];erw[Y3]))];erw[e]
def _gB{l:Addr}{items:Array X0}{L:Nat}{B:Array (Option X0)}{c:String}{C:Nat->K}{D:Nat->X0}{Q:X0->X1->Prop}(G:c="list"\/c="tuple")(I:A.handled=we)(x:s.heap.get? l=wc ⟨.type c,we,.seq items L,B⟩)(hn:items.size<=sizeLine)
  (ht:∀(j:Nat)v,items[j]?=wc v->∃q W J N,v=.ref q/\s.heap.get? q=wc N/\N.cls=.type "tuple"/\N.data=.seq #[W,D j] J/\knd.is (C j) W=wf)
  (h:∀O tk,O.DictOf knd s.heap.objs.size (stTo C D items.size)->(∀b o,b<s.heap.objs.size->s.heap.get? b=wc o->O.get? b=wc o)->Q (.ref s.heap.objs.size) {s with heap:=O,toks:=tk}):
  X4 (X8 prog w) A (call (.type "dict") [.ref l]) Q E s:=by
 erw[callType_codes (Q₁:=fun P d=>P=.ref s.heap.objs.size/\d={s with heap:=s.heap.push {cls:=.type "dict",data:=.dict #[]} }) F.kt_called_dict (F.kt_typeCall_dict_1 _) F.entry_dict_init (kt_code_dict_new _ ⟨rfl,rfl⟩) ?_];rintro P d ⟨rfl,rfl⟩;have u:(s.heap.push {cls:=.type "dict",data:=.dict #[]}).DictOf knd s.heap.objs.size []:=GA s.heap;have p:(s.heap.push {cls:=.type "dict",data:=.dict #[]}).get? l=wc ⟨.type c,we,.seq items L,B⟩:=Xt _ x;have hT:BN {s with heap:=s.heap.push {cls:=.type "dict",data:=.dict #[]} } (.ref l) c:=⟨_,p,rfl⟩;erw[⟨u.typeIs,F.args_dict_init_2 _ _,?_⟩];unfold Builtin.«dict.__init__»;erw[X2 ?_];unfold Builtin.Dict.selfAndRest;erw[X2 (wpAny_notOrdered_dict u.typeIs ?_)];show X4 _ _ (pure (s.heap.objs.size,[XC l])) _ _ _;erw[Xd ?_];show X4 _ _ (G7 "dict.__init__" s.heap.objs.size (.ref l) [] .none) _ _ _;unfold G7;erw[X2 (V4 hT ?_)];rw[if_pos (by rcases G with rfl|rfl<;>decide)]
 erw[X2 (_hS G (s:={s with heap:=s.heap.push {cls:=.type "dict",data:=.dict #[]} }) p (by simp[I]) fun y Y m=>?_)]
 simp only[Option.isNone_none,if_true];erw[X2 (wpAny_rule ?_)];have R:y.get? l=wc ⟨.type c,we,.seq items L,B⟩:=m _ _ p;have T:l<s.heap.objs.size:=Xu x;have z:s.heap.objs.size<y.objs.size:=by
  have⟨o,a,ep,M,_⟩:=u;erw[Xu (m _ _ M)]
 have f:l≠y.objs.size:=XG (Bn T z);obtain⟨S,St,k1,k2,k3⟩:∃(S:String) (St:Nat->Heap->Prop),(∀{Q:X0->X1->Prop} {E:X0->X1->Prop} {A:Xw},Q (.ref y.objs.size) {s with heap:=y.push {cls:=.type S,data:=.fields #[.ref l,.int 0 0]},toks:=Y}->X4 (X8 prog w) A (pyIter (.ref l)) Q E {s with heap:=y,toks:=Y})/\Walks prog w A.in1.in1 y.objs.size [y.objs.size,l] [y.objs.size] items.size (λi v=>items[i]?=wc v) St/\St 0 (y.push {cls:=.type S,data:=.fields #[.ref l,.int 0 0]}):=by
  rcases G with rfl|rfl
  .have g:y.IsList l items:=⟨_,R,rfl,L,rfl⟩;erw[⟨_,_,λq=>AT (s:={s with heap:=y,toks:=Y}) g q,Walks.list (by simp[I]) _ _ f items,⟨_,XT _ rfl,rfl,rfl⟩,g.push _⟩]
  .have g:y.IsTuple l items:=⟨_,R,rfl,L,rfl⟩;erw[⟨_,_,λq=>wpAny_pyIter_tuple (s:={s with heap:=y,toks:=Y}) g q,Walks.tuple (by simp[I]) _ _ f items,⟨_,XT _ rfl,rfl,rfl⟩,g.push _⟩]
 erw[X2 (k1 ?_)];erw[Xd ⟨ZR BY _,?_⟩];erw[_iQ (knd:=knd) (n:=items.size) k2.toS s.heap.objs.size ?_ C D hn items.size 0 _ rfl (Yg _) k3 ?_ ?_ ?_]
 .simp only[Xk,XN,or_false,not_or];erw[⟨XG z,Bm T⟩]
 .have⟨o,a,ep,M,r⟩:=u;erw[⟨o,a,ep,Xt _ (m _ _ M),r⟩]
 .intro j v hv;have⟨q,W,J,N,rfl,a1,a2⟩:=ht j v hv;have U:q<s.heap.objs.size:=Xu a1;erw[⟨q,W,J,N,rfl,XG U,?_,Xt _ (m _ _ (Xt _ a1)),a2⟩];simp only[Y1];erw[XG (Bn U z)]
 .intro s' Z hd;have⟨O,g',d',X,H⟩:=s';have eg:g'=s.gens:=Z.gens;have ed:d'=s.drawn:=Z.drawn;have eo:H=s.os:=Z.os;subst eg;subst ed;subst eo;erw[⟨rfl,h O X hd λb o hb e=>?_⟩];erw[Z.heap b o ?_ (Xt _ (m _ _ (Xt _ e)))];simp only[Xk,XN,or_false,not_or];erw[⟨XG hb,XG (Bn hb z)⟩]
end
def I0(H:Hp):List (Key×V)->List V->Prop:=Paired fun(p:Key×V) (v:V)=>∃q,v=.ref q/\H q=wc (.tup [kV p.1,p.2])
def W3(j:List (Key×V)):List (Key×V):=j.foldl (λc z=>putK c z.1 z.2) []
def Paired.at{α β:Type}{R:α->β->Prop}{xs:List α}{j:List β}(h:Paired R xs j):∀(i:Nat)(y:β),j[i]?=wc y->∃x,xs[i]?=wc x/\R x y:=by
 induction h with
 |nil=>erw[λ_ _ h=>nomatch h]
 |cons r _ l=>
  intro i y h;cases i with
  |zero=>cases h;erw[⟨_,rfl,r⟩]
  |succ i=>erw[l i y h]
section
variable{X:Cx}
def Ia(f:X.calm=wf):YG X (.type "dict") (fun xs H Q=>∃(a:Addr) (w:List (Key×V)) (g:List V),xs=[.ref a]/\(H a=wc (.lst g)\/H a=wc (.tup g))/\I0 H w g/\∀p,H p=we->Q (.ref p) (upd H p (.dK (W3 w)))):=by
 intro pq s σ H xs us Q I r h;have⟨a,w,g,rfl,U,F,q⟩:=h;have⟨u,rfl,ru⟩:=_Y r;cases ru;obtain⟨c,G,P,l,R,sl,L,T⟩:∃c,(c="list"\/c="tuple")/\g.length<=sizeLine/\∃(l:List X0) (R:Nat) (sl:Array (Option X0)),Vals g l/\s.heap.get? a=wc ⟨.type c,we,.seq l.toArray R,sl⟩:=by
  rcases U with U|U
  .have⟨P,l,R,L,T⟩:=(show ObjOk X.prog X.w H s.heap a (.lst g)from I.hok a _ U);erw[⟨_,.inl rfl,P,l,R,_,L,T⟩]
  .have⟨P,l,L,⟨⟨lc,ldc,ld,lsl⟩,T,J,R,M⟩,ol2,W,S⟩:=(show ObjOk X.prog X.w H s.heap a (.tup g)from I.hok a _ U);rw[T]at W;cases W;cases J;cases M;cases S;erw[⟨_,.inr rfl,P,l,R,_,L,T⟩]
 have hh:=I.ok.hd f;have Y:l.length=w.length:=by rw[<-L.length,F.length]
 have⟨x,Z⟩:=Classical.axiomOfChoice (α:=Nat) (β:=fun _=>X0) (r:=fun j B=>∀v,l.toArray[j]?=wc v->∃q N C d,v=.ref q/\s.heap.get? q=wc d/\d.cls=.type "tuple"/\d.data=.seq #[N,B] C/\∃p,w[j]?=wc p/\RelV (kV p.1) N/\RelV p.2 B) fun j=>by
  rw[D0];cases e:l[j]? with
  |none=>erw[⟨.none,λv A=>by cases A⟩]
  |some v=>
   have⟨y,hy,ry⟩:=Paired.at L j v e;have⟨p,m,q,rfl,hq⟩:=Paired.at F j y hy;cases ry;have⟨_,ts,rt,ht⟩:=(show ObjOk X.prog X.w H s.heap q (.tup [kV p.1,p.2])from I.hok q _ hq);have⟨N,B,rfl,D,E⟩:=WL rt;have⟨d,ho,G,n,hd⟩:=ht.1;erw[⟨B,λv A=>by cases A;erw[⟨q,N,n,d,rfl,ho,G,hd,p,m,D,E⟩]⟩]
 erw[_gB (knd:=YA X.prog X.w) (C:=λj=>(w.getD j (.inl 0,.non)).1) (D:=x) G hh T (by simpa [<-L.length]using P) (λj v A=>?_) λh' tk hd hk=>?_]
 .have⟨q,N,C,d,e1,e2,e3,e4,p,m,D,E⟩:=Z j v A;erw[⟨q,N,C,d,e1,e2,e3,e4,VY ?_⟩];rw[Y6,m];erw[D]
 have kv:∀i,i<=w.length->KV ((w.take i).foldl (λc z=>putK c z.1 z.2) []) (stTo (λj=>(w.getD j (.inl 0,.non)).1) x i):=by
  intro i
  induction i with
  |zero=>intro _;erw[.nil]
  |succ i ih=>
   intro hi;have hlt:i<l.length:=by lia
   have⟨q,N,C,d,e1,e2,e3,e4,p,m,D,E⟩:=Z i l[i] (by simp[hlt])
   rw[Z7,m,Option.toList_some,B5];show KV (putK _ p.1 p.2) (stored _ (w.getD i (.inl 0,.non)).1 _);have ek:(w.getD i (.inl 0,.non)).1=p.1:=by rw[Y6,m];rfl
   rw[ek];erw[(ih (by lia)).put p.1 E]
 have O:=kv w.length (Xa _);rw[Va]at O;have hsz:l.toArray.size=w.length:=by simp[Y]
 rw[hsz]at hd;have hpl:w.length<=sizeLine:=by rw[F.length];erw[P]
 have zl:(W3 w).length<=sizeLine:=by
  have:=O.length;have l2:=DP (λj=>(w.getD j (.inl 0,.non)).1) x w.length;unfold W3;lia
 erw[⟨.ref s.heap.objs.size,_,I.laid (a:=s.heap.objs.size) (o:=.dK (W3 w)) (t':=tk) (λb u e=>hk b u (Xu e) e) (Xa _) (DL zl (beq_eq_false_iff_ne.mpr (XW (XG I.big))) O hd),rfl,q _ (I.hok.fresh (Xa _))⟩]
def _ja:∀(bs:List Bool),((Xq bs.length).all λi=>bs.getD i wf)=bs.all id:=by
 intro bs;have e:(Xq bs.length).map (λi=>bs.getD i wf)=bs:=by
  erw[B8 (by simp) λi l j=>?_]
  simp[Wz,j]
 conv=>rhs;rw[<-e]
 rw[List.all_map]
 rfl
def _j8(l:X.calm=wf):YG X (.builtin "all") (fun f H Q=>∃(a:Addr) (bs:List Bool),f=[.ref a]/\SqL X.K H a (bs.map V.bl)/\Q (.bl (bs.all id)) H):=by
 intro Z s A H f B Q I r h;have⟨a,bs,rfl,O,q⟩:=h;have⟨u,rfl,m⟩:=_Y r;cases m;have⟨j,L,p,C⟩:=I.list O;have P:=I.ok.hd l;have w:j.length=bs.length:=by rw[<-L.length,X5]
 have g:∀(i:Nat)(v:X0),j.toArray[i]?=wc v->v=.bool (bs.getD i wf):=λi v R=>by
  have y:j[i]?=wc v:=by simpa using R
  have z:i<bs.length:=by rw[<-w];erw[(Xo.mp y).1]
  have⟨u,N,m⟩:=L.get (i:=i) (x:=V.bl bs[i]) (by simp[z])
  rw[y]at N;cases N;rw[show v=.bool bs[i]from m];simp[Wz,z]
 have d:a<s.heap.objs.size:=by have⟨o,n,e,_⟩:=p;erw[Xu e]
 erw[PySem.call_all_walk (AT p.isList ⟨_,_,_,_,_,_,λi=>bs.getD i wf,rfl,Walks.list (by simp[P]) _ a (XG d) j.toArray,⟨⟨_,XT _ rfl,rfl,rfl⟩,p.isList.push _⟩,?_,λD T U=>?_⟩)]
 .intro i v s Q E W Y;rw[g i v W];erw[ZO Y]
 .have c:j.toArray.size=bs.length:=by simp[w]
  rw[c,_ja];erw[⟨.bl _,H,I.kept (t':=T) λb o e=>?_,rfl,q⟩];erw[U b o (by simp only[Y1];erw[XG (Xu e)]) (Xt _ e)]
end
noncomputable def Its(x:Str):It:=⟨λi _=>i<x.cps.size,λi H v j=>j=H/\∃c,x.cps[i]?=wc c/\v=.str ⟨#[c]⟩,λi _=>x.cps.size<=i⟩
def _gK{K:X3}(l:Addr)(x:Str)(t:Tok):Turn P w K tg (Its x) [l] l (fun i h=>h.IsStrIter l "str_ascii_iterator" x t i)where
 mem:=by simp
 obj:=λi h st b u=>by
  have e:b=l:=by simpa using u
  subst e;have⟨o,e,c,d⟩:=st;erw[⟨o,e,λv z=>by rw[d]at z;cases z⟩]
 keep:=λi h m st k=>by
  have⟨o,e,c,d⟩:=st;erw[⟨o,k l (by simp) o e,c,d⟩]
 item:=by
  intro X f q r R i T s U H E I g st j;subst f q r;have j:i<x.cps.size:=j;have⟨f0,p,W,L,N,O⟩:=g l (by simp)
  erw[wpAny_pyNext_ascii_item st (c:=x.cps[i]) (by simp[j]) λm y Y=>?_]
  have Z:Inv X T U H {s with heap:=m,toks:=s.toks+1}:=I.turned (λb o u e=>(Y.2 b u).trans e) f0 p L N O;have⟨o,e,c,d⟩:=id y;erw[⟨_,rfl,VT (s:={s with heap:=m,toks:=s.toks+1}) e c d (by decide) ⟨.str ⟨#[x.cps[i]]⟩,H,Z,⟨_,rfl⟩,⟨rfl,_,by simp[j],rfl⟩,y,λb u=>(g b u).1⟩⟩]
 done:=by
  intro X f q r R i T s U H E I g st j;subst f q r;have j:x.cps.size<=i:=j;have⟨f0,p,W,L,N,O⟩:=g l (by simp)
  erw[wpAny_pyNext_ascii_end (I.ok.hd R) st (by simp[j]) λm A=>⟨rfl,I.turned (g:=s.toks) (λb o u e=>A b o u e) f0 p L N O⟩]
 self:=λ_ _ _ _ _ st h=>wpAny_pyIter_striter_ascii st h
def _gJ{K:X3}(l:Addr)(x:Str)(t:Tok):Turn P w K tg (Its x) [l] l (fun i h=>h.IsStrIter l "str_iterator" x t i)where
 mem:=by simp
 obj:=λi h st b u=>by
  have e:b=l:=by simpa using u
  subst e;have⟨o,e,c,d⟩:=st;erw[⟨o,e,λv z=>by rw[d]at z;cases z⟩]
 keep:=λi h m st k=>by
  have⟨o,e,c,d⟩:=st;erw[⟨o,k l (by simp) o e,c,d⟩]
 item:=by
  intro X f q r R i T s U H E I g st j;subst f q r;have j:i<x.cps.size:=j;have⟨f0,p,W,L,N,O⟩:=g l (by simp)
  erw[wpAny_pyNext_wide_item st (c:=x.cps[i]) (by simp[j]) λm y Y=>?_]
  have Z:Inv X T U H {s with heap:=m,toks:=s.toks+1}:=I.turned (λb o u e=>(Y.2 b u).trans e) f0 p L N O;have⟨o,e,c,d⟩:=id y;erw[⟨_,rfl,VT (s:={s with heap:=m,toks:=s.toks+1}) e c d (by decide) ⟨.str ⟨#[x.cps[i]]⟩,H,Z,⟨_,rfl⟩,⟨rfl,_,by simp[j],rfl⟩,y,λb u=>(g b u).1⟩⟩]
 done:=by
  intro X f q r R i T s U H E I g st j;subst f q r;have j:x.cps.size<=i:=j;have⟨f0,p,W,L,N,O⟩:=g l (by simp)
  erw[wpAny_pyNext_wide_end (I.ok.hd R) st (by simp[j]) λm A=>⟨rfl,I.turned (g:=s.toks) (λb o u e=>A b o u e) f0 p L N O⟩]
 self:=λ_ _ _ _ _ st h=>wpAny_pyIter_striter_wide st h
section
variable{X:Cx}{pq:List (Addr×Obj)}{σ:St}{H:Hp}{s:X1}
def _mj{t:Tok}(I:Inv X pq σ H s)(q:R (Its x) H):X4 (X8 X.prog X.w) X.A (pyIter (.str x t)) (PIE X pq σ tg R) E s:=by
 have j:∀b∈ [s.heap.objs.size],FpOk X pq H b:=λb u=>by
  have e:b=s.heap.objs.size:=by simpa using u
  subst e;erw[I.fpOk (Xa _) (I.hok.fresh (Xa _))]
 cases l:x.cps.all (·<128)
 .erw[wpAny_pyIter_wide l ⟨s.heap.objs.size,[s.heap.objs.size],_,_,H,rfl,I.kept (t':=s.toks) λb o e=>Xt _ e,_gJ _ x t,⟨_,XT _ rfl,rfl,rfl⟩,j,q⟩]
 .erw[wpAny_pyIter_ascii l ⟨s.heap.objs.size,[s.heap.objs.size],_,_,H,rfl,I.kept (t':=s.toks) λb o e=>Xt _ e,_gK _ x t,⟨_,XT _ rfl,rfl,rfl⟩,j,q⟩]
def Zrj(X:Cx)(w:TE):TI:=λσ H R=>w σ H λx j=>(∃a,x=.ref a/\((∃u,SqL X.K j a u/\R (Itl X.K a) j)\/(∃u,SqT X.K j a u/\R (Itt X.K a) j)\/∃l,j a=wc (.dK l)/\∀o,(∀y m,X.H₀ a≠wc (.frz y m))->R (Itd a o) (upd j a (.frz o (.dK l)))))\/
 ∃z,x=.str z/\R (Its z) j
def _mk{f l:Expr}{g:TE}(r:PE X l g):PI X f l (Zrj X g):=by
 intro pq s σ H R I h;erw[thn (r pq s σ H _ I h) λv u L=>?_];have⟨x,d,j,c,N⟩:=L;rcases N with⟨a,e,q⟩|⟨z,e,q⟩
 .subst e;cases c;rcases q with⟨O,w,q⟩|⟨O,w,q⟩|⟨P,w,q⟩
  .have⟨y,T,p,U⟩:=j.list w;erw[AT p.isList ?_];erw[⟨u.heap.objs.size,[u.heap.objs.size],_,_,d,rfl,j.kept (t':=u.toks) λb o e=>Xt _ e,Sj a _,⟨_,XT _ rfl,rfl,rfl⟩,λb m=>?_,q⟩];have e:b=u.heap.objs.size:=by simpa using m
   subst e;erw[j.fpOk (Xa _) (j.hok.fresh (Xa _))]
  .have⟨y,T,p,U⟩:=j.tuple w;erw[wpAny_pyIter_tuple (show u.heap.IsTuple a y.toArray from p) ?_];erw[⟨u.heap.objs.size,[u.heap.objs.size],_,_,d,rfl,j.kept (t':=u.toks) λb o e=>Xt _ e,Sl a _,⟨_,XT _ rfl,rfl,rfl⟩,λb m=>?_,q⟩];have e:b=u.heap.objs.size:=by simpa using m
   subst e;erw[j.fpOk (Xa _) (j.hok.fresh (Xa _))]
  .erw[_jV j w q]
 .subst e;have⟨t,rfl⟩:=c;erw[_mj j q]
def _eE(j:∀i,v≠.builtin i)(h:Q (.bool (v==.bool b)) s):X4 M A (Y8 .Is v (.bool b)) Q E s:=by
 cases v<;>first|erw[Xd h]|erw[absurd rfl (j _)]
def _aT(j:∀i,v≠.builtin i)(h:Q (.bool (!(v==.bool b))) s):X4 M A (Y8 .IsNot v (.bool b)) Q E s:=by
 cases v<;>first|erw[Xd h]|erw[absurd rfl (j _)]
def Ib(r:RelV x v):∀i,v≠.builtin i:=λi e=>by
 subst e;cases x<;>first|(cases r;done)|(have⟨t,e⟩:=r;cases e)
set_option tactic.hygienic true in
def Ic(r:RelV x v):decide (x=.bl b)=(v==UN b):=by
 cases x<;>first
  |(cases r;rename_i c;cases b<;>cases c<;>rfl)
  |(cases r;rfl)
  |(have⟨t,rfl⟩:=r;rfl)
def _mx:OpR X (Y8 .Is) (λx y H Q=>∃b,y=.bl b/\Q (.bl (decide (x=.bl b))) H):=by
 intro pq s σ H x y v u Q I j l h;have⟨b,rfl,q⟩:=h;cases l;erw[_eE (Ib j) (XH I q (Ic j))]
def _k4:OpR X (Y8 .IsNot) (λx y H Q=>∃b,y=.bl b/\Q (.bl (!decide (x=.bl b))) H):=by
 intro pq s σ H x y v u Q I j l h;have⟨b,rfl,q⟩:=h;cases l;erw[_aT (Ib j) (XH I q (by rw[Ic j]))]
def _gj{t:X0}(I:Inv X pq σ H s)(w:RelV x u)(ty:TyOf X.K H x t)(e:Ve X.K t c=wc b)(R:Ve X.K t d=wc b')
  (j:s.heap.get? tp=wc ⟨.type "tuple",dd,.seq [c,d].toArray n,sl⟩)(h:∀T,Q (.bool (b||b')) {s with toks:=T}):X4 (X8 X.prog X.w) A (call (.builtin "isinstance") [u,.ref tp]) Q E s:=by
 have m:Bh X.K t [c,d]=wc (b||b'):=by
  unfold Bh;rw[e];cases b with
  |true=>rfl
  |false=>
   show Bh X.K t [d]=wc b';unfold Bh;rw[R];cases b'<;>rfl
 cases ty with
 |non=>cases(show u=UM from w);erw[ZA PySem.W.kitx_none I.kIn YF j m (λz=>nomatch z) h]
 |bl y=>cases(show u=UN y from w);erw[ZA PySem.W.kitx_bool I.kIn YF j m (λz=>nomatch z) h]
 |int i=>have⟨t,q⟩:=(show∃t,u=VI i t from w);cases q;erw[ZA PySem.W.kitx_int I.kIn YF j m (λz=>nomatch z) h]
 |str y=>have⟨t,q⟩:=(show∃t,u=Z8 y t from w);cases q;erw[ZA PySem.W.kitx_str I.kIn YF j m (λz=>nomatch z) h]
 |flt y=>have⟨t,q⟩:=(show∃t,u=Bx y t from w);cases q;erw[ZA PySem.W.kitx_float I.kIn YF j m (λz=>nomatch z) h]
 | @lst a r l=>
  cases(show u=XC a from w);have⟨_,_,n,_,g⟩:=(show ObjOk X.prog X.w H s.heap a (.lst r)from I.hok a _ l);erw[ZA Bc I.kIn ⟨_,g,rfl⟩ j m (λz=>nomatch z) h]
 | @frz a U r l=>
  cases(show u=XC a from w);have⟨_,_,_,n,_,g⟩:=(show ObjOk X.prog X.w H s.heap a (.frz U (.lst r))from I.hok a _ l);erw[ZA Bc I.kIn ⟨_,g,rfl⟩ j m (λz=>nomatch z) h]
 | @tup a r l=>
  cases(show u=XC a from w);have⟨_,_,_,p⟩:=(show ObjOk X.prog X.w H s.heap a (.tup r)from I.hok a _ l);have⟨o,g,L,_⟩:=p.1;erw[ZA PySem.W.kitx_tuple I.kIn ⟨o,g,L⟩ j m (λz=>nomatch z) h]
 | @dK a f l=>
  cases(show u=XC a from w);have⟨_,_,F,_,p⟩:=(show ObjOk X.prog X.w H s.heap a (.dK f)from I.hok a _ l);have⟨o,W,Y,g,L,_⟩:=p;erw[ZA Bd I.kIn ⟨o,g,L.1⟩ j m (λz=>nomatch z) h]
 | @dT a f l=>
  cases(show u=XC a from w);have⟨_,_,r,_,o,W,Y,g,L,_⟩:=(show ObjOk X.prog X.w H s.heap a (.dT f)from I.hok a _ l);erw[ZA Bd I.kIn ⟨o,g,L.1⟩ j m (λz=>nomatch z) h]
 | @ins a C G fs l P Z B N D=>
  cases(show u=XC a from w);have⟨M,O,_⟩:=WM I.hok l;have⟨S,J,_⟩:=O.look;erw[ZA (PySem.W.kitx_own (P.get _) P.hd Z B N D) I.kIn J j m (λz=>nomatch z) h]
def _dN:YG X (.builtin "isinstance") (fun w H Q=>∃x a c d t b j,w=[x,.ref a]/\H a=wc (.tup [.ty c,.ty d])/\TyOf X.K H x t/\Ve X.K t (.type c)=wc b/\Ve X.K t (.type d)=wc j/\Q (.bl (b||j)) H):=by
 intro pq s σ H w Z Q I r h;have⟨x,a,c,d,t,b,j,rfl,m,ty,e,g,q⟩:=h;have⟨u,A,rfl,f,l⟩:=WL r;cases l;have⟨L,N,p,_⟩:=I.tuple (SqT.of (K:=X.K) m);have⟨⟨O,B,y,C⟩,P,z,n,hd⟩:=id p;simp only at z hd;subst z hd;cases N with
 |cons R T=>
  cases T with
  |cons U W=>
   cases W;cases R;cases U;erw[_gj I f ty e g P λY=>⟨.bl (b||j),H,I.tok Y,rfl,q⟩]
end
section
variable{X:Cx}
end
end L2
namespace L2
end L2
namespace L2
open PySem PySem.Spec PyProof.Rows
noncomputable def cutS(x:Str)(lo j:Option Int):Str:=⟨((x.cps.toList.drop (HT.sIx x.cps.toList.length 0 lo)).take (HT.sIx x.cps.toList.length x.cps.toList.length j - HT.sIx x.cps.toList.length 0 lo)).toArray⟩
section
variable{X:Cx}
end
theorem Ie:∀{l:List V} {u:List X0},l.length=u.length->(∀(j:Nat)x v,l[j]?=wc x->u[j]?=wc v->RelV x v)->Vals l u
 |[],[],_,_=>.nil
 |[],_::_,h,_=>by cases h
 |_::_,[],h,_=>by cases h
 |x::l,v::u,h,r=>.cons (r 0 x v rfl rfl) (Ie (by simpa using h) λj a b w y=>r (j+1) a b (by simpa using w) (by simpa using y))
def _eD(h:ItemsOf (λi v=>∃t,v=.int (0+i*1) t) acc n):Vals ((Xq n).map λi=>V.int (i:Nat)) acc.toList:=by
 erw[Ie (by rw[X5,UF,Yt];erw[h.1.symm]) λj x v l u=>?_]
 have⟨t,rfl⟩:=h.2 j v (by simpa using u)
 rw[Xe]at l;cases e:(Xq n)[j]? with
 |none=>rw[e]at l;cases l
 |some k=>
  rw[e]at l;have w:k=j:=by
   have:=Xo.mp e;have⟨_,z⟩:=this
   simpa using z.symm
  subst w;cases l;erw[⟨t,by rw[VL,Int.mul_one]⟩]
section
variable{X:Cx}{tg:Expr}
def _j5(j:X.calm=wf):WX X (.type "list") (.type "range") (fun x H Q=>∃n:Nat,x=.int n/\n<=1000000/\∀p,H p=we->Q (.ref p) (upd H p (.lst ((Xq n).map fun i=>V.int (i:Nat))))):=by
 intro N s O H x u Q I y h;have⟨n,rfl,z,q⟩:=h;have⟨t,rfl⟩:=y;erw[call_range_1 ?_];have m:((Xq n).map λi=>V.int (i:Nat)).length<=sizeLine:=by rw[X5,UF];erw[Xy z (by decide)]
 have g:=I.ok.hd j;erw[call_list_range (n:=n) g (IsRange.new ..) ?_ ?_ (by lia) λd c l f r e L=>?_]
 .erw[small_one (by decide) (by decide) (by lia) (by lia)]
 .rw[rangeSize_one];split<;>lia
 have w:=I.kept (h':=s.heap.push {cls:=.type "range",data:=.fields #[.int 0 s.toks,.int (n:Int) t,.int 1 (s.toks+1)]}) (t':=s.toks+1+1) fun b o e=>Xt _ e;erw[⟨.ref _,_,w.laid (t':=c) r (Xa _) (show ObjOk X.prog X.w _ d _ (.lst ((Xq n).map λi=>V.int (i:Nat)))from⟨m,l.toList,f,_eD L,by simpa using e⟩),rfl,q _ (w.hok.fresh (Xa _))⟩]
def _hz{x y:Str}{id T:String}{r:V->Hp->VK->Prop}{e:Expr}{t:TE}{p L l j:Pos}(P:WX X (.type id) (.type T) r)
  (R:Gl X x)(U:X.mg x=we)(W:YE x=wc (.type id))(m:Gl X y)(g:X.mg y=we)(d:YE y=wc (.type T))(Y:PE X e t)
  (Z:x≠"__name__")(c:(x==("__debug__":Str))=wg)(f:y≠"__name__")(w:(y==("__debug__":Str))=wg)
  (N:Xx [e] X.env=(wg,eval e X.env)::Xx [] X.env):
  PE X (.Call (.Name x p) [.Call (.Name y L) [e] [] j] [] l) (λz H Q=>t z H λv q=>r v q Q):=by
 intro O s z H Q I h;erw[UC (UP I R U W ?_ Z c)];erw[WH ?_ rfl rfl];show X4 _ _ (spliced ((wg,eval (.Call (.Name y L) [e] [] j) X.env)::Y5 l (Xx [] X.env))) _ _ s;erw[WI ?_];erw[UC (UP I m g d ?_ f w)];erw[WH ?_ N rfl];rw[N];show X4 _ _ (spliced ((wg,eval e X.env)::Y5 j (Xx [] X.env))) _ _ s;erw[WI (thn (Y O s z H _ I h) λu A B=>?_)];have⟨v,q,C,D,E⟩:=B;erw[WJ ?_];erw[thn (P O A z q v u Q C D E) λG J F=>WJ F]
noncomputable def len2(lo j:Int):Nat:=(Gr lo j 2).toNat
end
section
variable{prog:Xr}{w:Xm}{A:Xw}{R:Result->X1->Prop}{I:Addr}{fp wr:List Addr}{n:Nat}{P:Nat->X0->Prop}{St:Nat->Heap->Prop}
end
section
variable{prog:Xr}{w:Xm}{A:Xw}{E:X0->X1->Prop}{s:X1}
end
section
variable{X:Cx}{x k:Str}{p pos kp:Pos}{e e0:Expr}{te:TE}
end
end L2
namespace HT
open PySem PySem.Spec PyProof.Rows
section
variable{prog:Xr}{w:Xm}{A:Xw}{E:X0->X1->Prop}{s:X1}
def tup_whole{t:Addr}{items:Array X0}{lo:Option Int}(z:IsTup s.heap t items)(m:s.heap.IsSliceOf sl vl vu .none)(g:IsPart vl lo)(d:IsPart vu hi)
  (c:sIx items.size 0 lo=0)(f:sIx items.size items.size hi=items.size)(h:Q (.ref t) s):X4 (X8 prog w) A (getItem (.ref t) (.ref sl)) Q E s:=by
 have⟨os,l,u,q⟩:=id m;have y:s.TypeIs (.ref sl) "slice":=⟨os,l,u⟩;have j:=z.typeIs;unfold getItem
 try with_reducible erw[YO ?_]
 first|erw[X2 (Xd ?_)]|skip
 erw[X2 (wpAny_sequenceKey j (by decide) ?_)]
 erw[X2 (AQ (name:=VQ "__getitem__") j VN (Zg VN j entry_tuple_getitem ?_ (args_tuple_getitem _ _)))];show X4 _ _ (G0 (.ref t)>>= _) _ _ s;erw[X2 (tupleItemsOf_ z ?_)];erw[X2 (V4 y ?_)];rw[if_pos (by decide)]
 erw[X2 (Hf m g d ?_)];rw[c,f];show X4 _ _ (if(((0:Nat):Int)==0&&(1:Int)==1&&(items.size - 0)==items.size)=wf then _ else _) _ _ s;rw[if_pos (by simp)]
 erw[X2 ?_];show X4 _ _ (G2 (.ref t)) _ _ s;unfold G2;erw[X2 (V4 j (Xd ?_))];rw[if_pos (by decide)]
 erw[X2 (wpAny_rule (Xd ⟨_,rfl,Xd h⟩))]
end
end HT
namespace L2
open PySem PySem.Spec PyProof.Rows
section
variable{X:Cx}
def rSlW(K:X3):V->Option Int->Option Int->Hp->VK->Prop:=λx lo l H Q=>∃a j,x=.ref a/\SqT K H a j/\HT.sIx j.length 0 lo=0/\HT.sIx j.length j.length l=j.length/\Q (.ref a) H
def _lP:SlR X (rSlW X.K):=by
 intro p s e H x v L N lo O P Q I w y z m h;have⟨a,g,rfl,d,c,f,q⟩:=h;cases w;have⟨l,r,u,R⟩:=I.tuple d;have j:l.toArray.size=g.length:=by rw[XM];erw[r.length.symm]
 erw[⟨"tuple",_,VN.lookup,u.typeIs,?_⟩];erw[HT.tup_whole u y z m (by rw[j];erw[c]) (by rw[j];erw[f]) ⟨.ref a,H,I,rfl,q⟩]
end
noncomputable def st3{j:Type}(l:List j):List j:=(Xq ((l.length+2)/3)).filterMap λk=>l[3*k]?
section
variable{X:Cx}{e e3:Expr}{te:TE}{p2 pos:Pos}
end
section
variable{X:Cx}
end
def eqTV(l u:List V):Bool:=(Xq (min l.length u.length)).all (λj=>eqV (l.getD j .non) (u.getD j .non))&&l.length==u.length
section
variable{X:Cx}
end
open AutoSeq1 (wpAny_loadPart')
open MeetsSeq MeetsSeq2 MeetsSeq3 SeqRoads2
section
variable{A:Xw}{s:X1}{a b:Addr}
end
section
variable{X:Cx}
end
end L2
namespace L2
open PySem PySem.Spec PyProof.Rows
inductive Ty7 where|int|bool|str|list|tuple|dict|none
  deriving DecidableEq
noncomputable def Ty7.name:Ty7->String
 |.int=>"int"|.bool=>"bool"|.str=>"str"|.list=>"list"|.tuple=>"tuple"|.dict=>"dict"|.none=>"NoneType"
inductive MV where
 |non|bl (b:Bool)|int (i:Int)|str (x:Str)|tup (xs:List MV)|frl (xs:List MV)|ref (a:Addr)|ty (n:Ty7)
noncomputable def Ig:HO->Bool
 |.tup _=>wf
 |.frz _ (.lst _)=>wf
 |_=>wg
def Kp(H j:Hp):Prop:=∀a o,H a=wc o->Ig o=wf->j a=wc o
def Kp.refl(H:Hp):Kp H H:=λ_ _ h _=>h
def Kp.trans(a:Kp H H1)(b:Kp H1 H2):Kp H H2:=λc o h f=>b c o (a c o h f) f
def Kp.new{H:Hp}{p:Addr}(h:H p=we)(o:HO):Kp H (upd H p o):=λa u e _=>by rw[XE (Vl e h)];erw[e]
theorem Kp.upd{H:Hp}{p:Addr}{o:HO}(h:H p=wc o)(f:Ig o=wg)(j:HO):Kp H (upd H p j):=λa u e g=>by
 rw[XE (GD e h (by intro z;rw[z,f]at g;cases g))];erw[e]
def FrL(K:X3)(H:Hp)(a:Addr)(l:List V):Prop:=(∃o,H a=wc (.frz o (.lst l)))\/
 ∃(o:Obj) (j:Array X0) (n:Nat),K.lookup a=wc o/\o.cls=.type "list"/\o.dict=we/\o.data=.seq j n/\j.size<=sizeLine/\Vals l j.toList
def FrL.sq{K:X3}(h:FrL K H a vs):SqL K H a vs:=by
 rcases h with⟨o,h⟩|h
 .erw[.inl (.inr ⟨o,h⟩)]
 .erw[.inr h]
mutual
inductive RM (K:X3)(H:Hp):MV->V->Prop
 |non:RM K H .non .non
 |bl (b:Bool):RM K H (.bl b) (.bl b)
 |int (i:Int):RM K H (.int i) (.int i)
 |str (x:Str):RM K H (.str x) (.str x)
 |ref (a:Addr):RM K H (.ref a) (.ref a)
 |ty (n:Ty7):RM K H (.ty n) (.ty n.name)
 |tup {a:Addr} {xs:List MV} {vs:List V}:H a=some (.tup vs)->RMs K H xs vs->RM K H (.tup xs) (.ref a)
 |frl {a:Addr} {xs:List MV} {vs:List V}:FrL K H a vs->RMs K H xs vs->RM K H (.frl xs) (.ref a)
inductive RMs (K:X3)(H:Hp):List MV->List V->Prop
 |nil:RMs K H [] []
 |cons {x:MV} {v:V} {xs:List MV} {vs:List V}:RM K H x v->RMs K H xs vs->RMs K H (x::xs) (v::vs)
end
mutual
theorem RM.mono{K:X3}(k:Kp H H'):∀{m:MV} {v:V},RM K H m v->RM K H' m v
 |_,_,.non=>.non
 |_,_,.bl b=>.bl b
 |_,_,.int i=>.int i
 |_,_,.str x=>.str x
 |_,_,.ref a=>.ref a
 |_,_,.ty n=>.ty n
 |_,_,.tup h r=>.tup (k _ _ h rfl) (RMs.mono k r)
 |_,_,.frl h r=>.frl (by
   rcases h with⟨o,h⟩|h
   .erw[.inl ⟨o,k _ _ h rfl⟩]
   .erw[.inr h]) (RMs.mono k r)
theorem RMs.mono{K:X3}(k:Kp H H'):∀{m:List MV} {v:List V},RMs K H m v->RMs K H' m v
 |_,_,.nil=>.nil
 |_,_,.cons a b=>.cons (RM.mono k a) (RMs.mono k b)
end
def ZrI(K:X3)(H:Hp)(v:V):MV->Prop
 |.non=>v=.non
 |.bl b=>v=.bl b
 |.int i=>v=.int i
 |.str x=>v=.str x
 |.tup xs=>∃a j,v=.ref a/\H a=wc (.tup j)/\RMs K H xs j
 |.frl xs=>∃a j,v=.ref a/\FrL K H a j/\RMs K H xs j
 |.ref a=>v=.ref a
 |.ty n=>v=.ty n.name
def RM.inv{K:X3}{H:Hp}{m:MV}{v:V}(r:RM K H m v):ZrI K H v m:=by
 cases r with
 |tup h q=>erw[⟨_,_,rfl,h,q⟩]
 |frl h q=>erw[⟨_,_,rfl,h,q⟩]
 |_=>rfl
def Zq4(K:X3)(H:Hp)(j:List V):List MV->Prop
 |[]=>j=[]
 |x::xs=>∃v l,j=v::l/\RM K H x v/\RMs K H xs l
def RMs.inv{K:X3}{H:Hp}{m:List MV}{v:List V}(r:RMs K H m v):Zq4 K H v m:=by
 cases r with
 |nil=>rfl
 |cons a b=>erw[⟨_,_,rfl,a,b⟩]
theorem RMs.length{K:X3}{H:Hp}{m:List MV}{v:List V}(h:RMs K H m v):m.length=v.length:=by
 induction m generalizing v with
 |nil=>obtain rfl:=h.inv;rfl
 |cons x m j=>
  have⟨_,_,rfl,_,b⟩:=h.inv;rw[Yi,Yi,j b]
theorem RMs.get{K:X3}:∀{m:List MV} {v:List V} {i:Nat} {x:MV},RMs K H m v->m[i]?=wc x->∃u,v[i]?=wc u/\RM K H x u
 |_,_,_,_,.nil,e=>by simp at e
 |_,_,0,_,.cons r _,e=>by simp at e;subst e;erw[⟨_,rfl,r⟩]
 |_,_,i+1,x,.cons _ t,e=>by
  have⟨u,j,l⟩:=RMs.get (i:=i) (x:=x) t (by simpa using e)
  erw[⟨u,by simpa using j,l⟩]
theorem RMs.get'{K:X3}:∀{m:List MV} {v:List V} {i:Nat} {u:V},RMs K H m v->v[i]?=wc u->∃x,m[i]?=wc x/\RM K H x u
 |_,_,_,_,.nil,e=>by simp at e
 |_,_,0,_,.cons r _,e=>by simp at e;subst e;erw[⟨_,rfl,r⟩]
 |_,_,i+1,x,.cons _ t,e=>by
  have⟨u,j,l⟩:=RMs.get' (i:=i) (u:=x) t (by simpa using e)
  erw[⟨u,by simpa using j,l⟩]
def RMs.append{K:X3}{H:Hp}{m j:List MV}{v l:List V}(h:RMs K H m v)(s:RMs K H j l):RMs K H (m++j) (v++l):=by
 induction m generalizing v with
 |nil=>obtain rfl:=h.inv;erw[s]
 |cons x m u=>
  have⟨_,_,rfl,a,b⟩:=h.inv;erw[.cons a (u b)]
theorem RMs.take{K:X3}:∀{m:List MV} {v:List V} (n:Nat),RMs K H m v->RMs K H (m.take n) (v.take n)
 |_,_,0,_=>.nil
 |_,_,_+1,.nil=>.nil
 |_,_,n+1,.cons r t=>.cons r (t.take n)
theorem RMs.drop{K:X3}:∀{m:List MV} {v:List V} (n:Nat),RMs K H m v->RMs K H (m.drop n) (v.drop n)
 |_,_,0,r=>r
 |_,_,_+1,.nil=>.nil
 |_,_,n+1,.cons _ t=>t.drop n
theorem RMs.set{K:X3}(r:RM K H x u):∀{m:List MV} {v:List V} (i:Nat),RMs K H m v->RMs K H (m.set i x) (v.set i u)
 |_,_,_,.nil=>.nil
 |_,_,0,.cons _ t=>.cons r t
 |_,_,i+1,.cons q t=>.cons q (t.set r i)
theorem RMs.ints{K:X3}:∀j:List Int,RMs K H (j.map MV.int) (j.map V.int)
 |[]=>.nil
 |n::r=>.cons (.int n) (RMs.ints r)
def RMs.map_of{K:X3}{H:Hp}{u:Type}{f:u->MV}{g:u->V}(w:∀a v,RM K H (f a) v->v=g a):∀{l:List u} {j:List V},RMs K H (l.map f) j->j=l.map g:=by
 intro l
 induction l with
 |nil=>intro j h;cases h;rfl
 |cons n r y=>
  intro j h;have h:RMs K H (f n::r.map f) j:=h;cases h with
  |cons x t=>rw[y t,w _ _ x];rfl
inductive MO where
 |lst (xs:List MV)|dic (kvs:List (Key×MV))|ins (c:Str)(fs:List (Str×MV))
 |fdic (o:Obj)(kvs:List (Key×MV))
noncomputable abbrev MH:=Addr->Option MO
noncomputable def updM(M:MH)(a:Addr)(o:MO):MH:=λb=>if b=a then wc o else M b
def X9:updM M a o a=wc o:=by unfold updM;rw[if_pos rfl]
def X7(h:b≠a):updM M a o b=M b:=by unfold updM;rw[if_neg h]
def YI:updM (updM M a o) a u=updM M a u:=by funext b;unfold updM;split<;>rfl
inductive RKs {κ:Type} (K:X3)(H:Hp):List (κ×MV)->List (κ×V)->Prop
 |nil:RKs K H [] []
 |cons {k:κ} {x:MV} {v:V} {xs:List (κ×MV)} {vs:List (κ×V)}:RM K H x v->RKs K H xs vs->RKs K H ((k,x)::xs) ((k,v)::vs)
theorem RKs.mono{j:Type}{K:X3}{H l:Hp}(k:Kp H l){m:List (j×MV)}{v:List (j×V)}(h:RKs K H m v):RKs K l m v:=by
 induction h with
 |nil=>erw[.nil]
 |cons a _ u=>erw[.cons (a.mono k) u]
theorem RKs.length{j:Type}{K:X3}{H:Hp}{m:List (j×MV)}{v:List (j×V)}(h:RKs K H m v):m.length=v.length:=by
 induction h with
 |nil=>rfl
 |cons _ _ l=>rw[Yi,Yi,l]
section
variable{κ:Type} [DecidableEq κ]
noncomputable def valM(l:List (κ×MV))(k:κ):Option MV:=match l with
 |[]=>we
 |(j,v)::r=>if j=k then wc v else valM r k
noncomputable def putM(l:List (κ×MV))(k:κ)(v:MV):List (κ×MV):=match l with
 |[]=>[(k,v)]
 |(j,u)::r=>if j=k then(j,v)::r else(j,u)::putM r k v
end
def RO(K:X3)(H:Hp):MO->HO->Prop
 |.lst xs,.lst vs=>RMs K H xs vs
 |.dic kvs,.dK vs=>RKs K H kvs vs/\(kvs.map (·.1)).Nodup
 |.ins c fs,.ins C _ vs=>XD K Xp c=wc (wc (.ref C))/\RKs K H fs vs
 |.fdic o kvs,.frz o' (.dK vs)=>o=o'/\RKs K H kvs vs/\(kvs.map (·.1)).Nodup
 |_,_=>False
theorem RO.mono{K:X3}(k:Kp H H')(h:RO K H o u):RO K H' o u:=by
 cases o with
 |lst l=>cases u<;>first|erw[RMs.mono k h]|erw[h.elim]
 |dic j=>cases u<;>first|erw[⟨h.1.mono k,h.2⟩]|erw[h.elim]
 |ins c fs=>cases u<;>first|erw[⟨h.1,h.2.mono k⟩]|erw[h.elim]
 |fdic w j=>
  cases u with
  |frz y u=>cases u<;>first|erw[⟨h.1,h.2.1.mono k,h.2.2⟩]|erw[h.elim]
  |_=>erw[h.elim]
def RH(K:X3)(M:MH)(H:Hp):Prop:=∀a o,M a=wc o->∃u,H a=wc u/\RO K H o u
def RH.free{K:X3}(r:RH K M H)(h:H p=we):M p=we:=by
 cases e:M p with
 |none=>rfl
 |some o=>have⟨u,j,_⟩:=r p o e;rw[j]at h;cases h
theorem RH.lst{K:X3}(r:RH K M H)(h:M p=wc (.lst xs)):∃vs,H p=wc (.lst vs)/\RMs K H xs vs:=by
 have⟨u,l,j⟩:=r p _ h;cases u<;>try erw[j.elim]
 erw[⟨_,l,j⟩]
theorem RH.dic{K:X3}(r:RH K M H)(h:M p=wc (.dic xs)):∃vs,H p=wc (.dK vs)/\RKs K H xs vs/\(xs.map (·.1)).Nodup:=by
 have⟨u,l,j⟩:=r p _ h;cases u<;>try erw[j.elim]
 erw[⟨_,l,j.1,j.2⟩]
theorem RH.fdic{K:X3}(r:RH K M H)(h:M p=wc (.fdic o xs)):∃l,H p=wc (.frz o (.dK l))/\RKs K H xs l/\(xs.map (·.1)).Nodup:=by
 have⟨u,w,j⟩:=r p _ h;cases u with
 |frz m u=>
  cases u<;>try erw[j.elim]
  have⟨rfl,y,z⟩:=j;erw[⟨_,w,y,z⟩]
 |_=>erw[j.elim]
theorem RH.ins{K:X3}(r:RH K M H){fs:List (Str×MV)}(h:M p=wc (.ins c fs)):∃C l vs,H p=wc (.ins C l vs)/\XD K Xp c=wc (wc (.ref C))/\RKs K H fs vs:=by
 have⟨u,w,j⟩:=r p _ h;cases u<;>try erw[j.elim]
 erw[⟨_,_,_,w,j.1,j.2⟩]
def DQ{K:X3}{H:Hp}{f:Str}{m:List (Str×MV)}{v:List (Str×V)}(h:RKs K H m v):(valM m f=we/\v.lookup f=we)\/∃x u,valM m f=wc x/\v.lookup f=wc u/\RM K H x u:=by
 induction h with
 |nil=>erw[.inl ⟨rfl,rfl⟩]
 | @cons j x u _ _ r t this=>
  by_cases e:j=f
  .erw[.inr ⟨x,u,?_,?_,r⟩]
   .unfold valM;rw[if_pos e]
   .subst e;simp
  .have l:(f==j)=wg:=by simpa using λz=>e z.symm
   unfold valM;rw[if_neg e,Zy,l];erw[this]
def _mb{K:X3}{H:Hp}{f:Str}{x:MV}{u:V}(r:RM K H x u){m:List (Str×MV)}{v:List (Str×V)}(h:RKs K H m v):RKs K H (putM m f x) (putF f u v):=by
 induction h with
 |nil=>erw[.cons r .nil]
 | @cons j _ _ _ _ q t l=>
  unfold putM putF;by_cases e:j=f
  .rw[if_pos e,if_pos e];erw[.cons r t]
  .rw[if_neg e,if_neg e];erw[.cons q l]
def RH.put{K:X3}(r:RH K M H)(k:Kp H (upd H p u))(j:RO K (upd H p u) o u):RH K (updM M p o) (upd H p u):=by
 intro a l e;by_cases h:a=p
 .subst h;rw[X9]at e;cases e;erw[⟨u,_I,j⟩]
 .rw[X7 h]at e;have⟨v,w,y⟩:=r a l e;erw[⟨v,by rw[XE h];erw[w],y.mono k⟩]
def RH.kept{K:X3}{M:MH}{H:Hp}(r:RH K M H){p:Addr}(j:H p=we)(u:HO):RH K M (upd H p u):=by
 intro a w e;have⟨v,l,y⟩:=r a w e;erw[⟨v,by rw[XE (Vl l j)];erw[l],y.mono (Kp.new j u)⟩]
noncomputable abbrev Sm:=List (Option MV)
abbrev QM:=MV->MH->Prop
abbrev TEm:=Sm->MH->QM->Prop
abbrev TAm:=Sm->MH->(List MV->MH->Prop)->Prop
def RS(K:X3)(H:Hp)(j:Sm)(l:St):Prop:=j.length=l.length/\∀(i:Nat)(m:MV),j[i]?=wc (wc m)->∃v,l[i]?=wc (wc v)/\RM K H m v
theorem RS.mono{K:X3}(k:Kp H H')(h:RS K H σm σ):RS K H' σm σ:=⟨h.1,λi m e=>by
 have⟨v,j,r⟩:=h.2 i m e;erw[⟨v,j,r.mono k⟩]⟩
theorem RS.set{K:X3}(h:RS K H σm σ)(r:RM K H m v)(i:Nat):RS K H (σm.set i (wc m)) (σ.set i (wc v)):=by
 erw[⟨by simp[h.1],λj x e=>?_⟩]
 rw[V9]at e;by_cases hij:i=j
 .subst hij;rw[if_pos rfl]at e;split at e
  .cases e;erw[⟨v,by rw[V9,if_pos rfl,if_pos (by rw[<-h.1];assumption)],r⟩]
  .cases e
 .rw[if_neg hij]at e;have⟨u,l,w⟩:=h.2 j x e;erw[⟨u,by rw[V9,if_neg hij];erw[l],w⟩]
def Dn(K:X3)(H:Hp)(Q:VK):QM:=λm M=>∀v j,Kp H j->RM K j m v->RH K M j->Q v j
def Dn.on{K:X3}(k:Kp H H1)(h:Dn K H Q m M):Dn K H1 Q m M:=λv j l r u=>h v j (k.trans l) r u
def liE(K:X3)(t:TEm):TE:=λl H Q=>∃j M,RS K H j l/\RH K M H/\t j M (Dn K H Q)
def liA(K:X3)(t:TAm):TA:=λw H Q=>∃j M,RS K H j w/\RH K M H/\t j M (λy z=>∀u l,Kp H l->RMs K l y u->RH K z l->Q u l)
def MonE(t:TEm):Prop:=∀{j M} {Q l:QM},(∀m u,Q m u->l m u)->t j M Q->t j M l
def MonA(t:TAm):Prop:=∀{j M} {Q l:List MV->MH->Prop},(∀m u,Q m u->l m u)->t j M Q->t j M l
abbrev W1:=MV->MH->QM->Prop
abbrev W2:=MV->MV->MH->QM->Prop
abbrev WA:=List MV->MH->QM->Prop
def Mon1(w:W1):Prop:=∀{x M} {Q j:QM},(∀m l,Q m l->j m l)->w x M Q->w x M j
def Mon2(w:W2):Prop:=∀{x y M} {Q j:QM},(∀m l,Q m l->j m l)->w x y M Q->w x y M j
def MonW(w:WA):Prop:=∀{j M} {Q l:QM},(∀m u,Q m u->l m u)->w j M Q->w j M l
def li1(K:X3)(w:W1):V->Hp->VK->Prop:=λx H Q=>∃j M,RM K H j x/\RH K M H/\w j M (Dn K H Q)
def li2(K:X3)(w:W2):R2:=λx y H Q=>∃j l M,RM K H j x/\RM K H l y/\RH K M H/\w j l M (Dn K H Q)
def liW(K:X3)(w:WA):List V->Hp->VK->Prop:=λl H Q=>∃j M,RMs K H j l/\RH K M H/\w j M (Dn K H Q)
section
variable{K:X3}
def DR{z g:TEm}{w:W2}(p:MonE z)(e:MonE g)(L:Mon2 w){j:St}{H:Hp}{Q:VK}
  (h:liE K (λj M Q=>z j M λx M1=>g j M1 λy M2=>w x y M2 Q) j H Q):tOp (li2 K w) (liE K z) (liE K g) j H Q:=by
 have⟨l,M,f,N,h⟩:=h;erw[⟨l,M,f,N,p (λx M1 O=>?_) h⟩];intro v W q P d;erw[⟨l,M1,f.mono q,d,e (λy M2 R=>?_) O⟩];intro u Y r T c;erw[⟨x,y,M2,P.mono r,T,c,L (λm Z U=>U.on (q.trans r)) R⟩]
end
def PE.weak{t:TE}(h:PE X e t)(i:∀j H Q,t' j H Q->t j H Q):PE X e t':=λl s j H Q I q=>h l s j H Q I (i _ _ _ q)
def PT.weak{t:TT}(h:PT X e t)(i:∀j H Q,t' j H Q->t j H Q):PT X e t':=λl s j H Q I q=>h l s j H Q I (i _ _ _ q)
def PW.weak{t:TT}(h:PW X e t)(i:∀j H Q,t' j H Q->t j H Q):PW X e t':=λl u s j H Q I q=>h l u s j H Q I (i _ _ _ q)
def PA.weak{t:TA}(h:PA X e t)(i:∀j H Q,t' j H Q->t j H Q):PA X e t':=λl u s j H Q I q=>h l u s j H Q I (i _ _ _ q)
def PS.weak{t:TS}(h:PS X e t)(i:∀D j H,t' D j H->t D j H):PS X e t':=λl s j H D I q=>h l s j H D I (i _ _ _ q)
def PSs.weak{t:TS}(h:PSs X e t)(i:∀D j H,t' D j H->t D j H):PSs X e t':=λl s j H D I q=>h l s j H D I (i _ _ _ q)
def intsM(k:Int->Int->Prop)(x y:MV):Prop:=match x,y with
 |.int i,.int j=>k i j
 |_,_=>False
def intsM.of{k:Int->Int->Prop}{x y:MV}(h:intsM k x y):∃i j,x=.int i/\y=.int j/\k i j:=by
 unfold intsM at h;split at h
 .erw[⟨_,_,rfl,rfl,h⟩]
 .erw[h.elim]
def addM(x y:MV)(M:MH)(Q:QM):Prop:=match x,y with
 |.int i,.int j=>Q (.int (i+j)) M
 |.str i,.str j=>i.length+j.length<=sizeLine/\Q (.str (i++j)) M
 |.tup l,.tup u=>l≠ []/\l.length+u.length<=sizeLine/\Q (.tup (l++u)) M
 |.ref a,.ref b=>∃l u,M a=wc (.lst l)/\M b=wc (.lst u)/\l.length+u.length<=sizeLine/\∀p,M p=we->Q (.ref p) (updM M p (.lst (l++u)))
 |_,_=>False
def mulM(x y:MV)(M:MH)(Q:QM):Prop:=match x,y with
 |.int i,.int j=>CMul i j/\Q (.int (i*j)) M
 |.str z,.int i=>z.length<=16/\ -1000<=i/\i<=1000/\Q (.str (Txt.mul z i)) M
 |.tup l,.int k=>l≠ []/\1<=k/\l.length*k.toNat<=1000000/\Q (.tup (Xj k.toNat l).flatten) M
 |.ref a,.int k=>∃l,M a=wc (.lst l)/\ -(2^63)<=k/\k<2^63/\l.length*k.toNat<=sizeLine/\∀p,M p=we->Q (.ref p) (updM M p (.lst (Xj k.toNat l).flatten))
 |_,_=>False
def wBin(l:UA)(x y:MV)(M:MH)(Q:QM):Prop:=match l with
 |.Add=>addM x y M Q
 |.Mult=>mulM x y M Q
 |.Sub=>intsM (λi j=>Q (.int (i - j)) M) x y
 |.FloorDiv=>intsM (λi j=>WT i j/\Q (.int (i/j)) M) x y
 |.Mod=>intsM (λi j=>0<j/\Q (.int (i%j)) M) x y
 |.Pow=>intsM (λi j=>CPow i j/\Q (.int (i^j.toNat)) M) x y
 |.BitAnd=>intsM (λi j=>Q (.int (BL i j)) M) x y
 |.BitXor=>intsM (λi j=>Q (.int (BM i j)) M) x y
 |_=>False
def _mR:Mon2 addM:=by
 intro x y M Q c j h;unfold addM at h ⊢;split at h
 all_goals first
  |erw[j _ _ h]
  |erw[h.elim]
  |erw[⟨h.1,j _ _ h.2⟩]
  |erw[⟨h.1,h.2.1,j _ _ h.2.2⟩]
  |(have⟨g,l,d,u,w,z⟩:=h
    erw[⟨g,l,d,u,w,λp m=>j _ _ (z p m)⟩])
  |(have⟨l,u,w,z⟩:=h
    erw[⟨l,u,w,λp m=>j _ _ (z p m)⟩])
def _mP:Mon2 mulM:=by
 intro x y M Q c j h;unfold mulM at h ⊢;split at h
 all_goals first
  |erw[h.elim]
  |erw[⟨h.1,j _ _ h.2⟩]
  |erw[⟨h.1,h.2.1,h.2.2.1,j _ _ h.2.2.2⟩]
  |(have⟨l,u,w,z,m,g⟩:=h
    erw[⟨l,u,w,z,m,λp d=>j _ _ (g p d)⟩])
def Ih(u:UA):Mon2 (wBin u):=by
 intro x y M Q w l h;cases u
 all_goals first
  |erw[Ya h]
  |erw[_mR l h]
  |erw[_mP l h]
  |(have⟨i,j,rfl,rfl,h⟩:=intsM.of h
    erw[l _ _ h])
  |(have⟨i,j,rfl,rfl,h⟩:=intsM.of h
    erw[⟨h.1,l _ _ h.2⟩])
theorem RMs.rep{K:X3}(q:RMs K H xs vs):∀k:Nat,RMs K H (Xj k xs).flatten (Xj k vs).flatten
 |0=>.nil
 |k+1=>by
  rw[Zk,Zk,Zx,Zx];erw[q.append (q.rep k)]
section
variable{X:Cx}
set_option tactic.hygienic true in
def _mz:OpR X (Yk .Add) (li2 X.K addM):=by
 intro c s f H x y v u Q I q r h;have⟨A,B,M,e,L,j,h⟩:=h;unfold addM at h;split at h
 .obtain rfl:=e.inv;obtain rfl:=L.inv;erw[Sy c s f H _ _ v u Q I q r ⟨_,_,rfl,rfl,h _ _ (Kp.refl _) (.int _) j⟩]
 .obtain rfl:=e.inv;obtain rfl:=L.inv;erw[SV c s f H _ _ v u Q I q r ⟨_,_,rfl,rfl,h.1,h.2 _ _ (Kp.refl _) (.str _) j⟩]
 .rename_i U W
  have⟨_,_,rfl,N,l⟩:=e.inv
  rename_i a m
  cases L with
  |tup O w=>
   rename_i b g
   have⟨P,R,T⟩:=h;erw[TF c s f H _ _ v u Q I q r ⟨_,_,m,g,rfl,rfl,SqT.of N,SqT.of O,λz=>P ?_,by rw[<-l.length,<-w.length];erw[R],λz=>?_,λz p d=>?_⟩]
   .subst z;cases l;rfl
   .subst z;cases w;rw[YS]at T;erw[T _ _ (Kp.refl _) (.tup N l) j]
   .have k:=Kp.new d (.tup (m++g));erw[T _ _ k (.tup _I ((l.append w).mono k)) (j.kept d _)]
 .obtain rfl:=e.inv;obtain rfl:=L.inv;have⟨U,W,N,O,P,R⟩:=h;have⟨m,Y,l⟩:=j.lst N;have⟨g,Z,w⟩:=j.lst O;erw[_pc c s f H _ _ v u Q I q r ⟨_,_,m,g,rfl,rfl,Y,Z,by rw[<-l.length,<-w.length];erw[P],λp d=>?_⟩]
  have k:=Kp.new d (.lst (m++g));erw[R p (j.free d) _ _ k (.ref p) (j.put k ((l.append w).mono k))]
 .erw[h.elim]
set_option tactic.hygienic true in
def _mw:OpR X (Yk .Mult) (li2 X.K mulM):=by
 intro d s c H x y v u Q I f q h;have⟨Z,A,M,r,L,j,h⟩:=h;unfold mulM at h;split at h
 .obtain rfl:=r.inv;obtain rfl:=L.inv;erw[SA d s c H _ _ v u Q I f q ⟨_,_,rfl,rfl,h.1,h.2 _ _ (Kp.refl _) (.int _) j⟩]
 .obtain rfl:=r.inv;obtain rfl:=L.inv;erw[_mv d s c H _ _ v u Q I f q ⟨_,_,rfl,rfl,h.1,h.2.1,h.2.2.1,h.2.2.2 _ _ (Kp.refl _) (.str _) j⟩]
 .rename_i O k
  obtain rfl:=L.inv;have⟨_,_,rfl,N,l⟩:=r.inv
  rename_i a m
  have⟨P,R,T,U⟩:=h;erw[_mu d s c H _ _ v u Q I f q ⟨_,_,m,rfl,rfl,SqT.of N,λz=>P ?_,R,by rw[<-l.length];erw[T],λz=>?_,λz p g=>?_⟩]
  .subst z;cases l;rfl
  .subst z;have e:(Xj (1:Int).toNat O).flatten=O:=by simp
   rw[e]at U;erw[U _ _ (Kp.refl _) (.tup N l) j]
  .have w:=Kp.new g (.tup (Xj k.toNat m).flatten);erw[U _ _ w (.tup _I ((l.rep k.toNat).mono w)) (j.kept g _)]
 .rename_i a k
  obtain rfl:=r.inv;obtain rfl:=L.inv;have⟨O,N,W,P,R,T⟩:=h;have⟨m,Y,l⟩:=j.lst N;erw[_p7 d s c H _ _ v u Q I f q ⟨_,_,m,rfl,rfl,Y,W,P,by rw[<-l.length];erw[R],λp g=>?_⟩]
  have w:=Kp.new g (.lst (Xj k.toNat m).flatten);erw[T p (j.free g) _ _ w (.ref p) (j.put w ((l.rep k.toNat).mono w))]
 .erw[h.elim]
def _pd(r:UA):OpR X (Yk r) (li2 X.K (wBin r)):=by
 cases r with
 |Add=>erw[_mz]
 |Mult=>erw[_mw]
 |Sub=>
  intro l s w H x y v u Q I z m h;have⟨f,q,M,g,d,c,h⟩:=h;have⟨i,j,rfl,rfl,h⟩:=intsM.of h;obtain rfl:=g.inv;obtain rfl:=d.inv;erw[Sz l s w H _ _ v u Q I z m ⟨_,_,rfl,rfl,h _ _ (Kp.refl _) (.int _) c⟩]
 |FloorDiv=>
  intro l s w H x y v u Q I z m h;have⟨f,q,M,g,d,c,h⟩:=h;have⟨i,j,rfl,rfl,h⟩:=intsM.of h;obtain rfl:=g.inv;obtain rfl:=d.inv;erw[_k6 l s w H _ _ v u Q I z m ⟨_,_,rfl,rfl,h.1,h.2 _ _ (Kp.refl _) (.int _) c⟩]
 |Mod=>
  intro l s w H x y v u Q I z m h;have⟨f,q,M,g,d,c,h⟩:=h;have⟨i,j,rfl,rfl,h⟩:=intsM.of h;obtain rfl:=g.inv;obtain rfl:=d.inv;erw[SC l s w H _ _ v u Q I z m ⟨_,_,rfl,rfl,h.1,h.2 _ _ (Kp.refl _) (.int _) c⟩]
 |Pow=>
  intro l s w H x y v u Q I z m h;have⟨f,q,M,g,d,c,h⟩:=h;have⟨i,j,rfl,rfl,h⟩:=intsM.of h;obtain rfl:=g.inv;obtain rfl:=d.inv;erw[SD l s w H _ _ v u Q I z m ⟨_,_,rfl,rfl,h.1,h.2 _ _ (Kp.refl _) (.int _) c⟩]
 |BitAnd=>
  intro l s w H x y v u Q I z m h;have⟨f,q,M,g,d,c,h⟩:=h;have⟨i,j,rfl,rfl,h⟩:=intsM.of h;obtain rfl:=g.inv;obtain rfl:=d.inv;erw[SE l s w H _ _ v u Q I z m ⟨_,_,rfl,rfl,h _ _ (Kp.refl _) (.int _) c⟩]
 |BitXor=>
  intro l s w H x y v u Q I z m h;have⟨f,q,M,g,d,c,h⟩:=h;have⟨i,j,rfl,rfl,h⟩:=intsM.of h;obtain rfl:=g.inv;obtain rfl:=d.inv;erw[SF l s w H _ _ v u Q I z m ⟨_,_,rfl,rfl,h _ _ (Kp.refl _) (.int _) c⟩]
 |_=>
  intro l s w H x y v u Q I z m h;have⟨_,_,_,_,_,_,h⟩:=h;erw[Ya h]
end
mutual
inductive DM (M:MH):MV->PyData->Prop
 |non:DM M .non .none
 |bl (b:Bool):DM M (.bl b) (.bool b)
 |int (i:Int):DM M (.int i) (.int i)
 |str (x:Str):DM M (.str x) (.str x)
 |lst {a:Addr} {xs:List MV} {ds:List PyData}:M a=some (.lst xs)->DMs M xs ds->DM M (.ref a) (.list ds)
 |frl {xs:List MV} {ds:List PyData}:DMs M xs ds->DM M (.frl xs) (.list ds)
 |tup {xs:List MV} {ds:List PyData}:DMs M xs ds->DM M (.tup xs) (.tuple ds)
inductive DMs (M:MH):List MV->List PyData->Prop
 |nil:DMs M [] []
 |cons {x:MV} {xs:List MV} {d:PyData} {ds:List PyData}:DM M x d->DMs M xs ds->DMs M (x::xs) (d::ds)
end
noncomputable def eqS(x y:MV):Option Bool:=match x with
 |.int i=>(match y with|.int j=>wc (decide (i=j))|.non=>wc wg|.str _=>wc wg|_=>we)
 |.str i=>(match y with|.str j=>wc (decide (i=j))|.non=>wc wg|.int _=>wc wg|.bl _=>wc wg|_=>we)
 |.bl i=>(match y with|.bl j=>wc (decide (i=j))|.non=>wc wg|.str _=>wc wg|_=>we)
 |.non=>(match y with|.non=>wc wf|.int _=>wc wg|.bl _=>wc wg|.str _=>wc wg|_=>we)
 |_=>we
def Ii{K:X3}(h:eqS x y=wc b)(r:RM K H x u)(q:RM K H y v):scal u v=wf/\decide (u=v)=b:=by
 cases r
 all_goals first
  |erw[nomatch (show we=wc b from h)]
  |skip
 all_goals
  cases q
  all_goals first
   |erw[nomatch (show we=wc b from h)]
   |(obtain rfl:=Y2 (show wc wg=wc b from h);erw[⟨rfl,rfl⟩])
   |(obtain rfl:=Y2 (show wc wf=wc b from h);erw[⟨rfl,rfl⟩])
   |(obtain rfl:=Y2 h;erw[⟨rfl,decide_eq_decide.mpr ⟨V.int.inj,λe=>by rw[e]⟩⟩])
   |(obtain rfl:=Y2 h;erw[⟨rfl,decide_eq_decide.mpr ⟨V.str.inj,λe=>by rw[e]⟩⟩])
   |(obtain rfl:=Y2 h;erw[⟨rfl,decide_eq_decide.mpr ⟨V.bl.inj,λe=>by rw[e]⟩⟩])
inductive DHits (M:MH)(kb:List (Key×MV)):List (Key×MV)->Bool->Prop
 |nil:DHits M kb [] true
 |miss {k:Key} {v:MV} {r:List (Key×MV)}:valM kb k=none->DHits M kb ((k,v)::r) false
 |hit {k:Key} {v y:MV} {d e:PyData} {r:List (Key×MV)} {b:Bool}:valM kb k=some y->DM M v d->DM M y e->SeqAt.shaped d=true->SeqAt.shaped e=true->DHits M kb r b->DHits M kb ((k,v)::r) (PyData.eqv d e&&b)
def LstM(M:MH)(x:MV)(j:List MV):Prop:=x=.frl j\/∃a,x=.ref a/\M a=wc (.lst j)
noncomputable def Yb:MV->Bool
 |.non=>wf|.bl _=>wf|.int _=>wf|.str _=>wf|_=>wg
def Alike(M:MH):Nat->MV->MV->Prop
 |0,x,y=>Yb x=wf/\x=y
 |n+1,x,y=>(Yb x=wf/\x=y)\/(∃j l,x=.tup j/\y=.tup l/\j.length=l.length/\∀(i:Nat)u v,j[i]?=wc u->l[i]?=wc v->Alike M n u v)\/
  (∃j l,LstM M x j/\LstM M y l/\j.length=l.length/\∀(i:Nat)u v,j[i]?=wc u->l[i]?=wc v->Alike M n u v)\/
  ∃a b w z,x=.ref a/\y=.ref b/\M a=wc (.dic w)/\M b=wc (.dic z)/\w.length=z.length/\∀k u,(k,u)∈w->∃v,valM z k=wc v/\Alike M n u v
noncomputable def toV:MV->V
 |.non=>.non|.bl b=>.bl b|.int i=>.int i|.str x=>.str x|_=>.non
def wEqT(x y:MV)(k:Bool->Prop):Prop:=∃j l,x=.tup j/\y=.tup l/\j.all Yb=wf/\l.all Yb=wf/\k (eqTV (j.map toV) (l.map toV))
def wEq(x y:MV)(M:MH)(k:Bool->Prop):Prop:=match eqS x y with
 |wc b=>k b
 |we=>False\/(∃n≤60,Alike M n x y/\k wf)\/(∃a b j,x=.ref a/\y=.ref b/\M a=wc (.lst j)/\M b=wc (.lst [])/\k j.isEmpty)\/False\/False
def Uk{K:X3}(f:Yb m=wf)(r:RM K H m v):v=toV m/\ZZ v=wf:=by
 cases r<;>first|erw[⟨rfl,rfl⟩]|cases f
def W4{K:X3}{H:Hp}{m:List MV}{v:List V}(f:m.all Yb=wf)(h:RMs K H m v):v=m.map toV/\v.all ZZ=wf:=by
 induction m generalizing v with
 |nil=>obtain rfl:=h.inv;erw[⟨rfl,rfl⟩]
 |cons x m j=>
  have⟨_,_,rfl,r,t⟩:=h.inv;rw[Vd,XU]at f;have⟨e,g⟩:=Uk f.1 r;have⟨l,u⟩:=j f.2 t;subst e l;erw[⟨rfl,by rw[Vd,g,u];rfl⟩]
def keyM:MV->Option Key
 |.int i=>wc (.inl i)
 |.str x=>wc (.inr x)
 |_=>we
def WY{K:X3}{k:Key}(e:keyM m=wc k)(r:RM K H m v):v=kV k:=by
 cases r<;>cases e<;>rfl
def WZ{K:X3}{H:Hp}{k:Key}{m:List (Key×MV)}{v:List (Key×V)}(h:RKs K H m v):(valM m k=we/\valV v k=we)\/∃x u,valM m k=wc x/\valV v k=wc u/\RM K H x u:=by
 induction h with
 |nil=>erw[.inl ⟨rfl,rfl⟩]
 | @cons j x u _ _ r t this=>
  by_cases e:j=k
  .erw[.inr ⟨x,u,?_,BR (p:=(j,u)) e,r⟩];unfold valM;rw[if_pos e]
  .unfold valM;rw[if_neg e,BS (p:=(j,u)) e];erw[this]
def _oi{K:X3}{H:Hp}{k:Key}{m:List (Key×MV)}{v:List (Key×V)}(h:RKs K H m v):(v.any λj=>decide (j.1=k))=(m.any λj=>decide (j.1=k)):=by
 induction h with
 |nil=>rfl
 |cons _ _ l=>rw[ZU,ZU,l]
def _og{K:X3}{H:Hp}{k:Key}{x:MV}{u:V}(r:RM K H x u){m:List (Key×MV)}{v:List (Key×V)}(h:RKs K H m v):
  RKs K H (m.map λl=>if l.1=k then(l.1,x)else l) (v.map λl=>if l.1=k then(l.1,u)else l):=by
 induction h with
 |nil=>erw[.nil]
 | @cons j _ _ _ _ q t w=>
  rw[Xz,Xz];by_cases e:j=k
  .rw[if_pos e,if_pos e];erw[.cons r w]
  .rw[if_neg e,if_neg e];erw[.cons q w]
def _oh{j:Type}{K:X3}{H:Hp}{m l:List (j×MV)}{v u:List (j×V)}(h:RKs K H m v)(s:RKs K H l u):RKs K H (m++l) (v++u):=by
 induction h with
 |nil=>erw[s]
 |cons r _ w=>erw[.cons r w]
theorem Ij{l:Type} [DecidableEq l] {k:l}:∀{m:List (l×MV)},¬k∈m.map (·.1)->(m.map λu=>if u.1=k then(u.1,x)else u)=m
 |[],_=>rfl
 |(j,y)::r,h=>by
  rw[Xz,if_neg (λe=>h (by simp[show j=k from e])),Ij (λe=>h (by simp[e]))]
theorem Ik{u:Type} [DecidableEq u] {k:u}:∀{m:List (u×MV)},(m.map (·.1)).Nodup->putM m k x=if(m.any λl=>decide (l.1=k))=wf then m.map (λl=>if l.1=k then(l.1,x)else l)else m++[(k,x)]
 |[],_=>rfl
 |(j,y)::r,h=>by
  rw[Xz,Yf]at h;unfold putM;rw[ZU];by_cases e:j=k
  .subst e;rw[if_pos rfl,if_pos (by simp),Xz,if_pos rfl,Ij h.1]
  .rw[if_neg e,Ik h.2,show decide ((j,y).1=k)=wg from decide_eq_false e,Dr,Xz,if_neg (show¬(j,y).1=k from e)];split<;>rfl
theorem Il{l:Type} [DecidableEq l] {k:l}:∀(m:List (l×MV)),((putM m k x).map (·.1))=if k∈m.map (·.1)then m.map (·.1)else m.map (·.1)++[k]
 |[]=>rfl
 |(j,y)::r=>by
  unfold putM;by_cases e:j=k
  .subst e;simp
  .rw[if_neg e,Xz,Il r,Xz];have u:k≠j:=λz=>e z.symm;by_cases m:k∈r.map (·.1)
   .rw[if_pos m,if_pos (Xk.mpr (.inr m))]
   .rw[if_neg m,if_neg (λz=>(Xk.mp z).elim u m)];rfl
def Im{K:X3}{k:Key}(r:RM K H x u)(j:(m.map (·.1)).Nodup)(h:RKs K H m v):
  RKs K H (putM m k x) (putK v k u)/\((putM m k x).map (·.1)).Nodup:=by
 erw[⟨?_,?_⟩]
 .rw[Ik j];unfold putK;rw[_oi h];split
  .erw[_og r h]
  .erw[_oh h (.cons r .nil)]
 .rw[Il];split
  .erw[j]
  .erw[HB j (by assumption)]
def wIn(x y:MV)(M:MH)(k:Bool->Prop):Prop:=match y with
 |.tup j=>Yb x=wf/\j.all Yb=wf/\k (inV (toV x) (j.map toV))
 |.frl j=>Yb x=wf/\j.all Yb=wf/\k (inV (toV x) (j.map toV))
 |.ref a=>(∃j,M a=wc (.lst j)/\Yb x=wf/\j.all Yb=wf/\k (inV (toV x) (j.map toV)))\/∃l u,M a=wc (.dic l)/\keyM x=wc u/\k (valM l u).isSome
 |_=>False
noncomputable def ZJ:MV->Bool
 |.non=>wf|_=>wg
noncomputable def isBl(b:Bool):MV->Bool
 |.bl c=>decide (c=b)
 |_=>wg
def wCmp(l:CmpOp)(x y:MV)(M:MH)(Q:QM):Prop:=match l with
 |.Lt=>∃i j,x=.int i/\y=.int j/\Q (.bl (decide (i<j))) M
 |.LtE=>(∃i j,x=.int i/\y=.int j/\Q (.bl (decide (i<=j))) M)\/∃i j,x=.str i/\y=.str j/\Q (.bl (!decide (j.cps.toList<i.cps.toList))) M
 |.Gt=>∃i j,x=.int i/\y=.int j/\Q (.bl (decide (j<i))) M
 |.GtE=>∃i j,x=.int i/\y=.int j/\Q (.bl (decide (j<=i))) M
 |.Eq=>wEq x y M λb=>Q (.bl b) M
 |.NotEq=>wEq x y M λb=>Q (.bl (!b)) M
 |.In=>wIn x y M λb=>Q (.bl b) M
 |.NotIn=>wIn x y M λb=>Q (.bl (!b)) M
 |.Is=>(y=.non/\Q (.bl (ZJ x)) M)\/∃b,y=.bl b/\Q (.bl (isBl b x)) M
 |.IsNot=>(y=.non/\Q (.bl (!ZJ x)) M)\/∃b,y=.bl b/\Q (.bl (!isBl b x)) M
set_option tactic.hygienic true in
def Io{k:Bool->Prop}(j:∀b,k b->k' b)(h:wEq x y M k):wEq x y M k':=by
 unfold wEq at h ⊢;split
 .rename_i b e;rw[e]at h;erw[j _ h]
 .rename_i e;rw[e]at h;erw[h.imp id λh=>?_];rcases h with⟨n,l,u,w⟩|⟨a,b,z,l,u,w,m,g⟩|h|h
  .erw[.inl ⟨n,l,u,j _ w⟩]
  .erw[.inr (.inl ⟨a,b,z,l,u,w,m,j _ g⟩)]
  .erw[h.elim]
  .erw[h.elim]
def Ip{k:Bool->Prop}(j:∀b,k b->k' b)(h:wIn x y M k):wIn x y M k':=by
 unfold wIn at h ⊢;split at h
 .erw[⟨h.1,h.2.1,j _ h.2.2⟩]
 .erw[⟨h.1,h.2.1,j _ h.2.2⟩]
 .rcases h with⟨m,l,u,w,g⟩|⟨z,d,l,u,w⟩
  .erw[.inl ⟨m,l,u,w,j _ g⟩]
  .erw[.inr ⟨z,d,l,u,j _ w⟩]
 .erw[h.elim]
def W5(g:CmpOp):Mon2 (wCmp g):=by
 intro x y M Q m l h;cases g
 .erw[Io (k:=λb=>Q (.bl b) M) (k':=λb=>m (.bl b) M) (λb h=>l _ _ h) h]
 .erw[Io (k:=λb=>Q (.bl (!b)) M) (k':=λb=>m (.bl (!b)) M) (λb h=>l _ _ h) h]
 .have⟨i,j,u,w,z⟩:=h;erw[⟨i,j,u,w,l _ _ z⟩]
 .rcases h with⟨i,j,u,w,z⟩|⟨i,j,u,w,z⟩
  .erw[.inl ⟨i,j,u,w,l _ _ z⟩]
  .erw[.inr ⟨i,j,u,w,l _ _ z⟩]
 .have⟨i,j,u,w,z⟩:=h;erw[⟨i,j,u,w,l _ _ z⟩]
 .have⟨i,j,u,w,z⟩:=h;erw[⟨i,j,u,w,l _ _ z⟩]
 .rcases h with h|⟨b,e,h⟩
  .erw[.inl ⟨h.1,l _ _ h.2⟩]
  .erw[.inr ⟨b,e,l _ _ h⟩]
 .rcases h with h|⟨b,e,h⟩
  .erw[.inl ⟨h.1,l _ _ h.2⟩]
  .erw[.inr ⟨b,e,l _ _ h⟩]
 .erw[Ip (k:=λb=>Q (.bl b) M) (k':=λb=>m (.bl b) M) (λb h=>l _ _ h) h]
 .erw[Ip (k:=λb=>Q (.bl (!b)) M) (k':=λb=>m (.bl (!b)) M) (λb h=>l _ _ h) h]
section
variable{X:Cx}
set_option tactic.hygienic true in
def Iq{K:X3}(r:RM K H m v):decide (v=.bl b)=isBl b m:=by
 cases r<;>first|rfl|(rename_i c;cases b<;>cases c<;>rfl)
def Ir{K:X3}(r:RM K H m v):decide (v=.non)=ZJ m:=by cases r<;>rfl
def _ri{k:Key}(r:KV kvs vs)(h:valV kvs k=wc v):∃u,Z4 vs k=wc u/\RelV v u:=by
 have q:=r.val k;rw[h]at q;erw[RelO.some_of q]
theorem LstM.sq(j:RH X.K M H)(h:LstM M x xs)(r:RM X.K H x u):∃a vs,u=.ref a/\SqL X.K H a vs/\RMs X.K H xs vs:=by
 rcases h with rfl|⟨a,rfl,h⟩
 .have⟨_,_,rfl,l,w⟩:=r.inv;erw[⟨_,_,rfl,l.sq,w⟩]
 .obtain rfl:=r.inv;have⟨vs,e,q⟩:=j.lst h;erw[⟨a,vs,rfl,SqL.of e,q⟩]
def BZ{j:List V}{l:List X0}(r:Vals j l){i:Nat}{u:X0}(h:l[i]?=wc u):∃x,j[i]?=wc x/\RelV x u:=by
 induction r generalizing i with
 |nil=>cases h
 |cons q _ w=>
  cases i with
  |zero=>cases h;erw[⟨_,rfl,q⟩]
  |succ i=>erw[w (i:=i) h]
def _pu(r:KV kvs vs){k:Key}(h:(k,u)∈vs):∃x,(k,x)∈kvs/\RelV x u:=by
 induction r with
 |nil=>cases h
 | @cons p j _ _ q _ l=>
  have⟨w,y⟩:=p;have⟨d,c⟩:=j;rcases Xk.mp h with e|h
  .cases e;have z:w=k:=q.1;subst z;erw[⟨y,Y3,q.2⟩]
  .have⟨x,m,g⟩:=l h;erw[⟨x,XJ _ m,g⟩]
def _of{K:X3}{H:Hp}{k:Key}{v:V}{m:List (Key×MV)}{j:List (Key×V)}(q:RKs K H m j)(h:(k,v)∈j):∃x,(k,x)∈m/\RM K H x v:=by
 induction q with
 |nil=>cases h
 |cons r t l=>
  rcases Xk.mp h with e|h
  .cases e;erw[⟨_,Y3,r⟩]
  .have⟨x,m,q⟩:=l h;erw[⟨x,XJ _ m,q⟩]
set_option tactic.hygienic true in
def Alike.inn{pq:List (Addr×Obj)}{s:X1}{σ:St}{H:Hp}{M:MH}(I:Inv X pq σ H s)(C:RH X.K M H){n:Nat}{A:Xw}(c:A.units<cLine)
  (G:∀{x y:MV} {u v:V} {l w:X0},Alike M n x y->RM X.K H x u->RM X.K H y v->RelV u l->RelV v w->AliP X.prog X.w A.in1 s l w)
  {x y:MV} {u v:V} {l w:X0} (h:Alike M (n+1) x y)(J:RM X.K H x u)(Q:RM X.K H y v)(S:RelV u l)(o:RelV v w):
  (Yb x=wf/\x=y)\/∃a b,l=.ref a/\w=.ref b/\RcP X.prog X.w A s (.ref a) (.ref b)/\RnP X.prog X.w A s (.ref a) (.ref b):=by
 rw[Alike]at h;rcases h with h|⟨xs,ys,rfl,rfl,e,h⟩|⟨xs,ys,D,E,e,h⟩|⟨a,b,ka,kb,rfl,rfl,D,E,e,h⟩
 .erw[.inl h]
 .have⟨_,_,rfl,g1,q⟩:=J.inv;cases Q with
  |tup g2 r=>
   rename_i a vs b us
   obtain rfl:l=XC a:=S;obtain rfl:w=XC b:=o;have⟨m,L,N,_⟩:=I.tuple (SqT.of g1);have⟨g,O,P,_⟩:=I.tuple (SqT.of g2);have z:m.toArray.size=g.toArray.size:=by rw[XM,XM,<-L.length,<-O.length,<-q.length,<-r.length];erw[e]
   have d:∀p∈m.toArray.toList.zip g.toArray.toList,AliP X.prog X.w A.in1 s p.1 p.2:=by
    intro p hp;have⟨i,hi⟩:=List.mem_iff_getElem?.mp hp;rw[List.getElem?_zip_eq_some]at hi;have⟨x1,R,T⟩:=BZ L hi.1;have⟨x2,U,W⟩:=BZ O hi.2;have⟨Y,f,d3⟩:=q.get' R;have⟨F,Z,d4⟩:=r.get' U;erw[G (h i Y F f Z) d3 d4 T W]
   erw[.inr ⟨_,_,rfl,rfl,_ok N P z c d,_mF N P z c d⟩]
 .have⟨a,vs,rfl,g1,q⟩:=D.sq C J;have⟨b,us,rfl,g2,r⟩:=E.sq C Q;obtain rfl:l=XC a:=S;obtain rfl:w=XC b:=o;have⟨m,L,⟨o1,n1,N,P,_,t3⟩,_⟩:=I.list g1;have⟨g,O,⟨o2,n2,t4,t5,_,t6⟩,_⟩:=I.list g2;have z:m.toArray.size=g.toArray.size:=by rw[XM,XM,<-L.length,<-O.length,<-q.length,<-r.length];erw[e]
  have d:∀j (D:j<m.toArray.size)(E:j<g.toArray.size),AliP X.prog X.w A.in1 s m.toArray[j] g.toArray[j]:=by
   intro i l1 l2;have⟨x1,R,T⟩:=BZ L (i:=i) (u:=m.toArray[i]) (by simp[X6 (show i<m.length by simpa using l1)])
   have⟨x2,U,W⟩:=BZ O (i:=i) (u:=g.toArray[i]) (by simp[X6 (show i<g.length by simpa using l2)])
   have⟨Y,f,d3⟩:=q.get' R;have⟨F,Z,d4⟩:=r.get' U;erw[G (h i Y F f Z) d3 d4 T W]
  erw[.inr ⟨_,_,rfl,rfl,_ol ⟨o1,N,P,n1,t3⟩ ⟨o2,t4,t5,n2,t6⟩ z c d,_mG ⟨o1,N,P,n1,t3⟩ ⟨o2,t4,t5,n2,t6⟩ z c d⟩]
 .obtain rfl:=J.inv;obtain rfl:=Q.inv;obtain rfl:l=XC a:=S;obtain rfl:w=XC b:=o;have⟨va,ea,wa,_⟩:=C.dic D;have⟨vb,eb,wb,_⟩:=C.dic E;have⟨_,na,ua,pa,da⟩:=DK I.hok ea;have⟨_,nb,ub,pb,db⟩:=DK I.hok eb;have z:ua.length=ub.length:=by rw[<-Paired.length pa,<-wa.length,<-Paired.length pb,<-wb.length];erw[e]
  have d:∀p∈ua,∃y,Z4 ub p.1=wc y/\AliP X.prog X.w A.in1 s p.2 y:=by
   rintro⟨k,u1⟩ hp;have⟨x1,R,T⟩:=_pu pa hp;have⟨Y,U,W⟩:=_of wa R;have⟨F,f,Z⟩:=h k Y U;rcases WZ (k:=k) wb with⟨B,z2⟩|⟨x',u2,B,z2,r3⟩
   .rw[f]at B;cases B
   .rw[f]at B;cases B;have⟨w',hw,rw'⟩:=_ri pb z2;erw[⟨w',hw,G Z W r3 T rw'⟩]
  erw[.inr ⟨_,_,rfl,rfl,_om na nb da db c z d,_mH na nb da db c z d⟩]
def Iu{K:X3}(f:Yb x=wf)(j:RM K H x u)(l:RM K H x v)(y:RelV u u')(z:RelV v v'):AliP P w A s u' v':=by
 have⟨rfl,m⟩:=Uk f j;have⟨rfl,g⟩:=Uk f l;have h:=Hl (A:=A) (s:=s) y z m g;have e:eqV (toV x) (toV x)=wf:=by cases x<;>first|(cases f;done)|rfl|erw[beq_self_eq_true _]
 rw[e]at h;erw[.of_at h]
theorem Alike.ok(I:Inv X pq σ H s)(d:RH X.K M H):∀(n:Nat){A:Xw} {x y:MV} {u v:V} {m g:X0},A.units+n<cLine->Alike M n x y->RM X.K H x u->RM X.K H y v->RelV u m->RelV v g->AliP X.prog X.w A s m g
 |0,A,x,y,u,v,m,g,hu,h,j,l,w,z=>by
  rw[Alike]at h;have⟨f,rfl⟩:=h;erw[Iu f j l w z]
 |n+1,A,x,y,u,v,m,g,hu,h,j,l,w,z=>by
  rcases Alike.inn I d (A:=A) (by lia) (λh j l w z=>Alike.ok I d n (show A.units+1+n<cLine by lia) h j l w z) h j l w z with⟨f,rfl⟩|⟨a,b,rfl,rfl,h,_⟩
  .erw[Iu f j l w z]
  .erw[.refs h]
def Alike.top(I:Inv X pq σ H s)(m:RH X.K M H)(h:Alike M n x y)(q:X.A.units+n<cLine)(d:eqS x y=we)(j:RM X.K H x u)(l:RM X.K H y v)(w:RelV u u')(z:RelV v v'):
  RcP X.prog X.w X.A s u' v'/\RnP X.prog X.w X.A s u' v':=by
 have g:¬(Yb x=wf/\x=y):=by
  rintro⟨f,rfl⟩;cases x<;>first|(cases f;done)|(cases d;done)
 cases n with
 |zero=>rw[Alike]at h;erw[(g h).elim]
 |succ n=>
  rcases Alike.inn I m (A:=X.A) (by lia) (λh j l w z=>Alike.ok I m n (show X.A.units+1+n<cLine by lia) h j l w z) h j l w z with f|⟨a,b,rfl,rfl,h,c⟩
  .erw[(g f).elim]
  .erw[⟨h,c⟩]
set_option tactic.hygienic true in
def W6(hu:X.A.units+70<cLine)(G:CmpOp):OpR X (Y8 G) (li2 X.K (wCmp G)):=by
 intro q s r H x y v u Q I w z h;have⟨E,F,M,m,g,L,h⟩:=h;have l:∀b,Dn X.K H Q (.bl b) M->Q (.bl b) H:=λb h=>h _ _ (Kp.refl _) (.bl b) L;have A:X.A.units+1<cLine:=by lia
 have hu64:X.A.units+64<cLine:=by lia
 have huI:X.A.in1.units+64<cLine:=by show X.A.units+1+64<cLine;lia
 have B:X.A.units<cLine:=by lia
 cases G with
 |Lt=>have⟨i,j,rfl,rfl,h⟩:=h;obtain rfl:=m.inv;obtain rfl:=g.inv;erw[SJ q s r H _ _ v u Q I w z ⟨_,_,rfl,rfl,l _ h⟩]
 |LtE=>
  rcases h with⟨i,j,rfl,rfl,h⟩|⟨i,j,rfl,rfl,h⟩
  .obtain rfl:=m.inv;obtain rfl:=g.inv;erw[SK q s r H _ _ v u Q I w z ⟨_,_,rfl,rfl,l _ h⟩]
  .obtain rfl:=m.inv;obtain rfl:=g.inv;have⟨t1,rfl⟩:=w;have⟨t2,rfl⟩:=z;erw[PySem.P.le_str ⟨.bl _,H,I,rfl,l _ h⟩]
 |Gt=>have⟨i,j,rfl,rfl,h⟩:=h;obtain rfl:=m.inv;obtain rfl:=g.inv;erw[SL q s r H _ _ v u Q I w z ⟨_,_,rfl,rfl,l _ h⟩]
 |GtE=>have⟨i,j,rfl,rfl,h⟩:=h;obtain rfl:=m.inv;obtain rfl:=g.inv;erw[SM q s r H _ _ v u Q I w z ⟨_,_,rfl,rfl,l _ h⟩]
 |Is=>
  rcases h with⟨rfl,h⟩|⟨b,rfl,h⟩
  .obtain rfl:=g.inv;erw[SN q s r H _ _ v u Q I w z ⟨rfl,by rw[Ir m];erw[l _ h]⟩]
  .obtain rfl:=g.inv;erw[_mx q s r H _ _ v u Q I w z ⟨b,rfl,by rw[Iq m];erw[l _ h]⟩]
 |IsNot=>
  rcases h with⟨rfl,h⟩|⟨b,rfl,h⟩
  .obtain rfl:=g.inv;erw[SO q s r H _ _ v u Q I w z ⟨rfl,by rw[Ir m];erw[l _ h]⟩]
  .obtain rfl:=g.inv;erw[_k4 q s r H _ _ v u Q I w z ⟨b,rfl,by rw[Iq m];erw[l _ h]⟩]
 |Eq=>
  have h:wEq E F M λb=>Dn X.K H Q (.bl b) M:=h;unfold wEq at h;split at h
  .rename_i b e
   have⟨d,c⟩:=Ii e m g;erw[SH q s r H _ _ v u Q I w z ⟨d,by rw[c];erw[l _ h]⟩]
  .rcases h with h|h
   .erw[h.elim]
   rcases h with⟨n,p,U,W⟩|⟨a,b,C,rfl,rfl,W,J,S⟩|h|h
   .erw[(U.top I L (by lia) (by assumption) m g w z).1 _ _ ⟨.bl wf,H,I,rfl,l _ W⟩]
   .obtain rfl:=m.inv;obtain rfl:=g.inv;have⟨T,d,f⟩:=L.lst W;have⟨us,c,o⟩:=L.lst J;obtain rfl:=o.inv;erw[_k7 B q s r H _ _ v u Q I w z ⟨_,_,T,rfl,rfl,SqL.of d,SqL.of c,?_⟩];have:T.isEmpty=C.isEmpty:=by cases f<;>rfl
    rw[this];erw[l _ S]
   .erw[h.elim]
   .erw[h.elim]
 |NotEq=>
  have h:wEq E F M λb=>Dn X.K H Q (.bl (!b)) M:=h;unfold wEq at h;split at h
  .rename_i b e
   have⟨d,c⟩:=Ii e m g;erw[SI q s r H _ _ v u Q I w z ⟨d,by rw[c];erw[l _ h]⟩]
  .rcases h with h|h
   .erw[h.elim]
   rcases h with⟨n,p,U,W⟩|⟨a,b,C,rfl,rfl,W,J,S⟩|h|h
   .erw[(U.top I L (by lia) (by assumption) m g w z).2 _ _ ⟨.bl wg,H,I,rfl,l _ W⟩]
   .obtain rfl:=m.inv;obtain rfl:=g.inv;have⟨T,d,f⟩:=L.lst W;have⟨us,c,o⟩:=L.lst J;obtain rfl:=o.inv;erw[_k5 B q s r H _ _ v u Q I w z ⟨_,_,T,rfl,rfl,SqL.of d,SqL.of c,?_⟩];have:T.isEmpty=C.isEmpty:=by cases f<;>rfl
    rw[this];erw[l _ S]
   .erw[h.elim]
   .erw[h.elim]
 |In=>
  have h:wIn E F M λb=>Dn X.K H Q (.bl b) M:=h;unfold wIn at h;split at h
  .have⟨_,_,rfl,p,f⟩:=g.inv;have⟨N,O,h⟩:=h;have⟨d,P⟩:=Uk N m;have⟨c,R⟩:=W4 O f;erw[DG q s r H _ _ v u Q I w z ⟨_,_,rfl,.inr (SqT.of p),P,R,by rw[d,c];erw[l _ h]⟩]
  .have⟨_,_,rfl,p,f⟩:=g.inv;have⟨N,O,h⟩:=h;have⟨d,P⟩:=Uk N m;have⟨c,R⟩:=W4 O f;erw[DG q s r H _ _ v u Q I w z ⟨_,_,rfl,.inl p.sq,P,R,by rw[d,c];erw[l _ h]⟩]
  .obtain rfl:=g.inv;rcases h with⟨C,p,N,O,h⟩|⟨kvs,D,p,U,h⟩
   .have⟨T,e,f⟩:=L.lst p;have⟨d,P⟩:=Uk N m;have⟨c,R⟩:=W4 O f;erw[DG q s r H _ _ v u Q I w z ⟨_,_,rfl,.inl (SqL.of e),P,R,by rw[d,c];erw[l _ h]⟩]
   .have⟨T,e,f,_⟩:=L.dic p;have:=WY U m;subst this;obtain rfl:u=XC _:=z;erw[d_in A I (DGet.k (k:=D) e) w λs3 I3=>⟨.bl _,H,I3,rfl,?_⟩];rcases WZ (k:=D) f with⟨Y,Z⟩|⟨x',u',Y,Z,_⟩
    .rw[Z];rw[Y]at h;erw[l _ h]
    .rw[Z];rw[Y]at h;erw[l _ h]
  .erw[h.elim]
 |NotIn=>
  have h:wIn E F M λb=>Dn X.K H Q (.bl (!b)) M:=h;unfold wIn at h;split at h
  .have⟨_,_,rfl,p,f⟩:=g.inv;have⟨N,O,h⟩:=h;have⟨d,P⟩:=Uk N m;have⟨c,R⟩:=W4 O f;erw[DH q s r H _ _ v u Q I w z ⟨_,_,rfl,.inr (SqT.of p),P,R,by rw[d,c];erw[l _ h]⟩]
  .have⟨_,_,rfl,p,f⟩:=g.inv;have⟨N,O,h⟩:=h;have⟨d,P⟩:=Uk N m;have⟨c,R⟩:=W4 O f;erw[DH q s r H _ _ v u Q I w z ⟨_,_,rfl,.inl p.sq,P,R,by rw[d,c];erw[l _ h]⟩]
  .obtain rfl:=g.inv;rcases h with⟨C,p,N,O,h⟩|⟨kvs,D,p,U,h⟩
   .have⟨T,e,f⟩:=L.lst p;have⟨d,P⟩:=Uk N m;have⟨c,R⟩:=W4 O f;erw[DH q s r H _ _ v u Q I w z ⟨_,_,rfl,.inl (SqL.of e),P,R,by rw[d,c];erw[l _ h]⟩]
   .have⟨T,e,f,_⟩:=L.dic p;have:=WY U m;subst this;obtain rfl:u=XC _:=z;erw[_nu A I (DGet.k (k:=D) e) w λs3 I3=>⟨.bl _,H,I3,rfl,?_⟩];rcases WZ (k:=D) f with⟨Y,Z⟩|⟨x',u',Y,Z,_⟩
    .rw[Z];rw[Y]at h;erw[l _ h]
    .rw[Z];rw[Y]at h;erw[l _ h]
  .erw[h.elim]
end
def wIx(x y:MV)(M:MH)(Q:QM):Prop:=match x with
 |.tup l=>∃i v,y=.int i/\atI l i=wc v/\Q v M
 |.frl l=>∃i v,y=.int i/\atI l i=wc v/\Q v M
 |.str z=>∃i c,y=.int i/\z.length<=sizeLine/\atI z.cps.toList i=wc c/\Q (.str ⟨#[c]⟩) M
 |.ref a=>(∃l i v,M a=wc (.lst l)/\y=.int i/\atI l i=wc v/\Q v M)\/(∃j u v,M a=wc (.dic j)/\keyM y=wc u/\valM j u=wc v/\Q v M)\/∃o j u v,M a=wc (.fdic o j)/\keyM y=wc u/\valM j u=wc v/\Q v M
 |_=>False
def Iv:Mon2 wIx:=by
 intro x y M Q c m h;unfold wIx at h ⊢;split at h
 .have⟨i,v,j,l,u⟩:=h;erw[⟨i,v,j,l,m _ _ u⟩]
 .have⟨i,v,j,l,u⟩:=h;erw[⟨i,v,j,l,m _ _ u⟩]
 .have⟨i,v,j,l,u,w⟩:=h;erw[⟨i,v,j,l,u,m _ _ w⟩]
 .rcases h with⟨d,i,v,j,l,u,w⟩|⟨z,g,v,j,l,u,w⟩|⟨o,z,g,v,j,l,u,w⟩
  .erw[.inl ⟨d,i,v,j,l,u,m _ _ w⟩]
  .erw[.inr (.inl ⟨z,g,v,j,l,u,m _ _ w⟩)]
  .erw[.inr (.inr ⟨o,z,g,v,j,l,u,m _ _ w⟩)]
 .erw[h.elim]
theorem RMs.atI{K:X3}(r:RMs K H m v)(e:atI m i=wc x):∃u,atI v i=wc u/\RM K H x u:=by
 unfold L2.atI at e ⊢;rw[<-r.length];cases q:ixN m.length i with
 |none=>rw[q]at e;cases e
 |some j=>rw[q]at e;erw[r.get e]
section
variable{X:Cx}
def Iw(z:X.A.units+1<cLine):IxR X (λx y H Q=>∃a v,x=.ref a/\DGet H a y (wc v)/\Q v H):=by
 intro j l p s e H x y v u Q I m d h c;have⟨a,f,rfl,g,q⟩:=h;obtain rfl:v=XC a:=m;erw[tail_any (_eL I g) PySem.F.slot_dict_getitem.lookup (_iW z I g d λL N r w=>⟨f,H,r,w,q⟩) c]
def _pD(F:X.A.units+1<cLine):IxR X (li2 X.K wIx):=by
 intro j l O s P H x y v u Q I R T h U;have⟨S,n,M,Z,W,z,h⟩:=h;unfold wIx at h;split at h
 .have⟨i,A,rfl,m,w⟩:=h;obtain rfl:=W.inv;have⟨_,_,rfl,d,f⟩:=Z.inv;have⟨q,e,r⟩:=f.atI m;erw[TK j l O s P H _ _ v u Q I R T ⟨_,_,_,q,rfl,rfl,SqT.of d,e,w _ _ (Kp.refl _) r z⟩ U]
 .have⟨i,A,rfl,m,w⟩:=h;obtain rfl:=W.inv;have⟨_,_,rfl,d,f⟩:=Z.inv;have⟨q,e,r⟩:=f.atI m;erw[Hj j l O s P H _ _ v u Q I R T ⟨_,_,_,q,rfl,rfl,d.sq,e,w _ _ (Kp.refl _) r z⟩ U]
 .have⟨i,c,rfl,m,w,p⟩:=h;obtain rfl:=Z.inv;obtain rfl:=W.inv;erw[TL j l O s P H _ _ v u Q I R T ⟨_,_,c,rfl,rfl,m,w,p _ _ (Kp.refl _) (.str _) z⟩ U]
 .obtain rfl:=Z.inv;rcases h with⟨b,i,A,d,rfl,w,p⟩|⟨C,L,A,d,m,w,p⟩|⟨o,C,L,A,d,m,w,p⟩
  .obtain rfl:=W.inv;have⟨B,e,f⟩:=z.lst d;have⟨q,G,r⟩:=f.atI w;erw[Hj j l O s P H _ _ v u Q I R T ⟨_,_,_,q,rfl,rfl,SqL.of e,G,p _ _ (Kp.refl _) r z⟩ U]
  .have⟨B,e,f,_⟩:=z.dic d;have D:=WY m W;rcases WZ (k:=L) f with⟨N,Y⟩|⟨J,q,N,Y,E⟩
   .rw[N]at w;cases w
   .rw[N]at w;cases w;have g:=DGet.k (k:=L) e;rw[Y]at g;subst D;erw[Iw F j l O s P H _ _ v u Q I R T ⟨_,q,rfl,g,p _ _ (Kp.refl _) E z⟩ U]
  .have⟨B,e,f,_⟩:=z.fdic d;have D:=WY m W;rcases WZ (k:=L) f with⟨N,Y⟩|⟨J,q,N,Y,E⟩
   .rw[N]at w;cases w
   .rw[N]at w;cases w;have g:DGet H _ (kV L) (valV B L):=.inl ⟨B,L,.inr ⟨o,e⟩,rfl,rfl⟩;rw[Y]at g;subst D;erw[Iw F j l O s P H _ _ v u Q I R T ⟨_,q,rfl,g,p _ _ (Kp.refl _) E z⟩ U]
 .erw[h.elim]
end
noncomputable def cutM(j:List MV)(lo l:Option Int):List MV:=(j.drop (HT.sIx j.length 0 lo)).take (HT.sIx j.length j.length l - HT.sIx j.length 0 lo)
def RMs.cut{K:X3}(r:RMs K H m v)(lo j:Option Int):RMs K H (cutM m lo j) (cutV v lo j):=by
 unfold cutM cutV;rw[<-r.length];erw[(r.drop _).take _]
abbrev WS:=MV->Option Int->Option Int->MH->QM->Prop
def wSl:WS:=λx lo l M Q=>match x with
 |.tup j=>Q (.tup (cutM j lo l)) M
 |.frl j=>∀p,M p=we->Q (.ref p) (updM M p (.lst (cutM j lo l)))
 |.ref a=>∃j,M a=wc (.lst j)/\∀p,M p=we->Q (.ref p) (updM M p (.lst (cutM j lo l)))
 |_=>False
def Ix{x:MV}{lo u:Option Int}{M:MH}{Q w:QM}(j:∀m y,Q m y->w m y)(h:wSl x lo u M Q):wSl x lo u M w:=by
 unfold wSl at h ⊢;split at h
 .erw[j _ _ h]
 .erw[λp l=>j _ _ (h p l)]
 .have⟨z,g,d⟩:=h;erw[⟨z,g,λp l=>j _ _ (d p l)⟩]
 .erw[h.elim]
def liS(K:X3)(w:WS):V->Option Int->Option Int->Hp->VK->Prop:=λx lo l H Q=>∃j M,RM K H j x/\RH K M H/\w j lo l M (Dn K H Q)
section
variable{X:Cx}
set_option tactic.hygienic true in
def _o6:SlR X (liS X.K wSl):=by
 intro g s d H x v c f lo j q Q I r L N O h;have⟨R,M,P,w,h⟩:=h;unfold wSl at h;split at h
 .rename_i z
  have⟨_,_,rfl,y,l⟩:=P.inv
  rename_i m
  by_cases hw:HT.sIx z.length 0 lo=0/\HT.sIx z.length z.length j=z.length
  .have e:cutM z lo j=z:=by unfold cutM;rw[hw.1,hw.2,De,Bo,Va]
   rw[e]at h;erw[_lP g s d H _ v c f lo j q Q I r L N O ⟨_,_,rfl,SqT.of y,by rw[<-l.length];erw[hw.1],by rw[<-l.length];erw[hw.2],?_⟩]
   erw[h _ _ (Kp.refl _) (.tup y l) w]
  erw[TC g s d H _ v c f lo j q Q I r L N O ⟨_,_,rfl,SqT.of y,by rw[<-l.length];erw[hw],λp u=>?_⟩]
  have k:=Kp.new u (.tup (cutV m lo j));erw[h _ _ k (.tup _I ((l.cut lo j).mono k)) (w.kept u _)]
 .have⟨_,_,rfl,y,l⟩:=P.inv
  rename_i m
  erw[Hk g s d H _ v c f lo j q Q I r L N O ⟨_,_,rfl,y.sq,λp u=>?_⟩];have k:=Kp.new u (.lst (cutV m lo j));erw[h p (w.free u) _ _ k (.ref p) (w.put k ((l.cut lo j).mono k))]
 .obtain rfl:=P.inv;have⟨T,y,h⟩:=h;have⟨m,e,l⟩:=w.lst y;erw[Hk g s d H _ v c f lo j q Q I r L N O ⟨_,_,rfl,SqL.of e,λp u=>?_⟩];have k:=Kp.new u (.lst (cutV m lo j));erw[h p (w.free u) _ _ k (.ref p) (w.put k ((l.cut lo j).mono k))]
 .erw[h.elim]
end
noncomputable def tyO:Option MO->Option Ty7
 |wc (.lst _)=>wc .list
 |wc (.dic _)=>wc .dict
 |_=>we
def tyM(M:MH):MV->Option Ty7
 |.non=>wc .none|.bl _=>wc .bool|.int _=>wc .int|.str _=>wc .str|.tup _=>wc .tuple
 |.ref a=>tyO (M a)
 |_=>we
noncomputable def isTy:Ty7->Ty7->Bool
 |.bool,.int=>wf
 |a,b=>decide (a=b)
def DS(K:X3)(T c:Ty7)(j:c≠.none):Ve K (.type T.name) (.type c.name)=wc (isTy T c):=by
 cases T<;>cases c<;>first|erw[absurd rfl j]|with_unfolding_all rfl
def Iy{K:X3}(j:RH K M H)(r:RM K H m v)(e:tyM M m=wc T):TyOf K H v (.type T.name):=by
 cases r with
 |non=>cases e;erw[.non]
 |bl b=>cases e;erw[.bl b]
 |int i=>cases e;erw[.int i]
 |str x=>cases e;erw[.str x]
 |tup h _=>cases e;erw[.tup h]
 |frl _ _=>cases e
 |ty _=>cases e
 |ref a=>
  have e:tyO (M a)=wc T:=e;cases q:M a with
  |none=>rw[q]at e;cases e
  |some o=>
   rw[q]at e;cases o with
   |lst w=>cases e;have⟨l,h,_⟩:=j.lst q;erw[.lst h]
   |dic u=>cases e;have⟨l,h,_⟩:=j.dic q;erw[.dK h]
   |ins _ _=>cases e
   |fdic _ _=>cases e
inductive BI where|len|isinst|max|min|sum|abs|int|list|tuple|dict|sorted|dictL|all
  deriving DecidableEq
def bLen(u:List MV)(M:MH)(Q:QM):Prop:=match u with
 |[.tup j]=>Q (.int j.length) M
 |[.frl j]=>Q (.int j.length) M
 |[.str z]=>z.length<=sizeLine/\Q (.int z.length) M
 |[.ref a]=>(∃j,M a=wc (.lst j)/\Q (.int j.length) M)\/∃l,M a=wc (.dic l)/\Q (.int l.length) M
 |_=>False
def bIsi(j:List MV)(M:MH)(Q:QM):Prop:=match j with
 |[x,.ty c]=>∃T,tyM M x=wc T/\c≠.none/\Q (.bl (isTy T c)) M
 |[x,.tup [.ty c,.ty d]]=>∃T,tyM M x=wc T/\c≠.none/\d≠.none/\Q (.bl (isTy T c||isTy T d)) M
 |_=>False
def bMax(l:List MV)(M:MH)(Q:QM):Prop:=match l with
 |[.int i,.int j]=>Q (.int (if j>i then j else i)) M
 |_=>False
def bMin(l:List MV)(M:MH)(Q:QM):Prop:=match l with
 |[.int i,.int j]=>Q (.int (if j<i then j else i)) M
 |_=>False
def bSum(l:List MV)(M:MH)(Q:QM):Prop:=match l with
 |[.ref a]=>∃j:List Int,M a=wc (.lst (j.map MV.int))/\Q (.int j.sum) M
 |_=>False
def bSrt(u:List MV)(M:MH)(Q:QM):Prop:=match u with
 |[.ref a]=>∃l:List Int,M a=wc (.lst (l.map MV.int))/\(l.length<64\/(l.Pairwise (·<=·)/\l.length<128))/\∀p (j:List Int),M p=we->j.Perm l->j.Pairwise (·<=·)->Q (.ref p) (updM M p (.lst (j.map MV.int)))
 |_=>False
def bAbs(j:List MV)(M:MH)(Q:QM):Prop:=match j with
 |[.int i]=>Q (.int (if i<0 then -i else i)) M
 |_=>False
def bInt(j:List MV)(M:MH)(Q:QM):Prop:=match j with
 |[.bl k]=>Q (.int (if k then 1 else 0)) M
 |_=>False
def bLst(l:List MV)(M:MH)(Q:QM):Prop:=match l with
 |[.tup j]=>∀p,M p=we->Q (.ref p) (updM M p (.lst j))
 |[.ref a]=>∃j,M a=wc (.lst j)/\∀p,M p=we->Q (.ref p) (updM M p (.lst j))
 |_=>False
def bTup(l:List MV)(M:MH)(Q:QM):Prop:=match l with
 |[.ref a]=>∃j,M a=wc (.lst j)/\Q (.tup j) M
 |_=>False
noncomputable def prM(p:Key×MV):MV:=.tup [match p.1 with|.inl i=>.int i|.inr x=>.str x,p.2]
def Ul(j:List (Key×MV)):List (Key×MV):=j.foldl (λc z=>putM c z.1 z.2) []
def bDic(u:List MV)(M:MH)(Q:QM):Prop:=match u with
 |[.ref a]=>∃j,M a=wc (.dic j)/\∀p,M p=we->Q (.ref p) (updM M p (.dic j))
 |[.tup xs]=>∃l:List (Key×MV),xs=l.map prM/\∀p,M p=we->Q (.ref p) (updM M p (.dic (Ul l)))
 |_=>False
def bDcl(l:List MV)(M:MH)(Q:QM):Prop:=match l with
 |[.ref a]=>∃j:List (Key×MV),M a=wc (.lst (j.map prM))/\∀p,M p=we->Q (.ref p) (updM M p (.dic (Ul j)))
 |_=>False
set_option tactic.hygienic true in
def IA{K:X3}:∀{w:List (Key×MV)} {l:List V},RMs K H (w.map prM) l->∃j:List (Key×V),I0 H j l/\RKs K H w j:=by
 intro w
 induction w with
 |nil=>intro l h;cases h;erw[⟨[],.nil,.nil⟩]
 |cons p r y=>
  have⟨k,x⟩:=p;intro l h;have h:RMs K H (prM (k,x)::r.map prM) l:=h;cases h with
  |cons a u=>
   have⟨j,z,m⟩:=y u;have⟨_,_,rfl,e,t⟩:=a.inv;cases t with
   |cons g d=>
    cases d with
    |cons c f=>
     cases f
     rename_i L q
     erw[⟨(k,q)::j,.cons ⟨_,rfl,?_⟩ z,.cons c m⟩];rw[e];cases k<;>cases g<;>rfl
def IB{K:X3}{H:Hp}:∀{l:List (Key×MV)} {j:List (Key×V)} {c:List (Key×MV)} {u:List (Key×V)},RKs K H l j->RKs K H c u->(c.map (·.1)).Nodup->
  RKs K H (l.foldl (λc z=>putM c z.1 z.2) c) (j.foldl (λc z=>putK c z.1 z.2) u)/\((l.foldl (λc z=>putM c z.1 z.2) c).map (·.1)).Nodup
 :=by
 intro l j c u q
 induction q generalizing c u with
 |nil=>erw[λh w=>⟨h,w⟩]
 |cons r _ y=>
  intro h w;have⟨a,b⟩:=Im r w h;erw[y a b]
def bAll(j:List MV)(M:MH)(Q:QM):Prop:=match j with
 |[.ref a]=>∃bs:List Bool,M a=wc (.lst (bs.map MV.bl))/\Q (.bl (bs.all id)) M
 |_=>False
def RMs.bls_of{K:X3}{H:Hp}{bs:List Bool}{j:List V}(h:RMs K H (bs.map MV.bl) j):j=bs.map V.bl:=h.map_of λ_ _ x=>by cases x;rfl
def wBi(f:BI)(j:List MV)(M:MH)(Q:QM):Prop:=match f with
 |.len=>bLen j M Q
 |.isinst=>bIsi j M Q
 |.max=>bMax j M Q
 |.min=>bMin j M Q
 |.sum=>False
 |.abs=>False
 |.int=>bInt j M Q
 |.list=>bLst j M Q
 |.tuple=>bTup j M Q
 |.dict=>bDic j M Q
 |.sorted=>False
 |.dictL=>bDcl j M Q
 |.all=>bAll j M Q
def _mQ:MonW bLen:=by
 intro y M Q z j h;unfold bLen at h ⊢;split at h
 .erw[j _ _ h]
 .erw[j _ _ h]
 .erw[⟨h.1,j _ _ h.2⟩]
 .rcases h with⟨l,u,w⟩|⟨l,u,w⟩
  .erw[.inl ⟨l,u,j _ _ w⟩]
  .erw[.inr ⟨l,u,j _ _ w⟩]
 .erw[h.elim]
def IC(f:BI):MonW (wBi f):=by
 intro j M Q y w h;cases f
 .erw[_mQ w h]
 .have h:bIsi j M Q:=h;show bIsi j M y;unfold bIsi at h ⊢;split at h
  .have⟨T,l,u,g⟩:=h;erw[⟨T,l,u,w _ _ g⟩]
  .have⟨T,l,u,g,d⟩:=h;erw[⟨T,l,u,g,w _ _ d⟩]
  .erw[h.elim]
 .have h:bMax j M Q:=h;show bMax j M y;unfold bMax at h ⊢;split at h
  .erw[w _ _ h]
  .erw[h.elim]
 .have h:bMin j M Q:=h;show bMin j M y;unfold bMin at h ⊢;split at h
  .erw[w _ _ h]
  .erw[h.elim]
 .erw[Ya h]
 .erw[Ya h]
 .have h:bInt j M Q:=h;show bInt j M y;unfold bInt at h ⊢;split at h
  .erw[w _ _ h]
  .erw[h.elim]
 .have h:bLst j M Q:=h;show bLst j M y;unfold bLst at h ⊢;split at h
  .erw[λp z=>w _ _ (h p z)]
  .have⟨m,l,u⟩:=h;erw[⟨m,l,λp z=>w _ _ (u p z)⟩]
  .erw[h.elim]
 .have h:bTup j M Q:=h;show bTup j M y;unfold bTup at h ⊢;split at h
  .have⟨m,l,u⟩:=h;erw[⟨m,l,w _ _ u⟩]
  .erw[h.elim]
 .have h:bDic j M Q:=h;show bDic j M y;unfold bDic at h ⊢;split at h
  .have⟨m,l,u⟩:=h;erw[⟨m,l,λp z=>w _ _ (u p z)⟩]
  .have⟨m,l,u⟩:=h;erw[⟨m,l,λp z=>w _ _ (u p z)⟩]
  .erw[h.elim]
 .erw[Ya h]
 .have h:bDcl j M Q:=h;show bDcl j M y;unfold bDcl at h ⊢;split at h
  .have⟨c,l,u⟩:=h;erw[⟨c,l,λp z=>w _ _ (u p z)⟩]
  .erw[h.elim]
 .have h:bAll j M Q:=h;show bAll j M y;unfold bAll at h ⊢;split at h
  .have⟨bs,l,u⟩:=h;erw[⟨bs,l,w _ _ u⟩]
  .erw[h.elim]
noncomputable def BI.val:BI->X0
 |.len=>.builtin "len"|.isinst=>.builtin "isinstance"|.max=>.builtin "max"|.min=>.builtin "min"|.sum=>.builtin "sum"|.abs=>.builtin "abs"
 |.int=>.type "int"|.list=>.type "list"|.tuple=>.type "tuple"|.dict=>.type "dict"|.sorted=>.builtin "sorted"|.dictL=>.type "dict"|.all=>.builtin "all"
section
variable{X:Cx}
def RMs.one{K:X3}(r:RMs K H [m] vs):∃v,vs=[v]/\RM K H m v:=by
 have⟨_,_,rfl,a,b⟩:=r.inv;cases b;erw[⟨_,rfl,a⟩]
def RMs.two{K:X3}(r:RMs K H [m,n] vs):∃v w,vs=[v,w]/\RM K H m v/\RM K H n w:=by
 have⟨_,_,rfl,a,b⟩:=r.inv;have⟨w,rfl,c⟩:=b.one;erw[⟨_,_,rfl,a,c⟩]
def _dO:YG X (.type "dict") (fun l H Q=>∃a j,l=[.ref a]/\H a=wc (.dK j)/\∀p,H p=we->Q (.ref p) (upd H p (.dK j))):=by
 intro g s d H l c Q I r h;have⟨a,j,rfl,w,q⟩:=h;have⟨u,rfl,y⟩:=_Y r;cases y;erw[_kz I (.inl w) λp f z m=>⟨.ref p,_,m,rfl,q p z⟩]
def _nx(P:X.calm=wf)(f:BI):YG X f.val (liW X.K (wBi f)):=by
 intro y s m H R g Q I r h;have⟨L,M,c,j,h⟩:=h;cases f with
 |len=>
  have h:bLen L M (Dn X.K H Q):=h;unfold bLen at h;split at h
  .have⟨v,rfl,a⟩:=c.one;have⟨_,_,rfl,l,u⟩:=a.inv;erw[DI y s m H _ g Q I r ⟨_,_,rfl,.inr (SqT.of l),by rw[<-u.length];erw[h _ _ (Kp.refl _) (.int _) j]⟩]
  .have⟨v,rfl,a⟩:=c.one;have⟨_,_,rfl,l,u⟩:=a.inv;erw[DI y s m H _ g Q I r ⟨_,_,rfl,.inl l.sq,by rw[<-u.length];erw[h _ _ (Kp.refl _) (.int _) j]⟩]
  .have⟨v,rfl,a⟩:=c.one;obtain rfl:=a.inv;erw[TV y s m H _ g Q I r ⟨_,rfl,h.1,h.2 _ _ (Kp.refl _) (.int _) j⟩]
  .have⟨v,rfl,a⟩:=c.one;obtain rfl:=a.inv;rcases h with⟨R,l,h⟩|⟨U,l,h⟩
   .have⟨N,e,u⟩:=j.lst l;erw[DI y s m H _ g Q I r ⟨_,_,rfl,.inl (SqL.of e),by rw[<-u.length];erw[h _ _ (Kp.refl _) (.int _) j]⟩]
   .have⟨N,e,u,_⟩:=j.dic l;erw[_j6 y s m H _ g Q I r ⟨_,_,rfl,e,by rw[<-u.length];erw[h _ _ (Kp.refl _) (.int _) j]⟩]
  .erw[h.elim]
 |isinst=>
  have h:bIsi L M (Dn X.K H Q):=h;unfold bIsi at h;split at h
  .have⟨v,w,rfl,a,b⟩:=c.two;obtain rfl:=b.inv;have⟨T,l,O,W⟩:=h;erw[_eN y s m H _ g Q I r ⟨_,_,_,_,rfl,Iy j a l,DS _ _ _ O,W _ _ (Kp.refl _) (.bl _) j⟩]
  .have⟨v,w,rfl,a,b⟩:=c.two;have⟨T,l,O,W,B⟩:=h;have⟨_,_,rfl,C,D⟩:=b.inv;cases D with
   |cons u E=>
    cases E with
    |cons F G=>
     cases G;cases u;cases F;erw[_dN y s m H _ g Q I r ⟨_,_,_,_,_,_,_,rfl,C,Iy j a l,DS _ _ _ O,DS _ _ _ W,B _ _ (Kp.refl _) (.bl _) j⟩]
  .erw[h.elim]
 |max=>
  have h:bMax L M (Dn X.K H Q):=h;unfold bMax at h;split at h
  .have⟨v,w,rfl,a,b⟩:=c.two;obtain rfl:=a.inv;obtain rfl:=b.inv;erw[SW P y s m H _ g Q I r ⟨_,_,rfl,h _ _ (Kp.refl _) (.int _) j⟩]
  .erw[h.elim]
 |min=>
  have h:bMin L M (Dn X.K H Q):=h;unfold bMin at h;split at h
  .have⟨v,w,rfl,a,b⟩:=c.two;obtain rfl:=a.inv;obtain rfl:=b.inv;erw[SX P y s m H _ g Q I r ⟨_,_,rfl,h _ _ (Kp.refl _) (.int _) j⟩]
  .erw[h.elim]
 |sum=>erw[Ya h]
 |abs=>erw[Ya h]
 |int=>
  have h:bInt L M (Dn X.K H Q):=h;unfold bInt at h;split at h
  .have⟨v,rfl,a⟩:=c.one;obtain rfl:=a.inv;erw[SY y s m H _ g Q I r (.inr ⟨_,rfl,h _ _ (Kp.refl _) (.int _) j⟩)]
  .erw[h.elim]
 |list=>
  have h:bLst L M (Dn X.K H Q):=h;unfold bLst at h;split at h
  .have⟨v,rfl,a⟩:=c.one;have⟨_,_,rfl,l,u⟩:=a.inv;erw[Hn y s m H _ g Q I r ⟨_,_,rfl,.inr (SqT.of l),λp d=>?_⟩];have k:=λz=>Kp.new d (.lst z);erw[h p (j.free d) _ _ (k _) (.ref p) (j.put (k _) (u.mono (k _)))]
  .have⟨v,rfl,a⟩:=c.one;obtain rfl:=a.inv;have⟨R,l,h⟩:=h;have⟨N,e,u⟩:=j.lst l;erw[Hn y s m H _ g Q I r ⟨_,_,rfl,.inl (SqL.of e),λp d=>?_⟩];have k:=Kp.new d (.lst N);erw[h p (j.free d) _ _ k (.ref p) (j.put k (u.mono k))]
  .erw[h.elim]
 |tuple=>
  have h:bTup L M (Dn X.K H Q):=h;unfold bTup at h;split at h
  .have⟨v,rfl,a⟩:=c.one;obtain rfl:=a.inv;have⟨R,l,h⟩:=h;have⟨N,e,u⟩:=j.lst l;erw[TW y s m H _ g Q I r ⟨_,_,rfl,.inl ⟨SqL.of e,λp d=>?_⟩⟩];have k:=Kp.new d (.tup N);erw[h _ _ k (.tup _I (u.mono k)) (j.kept d _)]
  .erw[h.elim]
 |dict=>
  have h:bDic L M (Dn X.K H Q):=h;unfold bDic at h;split at h
  .have⟨v,rfl,a⟩:=c.one;obtain rfl:=a.inv;have⟨U,l,h⟩:=h;have⟨N,e,u,J⟩:=j.dic l;erw[_dO y s m H _ g Q I r ⟨_,_,rfl,e,λp d=>?_⟩];have k:=Kp.new d (.dK N);erw[h p (j.free d) _ _ k (.ref p) (j.put k ⟨u.mono k,J⟩)]
  .have⟨v,rfl,a⟩:=c.one;have⟨S,rfl,O⟩:=h;have⟨_,_,rfl,e,u⟩:=a.inv;have⟨q,pv,Y⟩:=IA u;erw[Ia P y s m H _ g Q I r ⟨_,q,_,rfl,.inr e,pv,λp d=>?_⟩];have k:=Kp.new d (.dK (W3 q));have⟨Z,A⟩:=IB Y (.nil:RKs X.K H [] []) (by simp)
   erw[O p (j.free d) _ _ k (.ref p) (j.put k ⟨Z.mono k,A⟩)]
  .erw[h.elim]
 |sorted=>erw[Ya h]
 |dictL=>
  have h:bDcl L M (Dn X.K H Q):=h;unfold bDcl at h;split at h
  .have⟨v,rfl,a⟩:=c.one;obtain rfl:=a.inv;have⟨S,l,O⟩:=h;have⟨N,e,u⟩:=j.lst l;have⟨q,pv,Y⟩:=IA u;erw[Ia P y s m H _ g Q I r ⟨_,q,N,rfl,.inl e,pv,λp d=>?_⟩];have k:=Kp.new d (.dK (W3 q));have⟨Z,A⟩:=IB Y (.nil:RKs X.K H [] []) (by simp)
   erw[O p (j.free d) _ _ k (.ref p) (j.put k ⟨Z.mono k,A⟩)]
  .erw[h.elim]
 |all=>
  have h:bAll L M (Dn X.K H Q):=h;unfold bAll at h;split at h
  .have⟨v,rfl,a⟩:=c.one;obtain rfl:=a.inv;have⟨bs,l,O⟩:=h;have⟨N,e,u⟩:=j.lst l;have:=u.bls_of;subst this;erw[_j8 P y s m H _ g Q I r ⟨_,bs,rfl,SqL.of e,O _ _ (Kp.refl _) (.bl _) j⟩]
  .erw[h.elim]
end
theorem RMs.strs{K:X3}:∀j:List Str,RMs K H (j.map MV.str) (j.map V.str)
 |[]=>.nil
 |n::r=>.cons (.str n) (RMs.strs r)
def RMs.strs_of{K:X3}{H:Hp}{j:List Str}{l:List V}(h:RMs K H (j.map MV.str) l):l=j.map V.str:=h.map_of λ_ _ x=>by cases x;rfl
theorem ID{K:X3}(f:Nat->Int):∀l:List Nat,RMs K H (l.map λi=>MV.int (f i)) (l.map λi=>V.int (f i))
 |[]=>.nil
 |_::r=>.cons (.int _) (ID f r)
def _hn{K:X3}(n:Nat):RMs K H ((Xq n).map λi=>MV.int (i:Nat)) ((Xq n).map λi=>V.int (i:Nat)):=ID (λi=>(i:Int)) _
inductive B2 where|ssrt|lset|tset|lrng
  deriving DecidableEq
noncomputable def B2.out:B2->String
 |.ssrt=>"sorted"
 |.lset=>"len"
 |.tset=>"len"
 |.lrng=>"list"
noncomputable def B2.inn:B2->String
 |.ssrt=>"set"
 |.lset=>"set"
 |.tset=>"set"
 |.lrng=>"range"
noncomputable def B2.outV:B2->X0
 |.ssrt=>.builtin "sorted"
 |.lset=>.builtin "len"
 |.tset=>.builtin "len"
 |.lrng=>.type "list"
def wB2(f:B2)(v:MV)(M:MH)(Q:QM):Prop:=match f with
 |.ssrt=>∃(a:Addr) (j N:List Str),v=.ref a/\M a=wc (.lst (j.map MV.str))/\j.length+1<scanBound/\(∀z∈j,z∈N)/\N.length<64/\
   ∀p (l:List Str),M p=we->l.Nodup->(∀y,y∈l↔y∈j)->sortedS l=wf->Q (.ref p) (updM M p (.lst (l.map MV.str)))
 |.lset=>False
 |.tset=>False
 |.lrng=>∃n:Nat,v=.int n/\n<=1000000/\∀p,M p=we->Q (.ref p) (updM M p (.lst ((Xq n).map λi=>MV.int (i:Nat))))
def IF(f:B2):Mon1 (wB2 f):=by
 intro v M Q O w h;cases f with
 |ssrt=>
  have⟨a,y,N,j,l,u,z,m,g⟩:=h;erw[⟨a,y,N,j,l,u,z,m,λp d c q r e=>w _ _ (g p d c q r e)⟩]
 |lset=>erw[Ya h]
 |tset=>erw[Ya h]
 |lrng=>
  have⟨n,j,l,u⟩:=h;erw[⟨n,j,l,λp L=>w _ _ (u p L)⟩]
section
variable{X:Cx}
def _ny(g:X.calm=wf)(f:B2):WX X f.outV (.type f.inn) (li1 X.K (wB2 f)):=by
 intro d s c H x u Q I r h;have⟨m,M,q,j,h⟩:=h;cases f with
 |ssrt=>
  have⟨a,L,N,rfl,w,y,O,P,R⟩:=h;obtain rfl:=q.inv;have⟨Z,e,T⟩:=j.lst w;have:=T.strs_of;subst this;erw[_j1 g d s c H _ u Q I r ⟨_,L,N,rfl,SqL.of e,y,O,P,λp z l U W Y=>?_⟩];have k:=Kp.new l (.lst (z.map V.str));erw[R p z (j.free l) U W Y _ _ k (.ref p) (j.put k (RMs.strs z))]
 |lset=>erw[Ya h]
 |tset=>erw[Ya h]
 |lrng=>
  have⟨n,rfl,w,y⟩:=h;obtain rfl:=q.inv;erw[_j5 g d s c H _ u Q I r ⟨n,rfl,w,λp l=>?_⟩];have k:=Kp.new l (.lst ((Xq n).map λi=>V.int (i:Nat)));erw[y p (j.free l) _ _ k (.ref p) (j.put k (_hn n))]
end
inductive MT where|append|extend|popAt
  deriving DecidableEq
def wMt(m:MT)(a:Addr)(u:List MV)(M:MH)(Q:QM):Prop:=∃j,M a=wc (.lst j)/\match m,u with
 |.append,[y]=>j.length<sizeLine/\Q .non (updM M a (.lst (j++[y])))
 |.extend,[.ref b]=>∃l,M b=wc (.lst l)/\j.length+l.length<=sizeLine/\Q .non (updM M a (.lst (j++l)))
 |.popAt,[.int i]=>∃k y,-(2^63)<=i/\i<2^63/\seqIndex? i j.length=wc k/\j[k]?=wc y/\Q y (updM M a (.lst (j.eraseIdx k)))
 |_,_=>False
def wMl(m:MT)(x:MV)(j:List MV)(M:MH)(Q:QM):Prop:=match x with
 |.ref a=>wMt m a j M Q
 |_=>False
def wMd(m:MT)(x:MV)(j:List MV)(M:MH)(Q:QM):Prop:=match m with
 |_=>False
noncomputable def MT.isL:MT->Bool
 |_=>wf
noncomputable def MT.ty:MT->String
 |_=>"list"
def mtOk(m:MT)(x:MV)(M:MH):Prop:=match m with
 |_=>∃a j,x=.ref a/\M a=wc (.lst j)
def wMts(m:MT)(x:MV)(j:List MV)(M:MH)(Q:QM):Prop:=match m with
 |m=>wMl m x j M Q
def IG(h:m.isL=wf):wMts m x vs M Q=wMl m x vs M Q:=by cases m<;>first|rfl|cases h
def _po(j:∀m l,Q m l->Q' m l)(h:wMl m a vs M Q):wMl m a vs M Q':=by
 cases a<;>try erw[h.elim]
 have⟨u,w,h⟩:=h;erw[⟨u,w,?_⟩];split at h
 .erw[⟨h.1,j _ _ h.2⟩]
 .have⟨z,a,b,c⟩:=h;erw[⟨z,a,b,j _ _ c⟩]
 .have⟨k,y,a,b,c,d,e⟩:=h;erw[⟨k,y,a,b,c,d,j _ _ e⟩]
 .erw[h.elim]
def DT{m:MT}{a:MV}{j:List MV}{M:MH}{Q l:QM}(w:∀m u,Q m u->l m u)(h:wMts m a j M Q):wMts m a j M l:=by
 cases e:m.isL
 .cases m<;>cases e
 .rw[IG e]at h ⊢;erw[_po w h]
noncomputable def MT.id:MT->String
 |.append=>"list.append"|.extend=>"list.extend"|.popAt=>"list.pop"
def liM(K:X3)(w:MV->List MV->MH->QM->Prop):V->List V->Hp->VK->Prop:=λx u H Q=>∃j l M,RM K H j x/\RMs K H l u/\RH K M H/\w j l M (Dn K H Q)
def RMs.erase{K:X3}{H:Hp}{m:List MV}{v:List V}(r:RMs K H m v)(k:Nat):RMs K H (m.eraseIdx k) (v.eraseIdx k):=by
 rw[AU,AU];erw[(r.take _).append (r.drop _)]
section
variable{X:Cx}
def _mM(A:X.A.units+1<cLine)(m:MT):MtR X m.id (liM X.K (wMl m)):=by
 intro g s q H x B v r Q I p L h;have⟨C,D,M,T,N,u,h⟩:=h;cases T<;>try erw[h.elim]
 have⟨E,U,h⟩:=h;have⟨O,e,l⟩:=u.lst U;have j:∀o,Kp H (upd H _ o):=λo=>Kp.upd e rfl o;split at h
 .have⟨w,rfl,z⟩:=N.one;erw[Hs g s q H _ _ v r Q I p L ⟨_,O,w,rfl,rfl,e,by rw[<-l.length];erw[h.1],h.2 _ _ (j _) .non (u.put (j _) ((l.append (.cons z .nil)).mono (j _)))⟩]
 .have⟨w,rfl,z⟩:=N.one;obtain rfl:=z.inv;have⟨F,a,b,c⟩:=h;have⟨W,P,R⟩:=u.lst a;erw[_hH g s q H _ _ v r Q I p L ⟨_,_,O,W,rfl,rfl,e,P,by rw[<-l.length,<-R.length];erw[b],c _ _ (j _) .non (u.put (j _) ((l.append R).mono (j _)))⟩]
 .have⟨w,rfl,z⟩:=N.one;obtain rfl:=z.inv;have⟨k,y,a,b,c,d,f⟩:=h;have⟨Y,P,Z⟩:=l.get d;erw[_kd g s q H _ _ v r Q I p L ⟨_,O,_,k,Y,rfl,rfl,e,a,b,by rw[<-l.length];erw[c],P,f _ _ (j _) (Z.mono (j _)) (u.put (j _) ((l.erase k).mono (j _)))⟩]
 .erw[h.elim]
def IH(j:X.A.units+1<cLine)(m:MT):MtR X m.id (liM X.K (wMts m)):=by
 intro l s u H x w v y Q I z g h;have⟨d,c,M,f,q,r,h⟩:=h;cases e:m.isL
 .cases m<;>cases e
 .rw[IG e]at h;erw[_mM j m l s u H x w v y Q I z g ⟨d,c,M,f,q,r,h⟩]
end
def wPut(o i v:MV)(M:MH)(Q:MH->Prop):Prop:=match o with
 |.ref a=>(∃u k j,M a=wc (.lst u)/\i=.int k/\ixN u.length k=wc j/\Q (updM M a (.lst (u.set j v))))\/∃l w,M a=wc (.dic l)/\keyM i=wc w/\l.length<sizeLine/\Q (updM M a (.dic (putM l w v)))
 |_=>False
def II{o i v:MV}{M:MH}{Q m:MH->Prop}(g:∀d,Q d->m d)(h:wPut o i v M Q):wPut o i v M m:=by
 cases o<;>try erw[h.elim]
 rcases h with⟨c,k,j,l,u,w,y⟩|⟨z,f,l,u,w,y⟩
 .erw[.inl ⟨c,k,j,l,u,w,g _ y⟩]
 .erw[.inr ⟨z,f,l,u,w,g _ y⟩]
def DnH(K:X3)(H:Hp)(Q:Hp->Prop):MH->Prop:=λM=>∀j,Kp H j->RH K M j->Q j
def IJ(K:X3):TSet:=λo i v H Q=>∃j l mv M,RM K H j o/\RM K H l i/\RM K H mv v/\RH K M H/\wPut j l mv M (DnH K H Q)
section
variable{X:Cx}
def _lR(O:X.A.units+1<cLine):PSet X (IJ X.K):=by
 intro P s R H o i v f T u Q I q r p h;have⟨D,E,mv,M,U,L,N,w,h⟩:=h;cases U<;>try erw[h.elim]
 rcases h with⟨F,k,j,z,rfl,m,g⟩|⟨W,d,z,Y,m,g⟩
 .obtain rfl:=L.inv;have⟨y,e,l⟩:=w.lst z;have k:=Kp.upd e rfl (.lst (y.set j v));erw[TQ P s R H _ _ v f T u Q I q r p ⟨_,y,_,j,rfl,rfl,e,by rw[<-l.length];erw[m],g _ k (w.put k ((l.set N j).mono k))⟩]
 .have⟨y,e,l,Z⟩:=w.dic z;have A:=WY Y L;subst A;obtain rfl:f=XC _:=q;have k:=Kp.upd e rfl (.dK (putK y d v));have⟨B,c⟩:=Im (k:=d) N Z l;erw[_iV O I (DPut.k (k:=d) e (by rw[<-l.length];erw[m])) r p λG C=>⟨_,C,g _ k (w.put k ⟨B.mono k,c⟩)⟩]
end
end L2
namespace L2
set_option genInjectivity false
set_option genCtorIdx false
open PySem PySem.Spec PyProof.Rows
mutual
inductive ITg where|nm (i:Nat)|tup (ts:ITgs)
inductive ITgs where|nil|cons (t:ITg)(ts:ITgs)
end
mutual
inductive IE where
 |var (i:Nat)
 |int (i:Int)|str (x:Str)|bl (b:Bool)|non
 |glb (x:Str)(i:Int)
 |ty (c:Ty7)
 |bin (op:UA)(a b:IE)
 |neg (a:IE)
 |not (a:IE)
 |cmp (op:CmpOp)(a b:IE)
 |chn (op op':CmpOp)(a b c:IE)
 |and (a b:IE)
 |or (a b:IE)
 |ife (c a b:IE)
 |tup (es:IEs)
 |lst (es:IEs)
 |dic
 |ix (a b:IE)
 |sl (a:IE)(lo hi:IO)
 |call (j:Nat)(e:IE)(es:IEs)
 |bi (f:BI)(e:IE)(es:IEs)
 |b2 (f:B2)(e:IE)
 |mt (m:MT)(o:IE)(es:IEs)
 |comp (own:List Str)(fr:List Nat)(src:ISr)(tg:ITg)(test:IO)(elt:IE)
 |fld (c:Str)(o:IE)(f:Str)
 |mcall (j:Nat)(c m:Str)(o:IE)(es:IEs)
 |make (j:Nat)(c:Str)(e:IE)(es:IEs)
 |disp (ps:IPs)
 |mxd (e:IE)
 |st3 (e:IE)
inductive IPs where|nil|cons (k v:IE)(r:IPs)
inductive IEs where|nil|cons (e:IE)(es:IEs)
inductive IO where|none|some (e:IE)
inductive ISr where|seq (e:IE)|rng (e:IE)
end
def wSt3(v:MV)(M:MH)(Q:QM):Prop:=∃(a:Addr) (j:List MV),v=.ref a/\M a=wc (.lst j)/\∀p,M p=we->Q (.ref p) (updM M p (.lst (st3 j)))
def _mN(j:∀v M,Q v M->Q' v M)(h:wSt3 v M Q):wSt3 v M Q':=by
 have⟨a,l,u,w,y⟩:=h;erw[⟨a,l,u,w,λp z=>j _ _ (y p z)⟩]
def wMxd(v:MV)(M:MH)(Q:QM):Prop:=∃(a:Addr) (j:List Int),v=.ref a/\M a=wc (.lst (j.map MV.int))/\∀m,(j=[]/\m=0\/m∈j/\∀i∈j,i<=m)->Q (.int m) M
def _mO(j:∀v M,Q v M->Q' v M)(h:wMxd v M Q):wMxd v M Q':=by
 have⟨a,l,u,w,y⟩:=h;erw[⟨a,l,u,w,λm z=>j _ _ (y m z)⟩]
inductive Src where|tup (xs:List MV)|lst (a:Addr)(xs:List MV)|rng (lo:Int)(n:Nat)|dic (a:Addr)(o:Obj)(kvs:List (Key×MV))|str (x:Str)
def kM:Key->MV
 |.inl i=>.int i
 |.inr x=>.str x
def Src.items:Src->List MV
 |.tup xs=>xs
 |.lst _ xs=>xs
 |.rng lo n=>(Xq n).map λi=>.int (lo+(i:Nat))
 |.dic _ _ kvs=>kvs.map λp=>kM p.1
 |.str x=>x.cps.toList.map λc=>.str ⟨#[c]⟩
def Src.ok(M:MH):Src->Prop
 |.lst a xs=>M a=wc (.lst xs)
 |.dic a o kvs=>M a=wc (.fdic o kvs)
 |_=>True
def Src.okF(M:MH):Src->Prop
 |.lst a xs=>M a=wc (.lst xs)
 |.dic _ _ _=>False
 |_=>True
def Src.okT(M:MH):Src->Prop
 |.dic a o kvs=>M a=wc (.fdic o kvs)
 |_=>True
def Src.thaw(M:MH):Src->MH
 |.dic a _ kvs=>updM M a (.dic kvs)
 |_=>M
noncomputable def Src.len:Src->Nat
 |.tup xs=>xs.length
 |.lst _ xs=>xs.length
 |.rng _ n=>n
 |.dic _ _ kvs=>kvs.length
 |.str x=>x.cps.size
def Src.items_len(S:Src):S.items.length=S.len:=by cases S<;>simp[Src.items,Src.len]
abbrev SpM:=List MV->MH->QM->Prop
abbrev TSm:=Sm->MH->(Src->MH->Prop)->Prop
mutual
def wTg:ITg->MV->Sm->(Sm->Prop)->Prop
 |.nm i,v,σ,Q=>Q (σ.set i (wc v))
 |.tup ts,v,σ,Q=>∃xs,v=.tup xs/\wTgs ts xs σ Q
def wTgs:ITgs->List MV->Sm->(Sm->Prop)->Prop
 |.nil,xs,σ,Q=>xs=[]/\Q σ
 |.cons t ts,xs,σ,Q=>∃v r,xs=v::r/\wTg t v σ λj=>wTgs ts r j Q
end
noncomputable def sCm(own:List Str)(fr:List Nat)(j:Sm):Sm:=own.map (λ_=>we)++fr.map (λi=>j.getD i we)
def onV(o:Option (Option MV))(k:MV->Prop):Prop:=match o with
 |wc (wc v)=>k v
 |_=>False
def _pg{k:MV->Prop}:onV o k=∃v,o=wc (wc v)/\k v:=by
 erw[propext ⟨λh=>?_,λj=>by have⟨v,e,h⟩:=j;subst e;erw[h]⟩]
 match o,h with
 |wc (wc v),h=>erw[⟨v,rfl,h⟩]
def onB(x:MV)(k:Bool->Prop):Prop:=match x with
 |.bl c=>k c
 |_=>False
def W7{k:Bool->Prop}:onB x k=∃c,x=.bl c/\k c:=by
 erw[propext ⟨λh=>?_,λj=>by have⟨v,e,h⟩:=j;subst e;erw[h]⟩]
 cases x<;>first|erw[⟨_,rfl,h⟩]|erw[h.elim]
def onF(o:Option (Str×SpM))(k:SpM->Prop):Prop:=match o with
 |wc p=>k p.2
 |we=>False
def _ph{k:SpM->Prop}:onF o k=∃f j,o=wc (f,j)/\k j:=by
 erw[propext ⟨λh=>?_,λl=>by have⟨f,v,e,h⟩:=l;subst e;erw[h]⟩]
 match o,h with
 |wc (f,j),h=>erw[⟨f,j,rfl,h⟩]
mutual
def wE(Φ:List (Str×SpM)):IE->TEm
 |.var i,σ,M,Q=>onV σ[i]? λv=>Q v M
 |.int i,_,M,Q=>Q (.int i) M
 |.str x,_,M,Q=>Q (.str x) M
 |.bl b,_,M,Q=>Q (.bl b) M
 |.non,_,M,Q=>Q .non M
 |.glb _ i,_,M,Q=>Q (.int i) M
 |.ty c,_,M,Q=>Q (.ty c) M
 |.bin op a b,σ,M,Q=>wE Φ a σ M λx M1=>wE Φ b σ M1 λy M2=>wBin op x y M2 Q
 |.neg a,σ,M,Q=>wE Φ a σ M λx M1=>∃i,x=.int i/\Q (.int (-i)) M1
 |.not a,σ,M,Q=>wE Φ a σ M λx M1=>onB x λb=>Q (.bl (!b)) M1
 |.cmp op a b,σ,M,Q=>wE Φ a σ M λx M1=>wE Φ b σ M1 λy M2=>wCmp op x y M2 Q
 |.chn op op' a b c,σ,M,Q=>wE Φ a σ M λx M1=>wE Φ b σ M1 λy M2=>wCmp op x y M2 λz d=>onB z λk=>(if k=wf then wE Φ c σ d λw N=>wCmp op' y w N Q else Q (.bl wg) d)
 |.and a b,σ,M,Q=>wE Φ a σ M λx M1=>onB x λc=>(if c=wf then wE Φ b σ M1 Q else Q (.bl wg) M1)
 |.or a b,σ,M,Q=>wE Φ a σ M λx M1=>onB x λc=>(if c=wf then Q (.bl wf) M1 else wE Φ b σ M1 Q)
 |.ife c a b,σ,M,Q=>wE Φ c σ M λx M1=>onB x λk=>(if k=wf then wE Φ a σ M1 Q else wE Φ b σ M1 Q)
 |.tup es,σ,M,Q=>wEs Φ es σ M λvs M1=>vs.length<=sizeLine/\Q (.tup vs) M1
 |.lst es,σ,M,Q=>wEs Φ es σ M λvs M1=>vs.length<=sizeLine/\∀p,M1 p=we->Q (.ref p) (updM M1 p (.lst vs))
 |.dic,_,M,Q=>∀p,M p=we->Q (.ref p) (updM M p (.dic []))
 |.ix a b,σ,M,Q=>wE Φ a σ M λx M1=>wE Φ b σ M1 λy M2=>wIx x y M2 Q
 |.sl a lo hi,σ,M,Q=>wE Φ a σ M λx M1=>wO Φ lo σ M1 λl M2=>wO Φ hi σ M2 λh d=>wSl x l h d Q
 |.call j e es,σ,M,Q=>wE Φ e σ M λv M1=>wEs Φ es σ M1 λvs M2=>onF Φ[j]? λsp=>sp (v::vs) M2 Q
 |.bi f e es,σ,M,Q=>wE Φ e σ M λv M1=>wEs Φ es σ M1 λvs M2=>wBi f (v::vs) M2 Q
 |.b2 f e,σ,M,Q=>wE Φ e σ M λv M1=>wB2 f v M1 Q
 |.mxd e,σ,M,Q=>wE Φ e σ M λv M1=>wMxd v M1 Q
 |.st3 e,σ,M,Q=>wE Φ e σ M λv M1=>wSt3 v M1 Q
 |.mt m o es,σ,M,Q=>wE Φ o σ M λx M1=>mtOk m x M1/\wEs Φ es σ M1 λvs M2=>wMts m x vs M2 Q
 |.comp own fr src tg test elt,σ,M,Q=>wSr Φ src σ M λS M1=>S.len<sizeLine/\∀D,M1 D=we->∃J:Nat->List MV->MH->Prop,J 0 [] (updM M1 D (.lst []))/\
   (∀i g M2,J i g M2->M2 D=wc (.lst g)/\g.length<=i/\S.ok M2)/\
   (∀i x g M2,S.items[i]?=wc x->J i g M2->wTg tg x (sCm own fr σ) λL=>wI Φ test L M2 λb N=>
    if b=wf then wE Φ elt L N λy O=>O D=wc (.lst g)/\J (i+1) (g++[y]) (updM O D (.lst (g++[y])))else J (i+1) g N)/\
   ∀g M2,J S.len g M2->Q (.ref D) (S.thaw M2)
 |.fld c o f,σ,M,Q=>wE Φ o σ M λx M1=>∃a fs v,x=.ref a/\M1 a=wc (.ins c fs)/\valM fs f=wc v/\Q v M1
 |.mcall j c m o es,σ,M,Q=>wE Φ o σ M λx M1=>∃a fs,x=.ref a/\M1 a=wc (.ins c fs)/\valM fs m=we/\wEs Φ es σ M1 λvs M2=>∃f sp,Φ[j]?=wc (f,sp)/\sp (.ref a::vs) M2 Q
 |.make j c e es,σ,M,Q=>wE Φ e σ M λv M1=>wEs Φ es σ M1 λvs M2=>∃f sp,Φ[j]?=wc (f,sp)/\∀p,M2 p=we->sp (.ref p::v::vs) (updM M2 p (.ins c [])) λu d=>u=.non/\Q (.ref p) d
 |.disp ps,σ,M,Q=>∀p,M p=we->wPs Φ ps σ (updM M p (.dic [])) λl M2=>M2 p=wc (.dic [])/\l.length<=15/\Q (.ref p) (updM M2 p (.dic (Ul l)))
def wPs(Φ:List (Str×SpM)):IPs->Sm->MH->(List (Key×MV)->MH->Prop)->Prop
 |.nil,_,M,Q=>Q [] M
 |.cons k v r,σ,M,Q=>wE Φ k σ M λx M1=>∃P,keyM x=wc P/\wE Φ v σ M1 λy M2=>wPs Φ r σ M2 λl d=>Q ((P,y)::l) d
def wEs(Φ:List (Str×SpM)):IEs->TAm
 |.nil,_,M,Q=>Q [] M
 |.cons e es,σ,M,Q=>wE Φ e σ M λv M1=>wEs Φ es σ M1 λvs M2=>Q (v::vs) M2
def wO(Φ:List (Str×SpM)):IO->Sm->MH->(Option Int->MH->Prop)->Prop
 |.none,_,M,Q=>Q we M
 |.some e,σ,M,Q=>wE Φ e σ M λv M1=>∃i,v=.int i/\Q (wc i) M1
def wI(Φ:List (Str×SpM)):IO->Sm->MH->(Bool->MH->Prop)->Prop
 |.none,_,M,Q=>Q wf M
 |.some e,σ,M,Q=>wE Φ e σ M λv M1=>∃b,v=.bl b/\Q b M1
def wSr(Φ:List (Str×SpM)):ISr->TSm
 |.seq e,σ,M,Q=>wE Φ e σ M λv M1=>(∃xs,(v=.tup xs\/v=.frl xs)/\Q (.tup xs) M1)\/(∃a xs,v=.ref a/\M1 a=wc (.lst xs)/\Q (.lst a xs) M1)\/(∃a q,v=.ref a/\M1 a=wc (.dic q)/\∀o,Q (.dic a o q) (updM M1 a (.fdic o q)))\/∃z,v=.str z/\Q (.str z) M1
 |.rng e,σ,M,Q=>wE Φ e σ M λv M1=>∃j,v=.int j/\ -(2^62)<=j/\j<2^62/\Q (.rng 0 j.toNat) M1
end
section
variable{Φ:List (Str×SpM)}{σ:Sm}{M:MH}{Q:QM}
def IK{i:Nat}:wE Φ (.var i) σ M Q=∃v,σ[i]?=wc (wc v)/\Q v M:=_pg
def DU{a:IE}:wE Φ (.not a) σ M Q=wE Φ a σ M λx M1=>∃b,x=.bl b/\Q (.bl (!b)) M1:=congrArg (wE Φ a σ M) (funext λ_=>funext λ_=>W7)
def IL:wE Φ (.chn op op' a b c) σ M Q=wE Φ a σ M λx M1=>wE Φ b σ M1 λy M2=>wCmp op x y M2 λz j=>∃k,z=.bl k/\(if k=wf then wE Φ c σ j λw l=>wCmp op' y w l Q else Q (.bl wg) j):=congrArg (wE Φ a σ M) (funext λ_=>funext λ_=>congrArg (wE Φ b σ _) (funext λ_=>funext λ_=>congrArg (wCmp op _ _ _) (funext λ_=>funext λ_=>W7)))
def DV{a b:IE}:wE Φ (.and a b) σ M Q=wE Φ a σ M λx M1=>∃c,x=.bl c/\(if c=wf then wE Φ b σ M1 Q else Q (.bl wg) M1):=congrArg (wE Φ a σ M) (funext λ_=>funext λ_=>W7)
def x_or{a b:IE}:wE Φ (.or a b) σ M Q=wE Φ a σ M λx M1=>∃c,x=.bl c/\(if c=wf then Q (.bl wf) M1 else wE Φ b σ M1 Q):=congrArg (wE Φ a σ M) (funext λ_=>funext λ_=>W7)
def IM{a b c:IE}:wE Φ (.ife c a b) σ M Q=wE Φ c σ M λx M1=>∃k,x=.bl k/\(if k=wf then wE Φ a σ M1 Q else wE Φ b σ M1 Q):=congrArg (wE Φ c σ M) (funext λ_=>funext λ_=>W7)
def IN{j:Nat}{e:IE}{l:IEs}:wE Φ (.call j e l) σ M Q=wE Φ e σ M λv M1=>wEs Φ l σ M1 λw M2=>∃f u,Φ[j]?=wc (f,u)/\u (v::w) M2 Q:=congrArg (wE Φ e σ M) (funext λ_=>funext λ_=>congrArg (wEs Φ l σ _) (funext λ_=>funext λ_=>_ph))
end
mutual
theorem W8:∀(t:ITg){v:MV} {j:Sm} {Q l:Sm->Prop},(∀j,Q j->l j)->wTg t v j Q->wTg t v j l
 |.nm i,v,j,Q,l,hq,h=>by erw[hq _ h]
 |.tup ts,v,j,Q,l,hq,h=>by
  have⟨xs,e,h⟩:=h;erw[⟨xs,e,mon_tgs ts hq h⟩]
theorem mon_tgs:∀(t:ITgs){v:List MV} {j:Sm} {Q l:Sm->Prop},(∀j,Q j->l j)->wTgs t v j Q->wTgs t v j l
 |.nil,v,j,Q,l,hq,h=>by erw[⟨h.1,hq _ h.2⟩]
 |.cons t ts,v,j,Q,l,hq,h=>by
  have⟨x,r,e,h⟩:=h;erw[⟨x,r,e,W8 t (λu h'=>mon_tgs ts hq h') h⟩]
end
def YU{c:Prop} [Decidable c] {A B j l:Prop}(u:A->j)(w:B->l)(h:if c then A else B):if c then j else l:=by
 split at h
 .rw[if_pos (by assumption)];erw[u h]
 .rw[if_neg (by assumption)];erw[w h]
mutual
theorem Xc{Φ:List (Str×SpM)}(u:∀(j:Nat)f sp,Φ[j]?=wc (f,sp)->MonW sp):∀e:IE,MonE (wE Φ e)
 |.var i,d,M,Q,q,hq,h=>by rw[IK]at h ⊢;have⟨v,e,h⟩:=h;erw[⟨v,e,hq _ _ h⟩]
 |.int _,d,M,Q,q,hq,h=>by erw[hq _ _ h]
 |.str _,d,M,Q,q,hq,h=>by erw[hq _ _ h]
 |.bl _,d,M,Q,q,hq,h=>by erw[hq _ _ h]
 |.non,d,M,Q,q,hq,h=>by erw[hq _ _ h]
 |.glb _ _,d,M,Q,q,hq,h=>by erw[hq _ _ h]
 |.ty _,d,M,Q,q,hq,h=>by erw[hq _ _ h]
 |.bin op a b,d,M,Q,q,hq,h=>by
  erw[Xc u a (λx M1 g=>Xc u b (λy M2 L=>Ih op hq L) g) h]
 |.neg a,d,M,Q,q,hq,h=>by
  erw[Xc u a (λx M1 h'=>by have⟨i,e,g⟩:=h';erw[⟨i,e,hq _ _ g⟩]) h]
 |.not a,d,M,Q,q,hq,h=>by
  rw[DU]at h ⊢;erw[Xc u a (λx M1 h'=>by have⟨i,e,g⟩:=h';erw[⟨i,e,hq _ _ g⟩]) h]
 |.cmp op a b,d,M,Q,q,hq,h=>by
  erw[Xc u a (λx M1 g=>Xc u b (λy M2 L=>W5 op hq L) g) h]
 |.chn op op' a b c,d,M,Q,q,hq,h=>by
  rw[IL]at h ⊢;erw[Xc u a (λx M1 g=>Xc u b (λy M2 L=>W5 op (λz T h'=>by have⟨k,e,P⟩:=h';erw[⟨k,e,YU (Xc u c λw X U=>W5 op' hq U) (hq _ _) P⟩]) L) g) h]
 |.and a b,d,M,Q,q,hq,h=>by
  rw[DV]at h ⊢;erw[Xc u a (λx M1 h'=>by have⟨c,e,g⟩:=h';erw[⟨c,e,YU (Xc u b hq) (hq _ _) g⟩]) h]
 |.or a b,d,M,Q,q,hq,h=>by
  rw[x_or]at h ⊢;erw[Xc u a (λx M1 h'=>by have⟨c,e,g⟩:=h';erw[⟨c,e,YU (hq _ _) (Xc u b hq) g⟩]) h]
 |.ife c a b,d,M,Q,q,hq,h=>by
  rw[IM]at h ⊢;erw[Xc u c (λx M1 h'=>by have⟨k,e,g⟩:=h';erw[⟨k,e,YU (Xc u a hq) (Xc u b hq) g⟩]) h]
 |.tup es,d,M,Q,q,hq,h=>by
  erw[mon_es u es (λvs M1 h'=>by have⟨e,g⟩:=h';erw[⟨e,hq _ _ g⟩]) h]
 |.lst es,d,M,Q,q,hq,h=>by
  erw[mon_es u es (λvs M1 h'=>by have⟨e,g⟩:=h';erw[⟨e,λp O=>hq _ _ (g p O)⟩]) h]
 |.dic,d,M,Q,q,hq,h=>by
  erw[λp O=>hq _ _ (h p O)]
 |.ix a b,d,M,Q,q,hq,h=>by
  erw[Xc u a (λx M1 g=>Xc u b (λy M2 L=>Iv hq L) g) h]
 |.sl a lo hi,d,M,Q,q,hq,h=>by
  erw[Xc u a (λx M1 g=>mon_o u lo (λy M2 L=>mon_o u hi (λz T P=>Ix hq P) L) g) h]
 |.call j e es,d,M,Q,q,hq,h=>by
  rw[IN]at h ⊢;erw[Xc u e (λx M1 g=>mon_es u es (λy M2 h'=>by have⟨f,sp,e,L⟩:=h';erw[⟨f,sp,e,u _ _ _ e hq L⟩]) g) h]
 |.bi f e es,d,M,Q,q,hq,h=>by
  erw[Xc u e (λx M1 g=>mon_es u es (λy M2 L=>IC f hq L) g) h]
 |.b2 f e,d,M,Q,q,hq,h=>by
  erw[Xc u e (λx M1 g=>IF f hq g) h]
 |.mxd e,d,M,Q,q,hq,h=>by
  erw[Xc u e (λx M1 g=>_mO hq g) h]
 |.st3 e,d,M,Q,q,hq,h=>by
  erw[Xc u e (λx M1 g=>_mN hq g) h]
 |.mt m o es,d,M,Q,q,hq,h=>by
  erw[Xc u o (λx M1 h'=>by have⟨W,g⟩:=h';erw[⟨W,mon_es u es (λy M2 L=>DT hq L) g⟩]) h]
 |.comp own fr src tg test elt,d,M,Q,q,hq,h=>by
  erw[mon_sr u src (λS M1 h'=>by have⟨Y,g⟩:=h';erw[⟨Y,λD Z=>by
   have⟨J,A,B,C,E⟩:=g D Z;erw[⟨J,A,B,C,λF M2 G=>hq _ _ (E F M2 G)⟩]⟩]) h]
 |.fld c o f,d,M,Q,q,hq,h=>by
  erw[Xc u o (λx M1 h'=>by have⟨a,fs,v,e,N,R,g⟩:=h';erw[⟨a,fs,v,e,N,R,hq _ _ g⟩]) h]
 |.mcall j c m o es,d,M,Q,q,hq,h=>by
  erw[Xc u o (λx M1 h'=>by have⟨a,fs,e,N,R,g⟩:=h';erw[⟨a,fs,e,N,R,mon_es u es (λy M2 h'=>by have⟨f,sp,e,L⟩:=h';erw[⟨f,sp,e,u _ _ _ e hq L⟩]) g⟩]) h]
 |.make j c e es,d,M,Q,q,hq,h=>by
  erw[Xc u e (λx M1 g=>mon_es u es (λy M2 h'=>by have⟨f,sp,e,L⟩:=h';erw[⟨f,sp,e,λp O=>u _ _ _ e (λm M' z=>⟨z.1,hq _ _ z.2⟩) (L p O)⟩]) g) h]
 |.disp ps,d,M,Q,q,hq,h=>by
  erw[λp O=>mon_ps u ps (λl M2 h'=>by have⟨e,N,g⟩:=h';erw[⟨e,N,hq _ _ g⟩]) (h p O)]
theorem mon_ps(u:∀(j:Nat)f sp,Φ[j]?=wc (f,sp)->MonW sp):∀(e:IPs){d M} {Q q:List (Key×MV)->MH->Prop},(∀m M',Q m M'->q m M')->wPs Φ e d M Q->wPs Φ e d M q
 |.nil,d,M,Q,q,hq,h=>by erw[hq _ _ h]
 |.cons k v r,d,M,Q,q,hq,h=>by
  erw[Xc u k (λx M1 h'=>by have⟨I,e,g⟩:=h';erw[⟨I,e,Xc u v (λy M2 L=>mon_ps u r (λl T P=>hq _ _ P) L) g⟩]) h]
theorem mon_es{Φ:List (Str×SpM)}(u:∀(j:Nat)f sp,Φ[j]?=wc (f,sp)->MonW sp):∀e:IEs,MonA (wEs Φ e)
 |.nil,d,M,Q,q,hq,h=>by erw[hq _ _ h]
 |.cons e es,d,M,Q,q,hq,h=>by
  erw[Xc u e (λx M1 g=>mon_es u es (λy M2 L=>hq _ _ L) g) h]
theorem mon_o{Φ:List (Str×SpM)}(u:∀(j:Nat)f sp,Φ[j]?=wc (f,sp)->MonW sp):∀(e:IO){d M} {Q q:Option Int->MH->Prop},(∀m M',Q m M'->q m M')->wO Φ e d M Q->wO Φ e d M q
 |.none,d,M,Q,q,hq,h=>by erw[hq _ _ h]
 |.some e,d,M,Q,q,hq,h=>by
  erw[Xc u e (λx M1 h'=>by have⟨i,e,g⟩:=h';erw[⟨i,e,hq _ _ g⟩]) h]
theorem mon_i(u:∀(j:Nat)f sp,Φ[j]?=wc (f,sp)->MonW sp):∀(e:IO){d M} {Q q:Bool->MH->Prop},(∀m M',Q m M'->q m M')->wI Φ e d M Q->wI Φ e d M q
 |.none,d,M,Q,q,hq,h=>by erw[hq _ _ h]
 |.some e,d,M,Q,q,hq,h=>by
  erw[Xc u e (λx M1 h'=>by have⟨i,e,g⟩:=h';erw[⟨i,e,hq _ _ g⟩]) h]
theorem mon_sr{Φ:List (Str×SpM)}(u:∀(j:Nat)f sp,Φ[j]?=wc (f,sp)->MonW sp):∀(e:ISr){d M} {Q q:Src->MH->Prop},(∀m M',Q m M'->q m M')->wSr Φ e d M Q->wSr Φ e d M q
 |.seq e,d,M,Q,q,hq,h=>by
  erw[Xc u e (λx M1 g=>by
   rcases g with⟨xs,e,g⟩|⟨a,xs,e,N,g⟩|⟨a,xs,e,N,g⟩|⟨z,e,g⟩
   .erw[.inl ⟨xs,e,hq _ _ g⟩]
   .erw[.inr (.inl ⟨a,xs,e,N,hq _ _ g⟩)]
   .erw[.inr (.inr (.inl ⟨a,xs,e,N,λo=>hq _ _ (g o)⟩))]
   .erw[.inr (.inr (.inr ⟨z,e,hq _ _ g⟩))]) h]
 |.rng e,d,M,Q,q,hq,h=>by
  erw[Xc u e (λx M1 h'=>by have⟨j,e,a,b,g⟩:=h';erw[⟨j,e,a,b,hq _ _ g⟩]) h]
end
end L2
namespace L2
open PySem PySem.Spec PyProof.Rows
structure GI where
 bl:List Str
 gl:List (Str×Int)
 fns:List Str
 mts:List (Nat×Str×Str):=[]
 mks:List (Nat×Str):=[]
 cls:List (Str×Str):=[]
noncomputable def visB(j:Scope)(x:Str):Bool:=match j.names.lookup x with
 |wc .local=>wf|wc .cell=>wf|wc .free=>wf|_=>wg
noncomputable def locB(j:Scope)(x:Str):Bool:=match j.names.lookup x with
 |wc .local=>wf|wc .cell=>wf|_=>wg
noncomputable def glB(j:Scope)(x:Str):Bool:=decide (j.names.lookup x=wc .globalImplicit)&& !(x==("__debug__":Str))&&decide (x≠"__name__")
noncomputable def W9(j l:Scope):Scope:={j with names:=j.names.map fun(n,k)=>if(k==.free&&l.kind==.function&&l.names.lookup n==wc .cell)then(n,.cell)else(n,k)}
noncomputable def BI.name:BI->String
 |.len=>"len"|.isinst=>"isinstance"|.max=>"max"|.min=>"min"|.sum=>"sum"|.abs=>"abs"|.int=>"int"|.list=>"list"|.tuple=>"tuple"|.dict=>"dict"|.sorted=>"sorted"|.dictL=>"dict"|.all=>"all"
noncomputable def MT.name:MT->String
 |.append=>"append"|.extend=>"extend"|.popAt=>"pop"
noncomputable def A3:Expr->Bool
 |.Slice ..=>wg|_=>wf
noncomputable def A4:Expr->Bool
 |.Set ..=>wg|_=>wf
noncomputable def tok:IE->Bool
 |.ife ..=>wg
 |.not a=>tok a
 |.and a b=>tok a&&tok b
 |.or a b=>tok a&&tok b
 |_=>wf
noncomputable def Z1:Expr->Option Str|.Name x _=>wc x|_=>we
noncomputable def Vo:Expr->Option Const|.Constant c _ _=>wc c|_=>we
noncomputable def C0:Expr->Option (Expr×UA×Expr)|.BinOp l o r _=>wc (l,o,r)|_=>we
noncomputable def asUn:Expr->Option (UnaryOp×Expr)|.UnaryOp o x _=>wc (o,x)|_=>we
noncomputable def A5:Expr->Option (Expr×List CmpOp×List Expr)|.Compare l o r _=>wc (l,o,r)|_=>we
noncomputable def A6:Expr->Option (BoolOp×List Expr×Pos)|.BoolOp o vs p=>wc (o,vs,p)|_=>we
noncomputable def asIf:Expr->Option (Expr×Expr×Expr)|.IfExp t x y _=>wc (t,x,y)|_=>we
noncomputable def Wa:Expr->Option (List Expr)|.Tuple xs _ _=>wc xs|_=>we
noncomputable def C1:Expr->Option (List Expr)|.List xs _=>wc xs|_=>we
noncomputable def C2:Expr->Option (List (Option Expr)×List Expr)|.Dict ks vs _=>wc (ks,vs)|_=>we
noncomputable def Wb:Expr->Option (Expr×Expr)|.Subscript x y _=>wc (x,y)|_=>we
noncomputable def asSl:Expr->Option (Option Expr×Option Expr×Option Expr)|.Slice l u s _=>wc (l,u,s)|_=>we
noncomputable def ZK:Expr->Option (Expr×List Expr×List Ze×Pos)|.Call f xs ks p=>wc (f,xs,ks,p)|_=>we
noncomputable def Vp:Expr->Option (Expr×Str×Pos)|.Attribute o n p=>wc (o,n,p)|_=>we
noncomputable def asLC:Expr->Option (Expr×List Comprehension×Scope)|.ListComp e gs sc _=>wc (e,gs,sc)|_=>we
noncomputable def the1{j:Type}:List j->Option j|[x]=>wc x|_=>we
noncomputable def the2{j:Type}:List j->Option (j×j)|[x,y]=>wc (x,y)|_=>we
noncomputable def hd1{j:Type}:List j->Option (j×List j)|x::r=>wc (x,r)|_=>we
noncomputable def hd2{j:Type}:List j->Option (j×j×List j)|x::y::r=>wc (x,y,r)|_=>we
noncomputable def non0{j:Type}:List j->Bool|[]=>wf|_=>wg
def nos{j:Type}{x:j}{C:Prop}(h:we=wc x):C:=nomatch h
def nob{C:Prop}(h:wg=wf):C:=nomatch h
def Xg{j:Type}{o:Option j}{p:j->Bool}(h:o.any p=wf):∃x,o=wc x/\p x=wf:=by
 cases o with
 |none=>cases h
 |some x=>erw[⟨x,rfl,h⟩]
section
variable{e:Expr}
def _n{x:Str}(h:Z1 e=wc x):∃p,e=.Name x p:=by revert h;cases e<;>first|erw[nos]|(intro h;cases h;erw[⟨_,rfl⟩])
def A7{x:Const}(h:Vo e=wc x):∃k p,e=.Constant x k p:=by revert h;cases e<;>first|erw[nos]|(intro h;cases h;erw[⟨_,_,rfl⟩])
def IP{x:Expr×UA×Expr}(h:C0 e=wc x):∃p,e=.BinOp x.1 x.2.1 x.2.2 p:=by revert h;cases e<;>first|erw[nos]|(intro h;cases h;erw[⟨_,rfl⟩])
def DW{x:UnaryOp×Expr}(h:asUn e=wc x):∃p,e=.UnaryOp x.1 x.2 p:=by revert h;cases e<;>first|erw[nos]|(intro h;cases h;erw[⟨_,rfl⟩])
def DX{x:Expr×List CmpOp×List Expr}(h:A5 e=wc x):∃p,e=.Compare x.1 x.2.1 x.2.2 p:=by revert h;cases e<;>first|erw[nos]|(intro h;cases h;erw[⟨_,rfl⟩])
def DY{x:BoolOp×List Expr×Pos}(h:A6 e=wc x):e=.BoolOp x.1 x.2.1 x.2.2:=by revert h;cases e<;>first|erw[nos]|(intro h;cases h;rfl)
def IQ{x:Expr×Expr×Expr}(h:asIf e=wc x):∃p,e=.IfExp x.1 x.2.1 x.2.2 p:=by revert h;cases e<;>first|erw[nos]|(intro h;cases h;erw[⟨_,rfl⟩])
def C3{x:List Expr}(h:Wa e=wc x):∃k p,e=.Tuple x k p:=by revert h;cases e<;>first|erw[nos]|(intro h;cases h;erw[⟨_,_,rfl⟩])
def IR{x:List Expr}(h:C1 e=wc x):∃p,e=.List x p:=by revert h;cases e<;>first|erw[nos]|(intro h;cases h;erw[⟨_,rfl⟩])
def IT{x:List (Option Expr)×List Expr}(h:C2 e=wc x):∃p,e=.Dict x.1 x.2 p:=by revert h;cases e<;>first|erw[nos]|(intro h;cases h;erw[⟨_,rfl⟩])
def C4{x:Expr×Expr}(h:Wb e=wc x):∃p,e=.Subscript x.1 x.2 p:=by revert h;cases e<;>first|erw[nos]|(intro h;cases h;erw[⟨_,rfl⟩])
def _nF{x:Option Expr×Option Expr×Option Expr}(h:asSl e=wc x):∃p,e=.Slice x.1 x.2.1 x.2.2 p:=by revert h;cases e<;>first|erw[nos]|(intro h;cases h;erw[⟨_,rfl⟩])
def Um{x:Expr×List Expr×List Ze×Pos}(h:ZK e=wc x):e=.Call x.1 x.2.1 x.2.2.1 x.2.2.2:=by revert h;cases e<;>first|erw[nos]|(intro h;cases h;rfl)
def A8{x:Expr×Str×Pos}(h:Vp e=wc x):e=.Attribute x.1 x.2.1 x.2.2:=by revert h;cases e<;>first|erw[nos]|(intro h;cases h;rfl)
def IU{x:Expr×List Comprehension×Scope}(h:asLC e=wc x):∃p,e=.ListComp x.1 x.2.1 x.2.2 p:=by revert h;cases e<;>first|erw[nos]|(intro h;cases h;erw[⟨_,rfl⟩])
def _L{j:Type}{l:List j}{x:j}(h:the1 l=wc x):l=[x]:=by
 match l,h with
 |[_],h=>cases h;rfl
def IV{j:Type}{l:List j}{x:j×j}(h:the2 l=wc x):l=[x.1,x.2]:=by
 match l,h with
 |[_,_],h=>cases h;rfl
def Uo{j:Type}{l:List j}{x:j×List j}(h:hd1 l=wc x):l=x.1::x.2:=by
 match l,h with
 |_::_,h=>cases h;rfl
def IW{j:Type}{l:List j}{x:j×j×List j}(h:hd2 l=wc x):l=x.1::x.2.1::x.2.2:=by
 match l,h with
 |_::_::_,h=>cases h;rfl
def Yo{j:Type}{l:List j}(h:non0 l=wf):l=[]:=by
 match l,h with
 |[],_=>rfl
end
def YB(e:Expr):Bool:=(Z1 e).isSome||(Vo e).isSome||(C0 e).isSome||(asUn e).isSome||(A5 e).isSome||(A6 e).isSome||(asIf e).isSome||(Wa e).isSome||(C1 e).isSome||(C2 e).isSome||(Wb e).isSome||(ZK e).isSome||(asLC e).isSome||(Vp e).isSome
mutual
def Zo(j:Scope)(N:List Str)(lim:Nat)(all:Bool):ITg->Expr->Bool
 |.nm i,e=>(Z1 e).any λx=>decide (N[i]?=wc x)&&decide (i<lim)&&(if all then locB j x else decide (j.names.lookup x=wc .local))
 |.tup ts,e=>(Wa e).any λes=>chkTgs j N lim all ts es
def chkTgs(j:Scope)(N:List Str)(lim:Nat)(all:Bool):ITgs->List Expr->Bool
 |.nil,l=>non0 l
 |.cons t ts,l=>(hd1 l).any λq=>Zo j N lim all t q.1&&chkTgs j N lim all ts q.2
end
mutual
def chkE(G:GI):IE->Scope->List Str->Expr->Bool
 |.var i,sc,N,e=>(Z1 e).any fun x=>decide (N[i]?=wc x)&&visB sc x&& !(x==("__debug__":Str))&& !(x==("__classdict__":Str))
 |.int i,_,_,e=>(Vo e).any λc=>decide (c=.int i)
 |.str x,_,_,e=>(Vo e).any λc=>decide (c=.str x)
 |.bl b,_,_,e=>(Vo e).any λc=>decide (c=.bool b)
 |.non,_,_,e=>(Vo e).any λc=>decide (c=.none)
 |.glb x i,sc,_,e=>(Z1 e).any λy=>decide (x=y)&&decide (G.gl.lookup x=wc i)&&glB sc x
 |.ty c,sc,_,e=>(Z1 e).any λy=>decide (y=(c.name:Str))&&decide (c≠.none)&&G.bl.contains y&&glB sc y
 |.bin op a b,sc,N,e=>(C0 e).any λq=>decide (op=q.2.1)&&chkE G a sc N q.1&&chkE G b sc N q.2.2
 |.neg a,sc,N,e=>(asUn e).any λq=>decide (q.1=.USub)&&chkE G a sc N q.2
 |.not a,sc,N,e=>(asUn e).any λq=>decide (q.1=.Not)&&chkE G a sc N q.2
 |.cmp op a b,sc,N,e=>(A5 e).any λq=>(the1 q.2.1).any λo=>(the1 q.2.2).any λr=>decide (op=o)&&chkE G a sc N q.1&&chkE G b sc N r&& !behindInMarks op r
 |.chn op op' a b c,sc,N,e=>(A5 e).any λq=>(the2 q.2.1).any λo=>(the2 q.2.2).any λr=>decide (op=o.1)&&decide (op'=o.2)&&chkE G a sc N q.1&&chkE G b sc N r.1&&chkE G c sc N r.2&& !lastMarks [op,op'] [r.1,r.2]
 |.and a b,sc,N,e=>(A6 e).any λq=>(hd2 q.2.1).any λv=>decide (q.1=.And)&&chkE G a sc N v.1&&chkE G b sc N (if non0 v.2.2 then v.2.1 else .BoolOp .And (v.2.1::v.2.2) q.2.2)
 |.or a b,sc,N,e=>(A6 e).any λq=>(hd2 q.2.1).any λv=>decide (q.1=.Or)&&chkE G a sc N v.1&&chkE G b sc N (if non0 v.2.2 then v.2.1 else .BoolOp .Or (v.2.1::v.2.2) q.2.2)
 |.ife c a b,sc,N,e=>(asIf e).any λq=>tok c&&chkE G c sc N q.1&&chkE G a sc N q.2.1&&chkE G b sc N q.2.2
 |.tup es,sc,N,e=>(Wa e).any λxs=>chkEs G es sc N xs
 |.lst es,sc,N,e=>(C1 e).any λxs=>chkEs G es sc N xs
 |.dic,_,_,e=>(C2 e).any λq=>non0 q.1&&non0 q.2
 |.ix a b,sc,N,e=>(Wb e).any λq=>chkE G a sc N q.1&&chkE G b sc N q.2&&A3 q.2
 |.sl a lo hi,sc,N,e=>(Wb e).any λq=>(asSl q.2).any λs=>chkE G a sc N q.1&&chkO G lo sc N s.1&&chkO G hi sc N s.2.1&& !s.2.2.isSome
 |.call j f es,sc,N,e=>(ZK e).any λq=>(Z1 q.1).any λg=>(hd1 q.2.1).any λx=>non0 q.2.2.1&&decide (G.fns[j]?=wc g)&&glB sc g&&chkE G f sc N x.1&&chkEs G es sc N x.2
 |.bi f a es,sc,N,e=>(ZK e).any λq=>(Z1 q.1).any λg=>(hd1 q.2.1).any λx=>non0 q.2.2.1&&decide (g=(f.name:Str))&&G.bl.contains g&&glB sc g&&chkE G a sc N x.1&&chkEs G es sc N x.2
 |.b2 f a,sc,N,e=>(ZK e).any λq=>(Z1 q.1).any λg=>(the1 q.2.1).any λy=>(ZK y).any λr=>(Z1 r.1).any λk=>(the1 r.2.1).any λx=>non0 q.2.2.1&&non0 r.2.2.1&&decide (g=(f.out:Str))&&decide (k=(f.inn:Str))&&G.bl.contains g&&G.bl.contains k&&glB sc g&&glB sc k&&chkE G a sc N x
 |.st3 a,_,_,_=>wg
 |.mxd a,_,_,_=>wg
 |.mt m o es,sc,N,e=>(ZK e).any λq=>(Vp q.1).any λa=>non0 q.2.2.1&&decide (a.2.1=(m.name:Str))&&(a.2.2.endLine==q.2.2.2.line)&&chkE G o sc N a.1&&chkEs G es sc N q.2.1&&decide (q.2.1.length<20)
 |.comp own fr src tg test elt,sc,N,e=>(asLC e).any λq=>(the1 q.2.1).any λg=>VZ sc q.2.2 N own fr&&A4 g.iter&&decide (nC own fr N).Nodup&&chkSr G src sc N g.iter&&Zo (W9 q.2.2 sc) (nC own fr N) own.length wg tg g.target&&
   chkI G test (W9 q.2.2 sc) (nC own fr N) g.ifs&&chkE G elt (W9 q.2.2 sc) (nC own fr N) q.1&&decide (g.is_async=0)
 |.fld c o f,sc,N,e=>(Vp e).any λa=>decide (a.2.1=f)&&G.cls.contains (c,f)&&chkE G o sc N a.1
 |.mcall j c m o es,sc,N,e=>(ZK e).any λq=>(Vp q.1).any λa=>non0 q.2.2.1&&decide (a.2.1=m)&&G.mts.contains (j,c,m)&&chkE G o sc N a.1&&chkEs G es sc N q.2.1&&(a.2.2.endLine==q.2.2.2.line)&&decide (q.2.1.length<20)
 |.make j c a es,sc,N,e=>(ZK e).any λq=>(Z1 q.1).any λg=>(hd1 q.2.1).any λx=>non0 q.2.2.1&&decide (g=c)&&G.mks.contains (j,c)&&glB sc g&&chkE G a sc N x.1&&chkEs G es sc N x.2
 |.disp ps,_,_,_=>wg
def A9(G:GI):IPs->Scope->List Str->List (Option Expr)->List Expr->Bool
 |.nil,_,_,l,r=>non0 l&&non0 r
 |.cons k v ps,sc,N,l,r=>(hd1 l).any λq=>(hd1 r).any λs=>q.1.any λx=>chkE G k sc N x&&chkE G v sc N s.1&&A9 G ps sc N q.2 s.2
def chkEs(G:GI):IEs->Scope->List Str->List Expr->Bool
 |.nil,_,_,l=>non0 l
 |.cons e es,sc,N,l=>(hd1 l).any λq=>chkE G e sc N q.1&&chkEs G es sc N q.2
def chkO(G:GI):IO->Scope->List Str->Option Expr->Bool
 |.none,_,_,o=>!o.isSome
 |.some e,sc,N,o=>o.any λx=>chkE G e sc N x
def chkI(G:GI):IO->Scope->List Str->List Expr->Bool
 |.none,_,_,l=>non0 l
 |.some e,sc,N,l=>(the1 l).any λx=>tok e&&chkE G e sc N x
def chkSr(G:GI):ISr->Scope->List Str->Expr->Bool
 |.seq a,sc,N,e=>chkE G a sc N e
 |.rng a,sc,N,e=>(ZK e).any fun q=>(Z1 q.1).any fun f=>(the1 q.2.1).any fun x=>non0 q.2.2.1&&decide (f=("range":Str))&&G.bl.contains f&&glB sc f&&chkE G a sc N x
end
def liSp(K:X3)(l:SpM):Sp:=λu H Q _=>∃j M,RMs K H j u/\RH K M H/\l j M (Dn K H Q)
structure Cok (X:Cx)(G:GI)(Φ:List (Str×SpM)):Prop where
 room:X.A.units+70<cLine
 calm:X.calm=wf
 nox:X.xe=λ_ _=>False
 blk:X.env.blockKind=.function
 nd:X.N.Nodup
 bls:∀x,G.bl.contains x=wf->X.mg x=we
 gls:∀x i,G.gl.lookup x=wc i->∃tk,X.mg x=wc (.int i tk)
 fnn:∀(j:Nat)f,G.fns[j]?=wc f->∃sp,Φ[j]?=wc (f,sp)
 mon:∀(j:Nat)f sp,Φ[j]?=wc (f,sp)->MonW sp
 fns:∀(j:Nat)f sp,G.fns[j]?=wc f->Φ[j]?=wc (f,sp)->∃k fa fd ps,Room k X.A/\FnOk X.prog X.w X.K X.mg X.base CX0 k fa fd ps (liSp X.K sp)/\X.mg f=wc (.ref fa)/\Zm X.K (.ref fa)=wf/\Binds X.K fd ps []
 mts:∀(j:Nat)c m,G.mts.contains (j,c,m)=wf->∃f sp,Φ[j]?=wc (f,sp)/\∃k C fa fd ps,Room k X.A/\FnOk X.prog X.w X.K X.mg X.base CX0 k fa fd ps (liSp X.K sp)/\XD X.K Xp c=wc (wc (.ref C))/\Cls X.K C/\Meth X.K C m fa/\Binds X.K fd ps []
 mks:∀(j:Nat)c,G.mks.contains (j,c)=wf->∃f sp,Φ[j]?=wc (f,sp)/\∃k C fa fd ps,Room (k+1) X.A/\FnOk X.prog X.w X.K X.mg X.base CX0 k fa fd ps (liSp X.K sp)/\XD X.K Xp c=wc (wc (.ref C))/\X.mg c=wc (.ref C)/\Mk X.K C fa/\Binds X.K fd ps []
 cls:∀c f,G.cls.contains (c,f)=wf->∃C,XD X.K Xp c=wc (wc (.ref C))/\Cls X.K C/\NoAttr X.K C f
section
variable{X:Cx}{G:GI}{Φ:List (Str×SpM)}
def _nW{j:Scope}{x:Str}(h:visB j x=wf):Vis j x:=by
 unfold visB at h;unfold Vis;cases e:j.names.lookup x with
 |none=>rw[e]at h;cases h
 |some k=>rw[e]at h;cases k<;>first|erw[.inl rfl]|erw[.inr (.inl rfl)]|erw[.inr (.inr rfl)]|cases h
def C5{j:Scope}{x:Str}(h:locB j x=wf):Loc j x:=by
 unfold locB at h;unfold Loc;cases e:j.names.lookup x with
 |none=>rw[e]at h;cases h
 |some k=>rw[e]at h;cases k<;>first|erw[.inl rfl]|erw[.inr rfl]|cases h
def UQ{x:Str}(h:glB X.env.scope x=wf):Gl X x/\(x==("__debug__":Str))=wg/\x≠"__name__":=by
 unfold glB at h;simp only[XU,decide_eq_true_eq,Bool.not_eq_true']at h;erw[⟨h.1.1,h.1.2,h.2⟩]
def _nA(f:BI):YE (f.name:Str)=wc f.val:=by cases f<;>(show YE _=wc _;decide+kernel)
def _nz{c:Ty7}(h:c≠.none):YE (c.name:Str)=wc (.type c.name):=by cases c<;>first|erw[absurd rfl h]|decide+kernel
def boot_range:YE ("range":Str)=wc (.type "range"):=by decide+kernel
def _gA:∀{j:IE} {z:Scope} {N:List Str} {e:Expr},chkE G j z N e=wf->YB e=wf:=by
 intro j z N e h;have go:∀{m:Type} {o:Option m} {p:m->Bool},o.any p=wf->(∀x,o=wc x->YB e=wf)->YB e=wf:=λh g=>by have⟨x,e,_⟩:=Xg h;erw[g x e]
 have d:∀x,Z1 e=wc x->YB e=wf:=λx h=>by have⟨p,rfl⟩:=_n h;rfl
 have c:∀x,Vo e=wc x->YB e=wf:=λx h=>by have⟨k,p,rfl⟩:=A7 h;rfl
 have f:∀x,C0 e=wc x->YB e=wf:=λx h=>by have⟨p,rfl⟩:=IP h;rfl
 have q:∀x,asUn e=wc x->YB e=wf:=λx h=>by have⟨p,rfl⟩:=DW h;rfl
 have r:∀x,A5 e=wc x->YB e=wf:=λx h=>by have⟨p,rfl⟩:=DX h;rfl
 have L:∀x,A6 e=wc x->YB e=wf:=λx h=>by obtain rfl:=DY h;rfl
 have O:∀x,asIf e=wc x->YB e=wf:=λx h=>by have⟨p,rfl⟩:=IQ h;rfl
 have P:∀x,Wa e=wc x->YB e=wf:=λx h=>by have⟨k,p,rfl⟩:=C3 h;rfl
 have R:∀x,C1 e=wc x->YB e=wf:=λx h=>by have⟨p,rfl⟩:=IR h;rfl
 have T:∀x,C2 e=wc x->YB e=wf:=λx h=>by have⟨p,rfl⟩:=IT h;rfl
 have l:∀x,Wb e=wc x->YB e=wf:=λx h=>by have⟨p,rfl⟩:=C4 h;rfl
 have u:∀x,ZK e=wc x->YB e=wf:=λx h=>by obtain rfl:=Um h;rfl
 have w:∀x,asLC e=wc x->YB e=wf:=λx h=>by have⟨p,rfl⟩:=IU h;rfl
 have y:∀x,Vp e=wc x->YB e=wf:=λx h=>by obtain rfl:=A8 h;rfl
 cases j<;>first|erw[nob h]|erw[go h d]|erw[go h c]|erw[go h f]|erw[go h q]|erw[go h r]|erw[go h L]|erw[go h O]|erw[go h P]|erw[go h R]|erw[go h T]|erw[go h l]|erw[go h u]|erw[go h w]|erw[go h y]
def YC:∀{u:IE} {w:Scope} {N:List Str} {e:Expr} {l:List Expr} {j:Env},chkE G u w N e=wf->Xx (e::l) j=(wg,eval e j)::Xx l j:=by
 intro u w N e l j h;cases e<;>first|rfl|cases _gA h
theorem Up:∀{w:IEs} {y:Scope} {N:List Str} {u:List Expr} {j:Env} {l:Pos},chkEs G w y N u=wf->(Xx u j).all (λx=>!x.1)=wf
 |.nil,y,N,u,_,_,h=>by
  cases Yo h
  rfl
 |.cons e u,y,N,xs,j,l,h=>by
  replace h:=Xg h;have⟨q,m,z⟩:=h;cases Uo m;rw[XU]at z;rw[YC z.1,Vd];erw[Up (l:=l) z.2]
def _ka:∀{j:IE} {l:Scope} {N:List Str} {x:Str} {u p:Pos} {w:List Ze},chkE G j l N (.Call (.Name x u) [] w p)=wf->False:=by
 intro j l N x u p w h;revert h;cases j<;>erw[nob]
set_option tactic.hygienic true in
def Aa{u:IE}{w:Scope}{N:List Str}{o:Expr}{nm:Str}{j:Env}(h:chkE G u w N o=wf):UB o nm j (eval o j)=eval o j:=by
 cases o<;>try rfl
 rename_i y l m z
 cases y<;>try rfl
 cases l with
 |cons a r=>rfl
 |nil=>erw[(_ka h).elim]
def UR{j:Pos}{l:List (Bool×Sem X0)}(h:l.all (λx=>!x.1)=wf):(Y5 j l).all (λx=>!x.1)=wf/\(Y5 j l).any (·.1)=wg:=by
 induction l with
 |nil=>erw[⟨rfl,rfl⟩]
 |cons a r y=>
  rw[Vd,XU]at h;have⟨u,w⟩:=y h.2;have e:a.1=wg:=by simpa using h.1
  unfold Y5 at u w ⊢;rw[Xz,Vd,ZU,u,w];have⟨b,t⟩:=a;cases e;erw[⟨rfl,rfl⟩]
end
def tCW2(own:List Str)(fr:List Nat)(g:TG)(e:TT)(L:TE)(z:St)(O:Hp)(Q:VK)(J:It)(D:Addr):Prop:=∃W:Nat->Nat->List V->Hp->Prop,
 (∃m,W 0 m [] (upd O D (.lst [])))/\∀i m d l,W i m d l->
  ((J.stop i l/\Q (.ref D) l)\/(J.go i l/\∃N:List V->Hp->Prop,(∀u c,N u c->∃f,f<m/\W (i+1) f u c)/\∀x q,J.yld i l x q->g x (sC own fr z) q λj P=>Keep (sC own fr z) j/\e j P λb r=>
   if b=wf then L j r λy p=>∃w,p D=wc (.lst w)/\w.length<sizeLine/\N (w++[y]) (upd p D (.lst (w++[y])))else N d r))
def DZ(own:List Str)(fr:List Nat)(u:TI)(g:TG)(w:TT)(y:TE):TE:=λj H Q=>u j H λJ l=>∀D,l D=we->tCW2 own fr g w y j l Q J D
section
variable{X:Cx}{pq:List (Addr×Obj)}{σ:St}{H1:Hp}{s2:X1}{tg elt iter:Expr}{ifs:List Expr}{scope:Scope}{pos:Pos}{own:List Str}{fr:List Nat}{g:TG}{tt:TT}{te:TE}
def IX{J:It}{j:List Addr}{it:Addr}{H:Nat->Heap->Prop}{RR:X0->Addr->Result->X1->Prop}{Q:VK}{E:X0->X1->Prop}(hc:X.calm=wf)(ok:CompOk X.env.scope scope X.N fr)
  (hg:∀C j f L,PG (cxC X scope own fr C j f L) tg g)(ht:∀C j f L,PTs (cxC X scope own fr C j f L) ifs tt)(he:∀C j f L,PE (cxC X scope own fr C j f L) elt te)
  (I2:Inv X pq σ H1 s2)(T:Turn X.prog X.w X.K tg J j it H)(st:H 0 s2.heap)(A:∀b∈j,FpOk X pq H1 b)
  (h:∀D,H1 D=we->tCW2 own fr g tt te σ H1 Q J D)
  (hRR:∀D C w s',Inv X pq σ w s'->(∃m,s'.heap.Ns C m)->w C=we->C≠X.env.locals->X.s₀.heap.objs.size<=C->(∀x c,X.env.cells.lookup x=wc c->c≠C)->(∀p∈X.pn++pq,p.1≠C)->Q (.ref D) w->RR (.ref D) C (.ok .next) s'):
  X4 (X8 X.prog X.w) X.A (newList []) (λacc f=>X4 (X8 X.prog X.w) X.A (newFunctionEnv scope X.env.globals (clOf X.env.cells scope.names []) [] X.env.qual we .none (wc X.env)) (λF R=>
   YY (X8 X.prog X.w) X.A (.compStart (.ListComp elt [⟨tg,iter,ifs,0⟩] scope pos) 0 (.ref it) acc {F with scope:=relabel scope X.env}) (RR acc F.locals) R) E f) E s2:=by
 have hD:H1 s2.heap.objs.size=we:=I2.hok.fresh (Xa _);have⟨W,⟨m0,w0⟩,step⟩:=h _ hD;erw[U9 (wpAny_newFunctionEnv ok.nocell (by intro y hy;simp at hy) (λh4 s a=>?_) ok.kind)]
 dsimp only at s a ⊢;have I3:Inv X pq σ (upd H1 s2.heap.objs.size (.lst [])) {s2 with heap:=s2.heap.push {cls:=.type "list",dict:=we,data:=.seq ([]:List X0).toArray},toks:=s2.toks}:=
  I2.laid (λb u e=>Xt _ e) (Xa _) ⟨Yg _,[],0,.nil,XT _ rfl⟩
 have fpo:∀b∈j,∃o,s2.heap.get? b=wc o:=λb l=>by have⟨o,e,_⟩:=T.obj 0 _ st b l;erw[⟨o,e⟩]
 have fpD:∀b∈j,b≠s2.heap.objs.size:=λb l=>by have⟨o,e⟩:=fpo b l;erw[XG (Xu e)]
 have hf3:∀b∈j,FpOk X pq (upd H1 s2.heap.objs.size (.lst [])) b:=λb l=>⟨by rw[XE (fpD b l)];erw[(A b l).1],(A b l).2⟩
 generalize hs3:({s2 with heap:=s2.heap.push {cls:=.type "list",dict:=we,data:=.seq ([]:List X0).toArray},toks:=s2.toks}:X1)=s3 at*;have e3:s2.heap.push {cls:=.type "list",dict:=we,data:=.seq ([]:List X0).toArray}=s3.heap:=by rw[<-hs3]
 rw[e3]at s a ⊢;have kp:∀b o,s3.heap.get? b=wc o->h4.get? b=wc o:=λb o e=>(a.2 b (XG (Xu e))).trans (Xt _ e);have G:∀b∈j,∃o,s3.heap.get? b=wc o:=λb l=>let⟨o,e⟩:=fpo b l;⟨o,by rw[<-e3];erw[Xt _ e]⟩
 have I4:=_gx (own:=own) (scope:=scope) (fr:=fr) (tk:=s2.toks+0) ok I3 rfl hf3 G s kp;have st4:H 0 h4:=T.keep _ _ _ st λb l o e=>kp b o (by rw[<-e3];erw[Xt _ e])
 have fpC:∀b∈j,b≠s3.heap.objs.size:=λb l=>by have⟨o,e⟩:=G b l;erw[XG (Xu e)]
 have U:∀{w:Hp},(∀b∈j,w b=we)->∀b∈j,FpOk (cxC X scope own fr s3.heap.objs.size j s3 (upd H1 s2.heap.objs.size (.lst []))) pq w b:=λhn b l=>by
  erw[⟨hn b l,fpC b l,λz=>?_,.inl l,λx c e=>?_,(A b l).2.2.2.2.2⟩]
  .rcases Xk.mp (I3.stkSub b z)with z|z
   .erw[(A b l).2.1 z]
   .erw[(A b l).2.2.1 z]
  .erw[(A b l).2.2.2.2.1 x c ((WU _ _ _ _ _ e).elim (λz=>by simp at z) id)]
 have I:YY (X8 X.prog X.w) X.A (.compLoop (.ListComp elt [⟨tg,iter,ifs,0⟩] scope pos) 0 (.ref it) (.ref s2.heap.objs.size) (compEnvC scope (clOf X.env.cells scope.names []) s3.heap.objs.size X.env))
   (RR (.ref s2.heap.objs.size) s3.heap.objs.size) {s3 with heap:=h4,toks:=s2.toks+0}:=by
  erw[_dK (λn s'=>∃i B w,Inv (cxC X scope own fr s3.heap.objs.size j s3 (upd H1 s2.heap.objs.size (.lst []))) pq (sC own fr σ) w s'/\H i s'.heap/\(∀b∈j,w b=we)/\W i n B w) ?_ m0
   ⟨0,[],_,I4,st4,λb l=>(hf3 b l).1,w0⟩]
  rintro n s5 ⟨i,B,H5,I5,st5,fr5,w5⟩;have way:=step i n B H5 w5;rcases way with⟨stop,q⟩|⟨go,N,hN,turn⟩
  .erw[thn (T.done (cxC X scope own fr s3.heap.objs.size j s3 (upd H1 s2.heap.objs.size (.lst []))) rfl rfl rfl hc i pq s5 _ H5 _ I5 (U fr5) st5 stop) λr s6 Y=>?_];have⟨hr,I6⟩:=Y;subst hr;have J6:Inv X pq σ H5 s6:=I3.call' I6.os I6.base I6.hok I6.bare λb l=>⟨(A b l).2.2.2.1,(A b l).2.1,(A b l).2.2.2.2.1,(A b l).2.2.2.2.2⟩;have⟨m6,ns6,_⟩:=I6.loc;erw[hRR _ _ H5 s6 J6 ⟨m6,ns6⟩ I6.free (Bm I3.lt) I3.sz (λx c e=>?_) (λp hp=>?_) q]
   .have⟨v,z⟩:=I3.cell x c e;erw[XG z.lt]
   .erw[XG (Xu (I3.pin p hp).1)]
  .erw[thn (T.item (cxC X scope own fr s3.heap.objs.size j s3 (upd H1 s2.heap.objs.size (.lst []))) rfl rfl rfl hc i pq s5 _ H5 _ I5 (U fr5) st5 go) λr s6 Y=>?_];have⟨u,hr,h6⟩:=Y;subst hr;erw[thn h6 λ_ s7 Y=>?_];have⟨x,H7,I7,r7,y7,st7,fr7⟩:=Y;have I7':=I7.pinned (U fr7) (T.obj _ _ st7);erw[thn (hg _ _ _ _ _ s7 _ H7 x u _ I7' r7 (turn x H7 y7)) λ_ s8 Y=>?_];have⟨O,H8,I8,kp8,q8⟩:=Y;have again:∀{Z:Hp} {P:X1},Inv (cxC X scope own fr s3.heap.objs.size j s3 (upd H1 s2.heap.objs.size (.lst []))) (pq++VU j s7.heap) O Z P->∀{ys'},(∃m',m'<n/\W (i+1) m' ys' Z)->
     ∃m,m<n/\∃i B w,Inv (cxC X scope own fr s3.heap.objs.size j s3 (upd H1 s2.heap.objs.size (.lst []))) pq (sC own fr σ) w P/\H i P.heap/\(∀b∈j,w b=we)/\W i m B w:=fun{Z P} M {ys'} ⟨m',hm,w9⟩=>by
    erw[⟨m',hm,i+1,ys',Z,(M.unpinned).weak kp8.1 kp8.2,T.keep _ _ _ st7 λb l o e=>(M.pin (b,o) (Zw _ (Zw _ (BQ l e)))).1,λb l=>?_,w9⟩];have⟨o,e,d⟩:=T.obj _ _ st7 b l;erw[(M.pin (b,o) (Zw _ (Zw _ (BQ l e)))).2.1]
   have fin:∀{ok:Bool} {P:X1} {Z:Hp},Inv (cxC X scope own fr s3.heap.objs.size j s3 (upd H1 s2.heap.objs.size (.lst []))) (pq++VU j s7.heap) O Z P->
     (if ok=wf then te O Z λy H6=>∃zs,H6 s2.heap.objs.size=wc (.lst zs)/\zs.length<sizeLine/\N (zs++[y]) (upd H6 s2.heap.objs.size (.lst (zs++[y])))else N B Z)->
     (if ok=wf then X4 (X8 X.prog X.w) X.A (eval elt (compEnvC scope (clOf X.env.cells scope.names []) s3.heap.objs.size X.env)) (λx R=>
      X4 (X8 X.prog X.w) X.A (call (.builtin "list.append") [.ref s2.heap.objs.size,x]) (fun _ S=>∃m,m<n/\∃i B w,Inv (cxC X scope own fr s3.heap.objs.size j s3 (upd H1 s2.heap.objs.size (.lst []))) pq (sC own fr σ) w S/\H i S.heap/\(∀b∈j,w b=we)/\W i m B w) (fun _ _=>False) R) (fun _ _=>False) P
      else∃m,m<n/\∃i B w,Inv (cxC X scope own fr s3.heap.objs.size j s3 (upd H1 s2.heap.objs.size (.lst []))) pq (sC own fr σ) w P/\H i P.heap/\(∀b∈j,w b=we)/\W i m B w):=fun{ok P Z} M q9=>by
    cases ok with
    |false=>
     rw[if_neg XB]at q9 ⊢;erw[again M (hN _ _ q9)]
    |true=>
     rw[if_pos rfl]at q9 ⊢;erw[thn (he _ _ _ _ _ P O Z _ M q9) λv s10 Y=>?_];have⟨y,H10,I10,r10,zs,hl10,hz5,w10⟩:=Y;erw[thn (Hs (X:=cxC X scope own fr s3.heap.objs.size j s3 (upd H1 s2.heap.objs.size (.lst []))) _ s10 O H10 (.ref s2.heap.objs.size) [y] (.ref s2.heap.objs.size) [v] (λ_ w=>w=upd H10 s2.heap.objs.size (.lst (zs++[y]))) I10 rfl (.cons r10 .nil) ⟨_,zs,y,rfl,rfl,hl10,hz5,rfl⟩) λ_ s11 Y=>?_];have⟨_,H11,I11,_,e11⟩:=Y;subst e11;erw[again I11 (hN _ _ w10)]
   rcases ht s3.heap.objs.size j s3 (upd H1 s2.heap.objs.size (.lst []))with⟨e,et⟩|⟨c,e,hcT⟩
   .subst e et;erw[wpAny_tests_nil (fin (ok:=wf) I8 q8)]
   .subst e;erw[wpAny_tests_one (thn (hcT _ s8 O H8 _ I8 q8) λb P ⟨Z,M,q9⟩=>fin M q9)]
 subst hs3;erw[codeAny_compStart_list I (T.self _ 0 _ _ _ st4 I)]
def _k0(own:List Str)(fr:List Nat){c:TI}(hx:∀e s,¬X.xe e s)(f:X.calm=wf)(ok:VZ X.env.scope scope X.N own fr=wf)(r:PI X tg iter c)
  (p:∀C w j l,PG (cxC X scope own fr C w j l) tg g)(L:∀C w j l,PTs (cxC X scope own fr C w j l) ifs tt)(N:∀C w j l,PE (cxC X scope own fr C w j l) elt te)
  (O:∀x,AO iter X.env x=pure x:=by intro _;rfl):
  PE X (.ListComp elt [⟨tg,iter,ifs,0⟩] scope pos) (DZ own fr c g tt te):=by
 have u:=W0 ok;intro pq s σ H Q I h;rw[eval_ListComp];erw[wpAny_comprehension_free (use:=we) (cl:=clOf X.env.cells scope.names []) rfl O (HC λy P U=>I.ok.has y.1 (u.has y P U)) u.kind u.names (thn (r pq s σ H _ I h) λv s1 W=>thn W λY s2 Z=>?_)];have⟨it,w,tn,J,H2,e,A,T,z,B,R⟩:=Z;subst e;erw[IX (RR:=λd C=>compPost (X8 X.prog X.w) X.A X.xe we (EP X pq σ Q) d C) (Q:=Q) f u p L N A T z B R ?_];rintro D C E F G ⟨m,M⟩ S i n a c5 q;erw[⟨m,M,λh' sb=>⟨.ref D,E,?_,rfl,q⟩⟩];erw[G.turned (g:=F.toks) (λb o hb e=>(sb.2 b hb).trans e) S i (.inr n) a c5]
def _ei(own:List Str)(fr:List Nat){i:Nat}{y:Str}{c d:Pos}{F:TI}(S:X.N.Nodup)(n:X.N[i]?=wc y)(p:Loc X.env.scope y)(hx:∀e s,¬X.xe e s)(hc:X.calm=wf)(ok:VZ X.env.scope scope X.N own fr=wf)(L:PI X tg iter F)
  (hg:∀C f j l,PG (cxC X scope own fr C f j l) tg g)(ht:∀C f j l,PTs (cxC X scope own fr C f j l) ifs tt)(he:∀C f j l,PE (cxC X scope own fr C f j l) elt te)
  (N:ZP (.ListComp elt [⟨tg,iter,ifs,0⟩] scope pos) (wc (.Name y c)) d.line X.env=pure wf:=by rfl)(hs:∀x,AO iter X.env x=pure x:=by intro _;rfl)
  (hf:X.fn y=wf\/X.env.scope.names.lookup y=wc .local:=by first|erw[.inl rfl]|erw[.inr rfl]|assumption):
  PS X (.Assign [.Name y c] (.ListComp elt [⟨tg,iter,ifs,0⟩] scope pos) d) (tAsg (DZ own fr F g tt te) (BP i)):=by
 have w:=W0 ok;intro pq s σ H D I h;rw[exec_Assign_Name_used _ _ _ _ N];erw[X2 (wpAny_standAt (X2 ?_))];show X4 _ X.A (do let _<- comprehension (.ListComp elt [⟨tg,iter,ifs,0⟩] scope pos) scope X.env _ (newList []) wg (eval iter X.env) (wc (assign (.Name y c) X.env))) _ _ s
 erw[X2 (ZN (wpAny_comprehension_free (use:=wc (assign (.Name y c) X.env)) (cl:=clOf X.env.cells scope.names []) (Q:=λ_ r=>SP X pq D .next r) rfl hs (HC λy p hk=>I.ok.has y.1 (w.has y p hk)) w.kind w.names
  (thn (L pq s σ H _ I h) λv s1 h1=>thn h1 λitv s2 h2=>?_)) (λ_ r hq=>Xd (Xd hq)) λ_ _ e=>e)]
 have⟨it,f,tn,J,H2,e,I2,T,O,f2,R⟩:=h2;subst e;erw[IX (RR:=λP C=>compPost (X8 X.prog X.w) X.A X.xe (wc (assign (.Name y c) X.env)) (λ_ r=>SP X pq D .next r) P C) (Q:=λv U=>D.nx (σ.set i (wc v)) U) hc w hg ht he I2 T O f2 R ?_];rintro E C U r I' ⟨m,ns⟩ c1 G c3 M c5 q;show X4 _ X.A (assign (.Name y c) X.env (.ref E)) _ _ _;erw[wpAny_assign_Name (GF I' S n p (v:=.ref E) (u:=.ref E) rfl (λW Y Z=>?_) hf)];have⟨a,Z,ha⟩:=Z;have A:C≠a:=by
  rcases ha with z|z
  .rw[z];erw[G]
  .erw[λe=>M _ _ z e.symm]
 erw[⟨m,ns.sameBut Z A,λh' B=>⟨_,U,?_,q⟩⟩];erw[Y.turned (g:=W.toks) (λb o hb e=>(B.2 b hb).trans e) c1 G (.inr c3) M c5]
end
def hide{G:Prop}(h:∀j:Prop,(G->j)->j):G:=h G id
section
variable{G:GI}{sc:Scope}{N:List Str}{e:Expr}
def Xf{a b:Bool}(h:(a&&b)=wf):a=wf/\b=wf:=by rwa [XU]at h
def XO{p:Prop} [Decidable p] (h:decide p=wf):p:=of_decide_eq_true h
def not_of{b:Bool}(h:(!b)=wf):b=wg:=by cases b with|false=>rfl|true=>cases h
def _mZ{i:Nat}(h:chkE G (.var i) sc N e=wf):∃x p,e=.Name x p/\N[i]?=wc x/\visB sc x=wf/\(x==("__debug__":Str))=wg/\(x==("__classdict__":Str))=wg:=by
 erw[hide λ_ k=>?_];replace h:=Xg h;have⟨x,j,h⟩:=h;have⟨p,rfl⟩:=_n j;replace h:=Xf h;have⟨h,l⟩:=h;replace h:=Xf h;have⟨h,u⟩:=h;replace h:=Xf h;have⟨w,y⟩:=h;erw[k ⟨x,p,rfl,XO w,y,not_of u,not_of l⟩]
def _n7{i:Int}(h:chkE G (.int i) sc N e=wf):∃k p,e=.Constant (.int i) k p:=by
 replace h:=Xg h;have⟨x,j,h⟩:=h;have⟨k,p,rfl⟩:=A7 j;erw[⟨k,p,by rw[XO h]⟩]
def _n1{i:Str}(h:chkE G (.str i) sc N e=wf):∃k p,e=.Constant (.str i) k p:=by
 replace h:=Xg h;have⟨x,j,h⟩:=h;have⟨k,p,rfl⟩:=A7 j;erw[⟨k,p,by rw[XO h]⟩]
def _pK{i:Bool}(h:chkE G (.bl i) sc N e=wf):∃k p,e=.Constant (.bool i) k p:=by
 replace h:=Xg h;have⟨x,j,h⟩:=h;have⟨k,p,rfl⟩:=A7 j;erw[⟨k,p,by rw[XO h]⟩]
def _n4(h:chkE G .non sc N e=wf):∃k p,e=.Constant .none k p:=by
 replace h:=Xg h;have⟨x,j,h⟩:=h;have⟨k,p,rfl⟩:=A7 j;erw[⟨k,p,by rw[XO h]⟩]
def _n9{x:Str}{i:Int}(h:chkE G (.glb x i) sc N e=wf):∃p,e=.Name x p/\G.gl.lookup x=wc i/\glB sc x=wf:=by
 erw[hide λ_ k=>?_];replace h:=Xg h;have⟨y,j,h⟩:=h;have⟨p,rfl⟩:=_n j;replace h:=Xf h;have⟨h,l⟩:=h;replace h:=Xf h;have⟨u,w⟩:=h;obtain rfl:=XO u;erw[k ⟨p,rfl,XO w,l⟩]
def _pF{c:Ty7}(h:chkE G (.ty c) sc N e=wf):∃p,e=.Name (c.name:Str) p/\c≠.none/\G.bl.contains (c.name:Str)=wf/\glB sc (c.name:Str)=wf:=by
 erw[hide λ_ k=>?_];replace h:=Xg h;have⟨y,j,h⟩:=h;have⟨p,rfl⟩:=_n j;replace h:=Xf h;have⟨h,l⟩:=h;replace h:=Xf h;have⟨h,u⟩:=h;replace h:=Xf h;have⟨w,z⟩:=h;obtain rfl:=XO w;erw[k ⟨p,rfl,XO z,u,l⟩]
def _ne{j:UA}{a b:IE}(h:chkE G (.bin j a b) sc N e=wf):∃l r p,e=.BinOp l j r p/\chkE G a sc N l=wf/\chkE G b sc N r=wf:=by
 erw[hide λ_ k=>?_];replace h:=Xg h;have⟨⟨l,o,r⟩,u,h⟩:=h;have⟨p,rfl⟩:=IP u;replace h:=Xf h;have⟨h,w⟩:=h;replace h:=Xf h;have⟨y,z⟩:=h;obtain rfl:=XO y;erw[k ⟨l,r,p,rfl,z,w⟩]
def _n5{a:IE}(h:chkE G (.neg a) sc N e=wf):∃l p,e=.UnaryOp .USub l p/\chkE G a sc N l=wf:=by
 erw[hide λ_ k=>?_];replace h:=Xg h;have⟨⟨o,l⟩,j,h⟩:=h;have⟨p,rfl⟩:=DW j;replace h:=Xf h;have⟨u,w⟩:=h;obtain rfl:=XO u;erw[k ⟨l,p,rfl,w⟩]
def _n3{a:IE}(h:chkE G (.not a) sc N e=wf):∃l p,e=.UnaryOp .Not l p/\chkE G a sc N l=wf:=by
 erw[hide λ_ k=>?_];replace h:=Xg h;have⟨⟨o,l⟩,j,h⟩:=h;have⟨p,rfl⟩:=DW j;replace h:=Xf h;have⟨u,w⟩:=h;obtain rfl:=XO u;erw[k ⟨l,p,rfl,w⟩]
def _nc{j:CmpOp}{a b:IE}(h:chkE G (.cmp j a b) sc N e=wf):∃l r p,e=.Compare l [j] [r] p/\chkE G a sc N l=wf/\chkE G b sc N r=wf/\behindInMarks j r=wg:=by
 erw[hide λ_ k=>?_];replace h:=Xg h;have⟨⟨l,os,c⟩,u,h⟩:=h;have⟨p,rfl⟩:=DX u;replace h:=Xg h;have⟨o,w,h⟩:=h;replace h:=Xg h;have⟨r,y,h⟩:=h;obtain rfl:=_L w;obtain rfl:=_L y;replace h:=Xf h;have⟨h,z⟩:=h;replace h:=Xf h;have⟨h,m⟩:=h;replace h:=Xf h;have⟨g,d⟩:=h;obtain rfl:=XO g;erw[k ⟨l,r,p,rfl,d,m,not_of z⟩]
def _nd{u j:CmpOp}{a b c:IE}(h:chkE G (.chn u j a b c) sc N e=wf):∃l m r p,e=.Compare l [u,j] [m,r] p/\chkE G a sc N l=wf/\chkE G b sc N m=wf/\chkE G c sc N r=wf/\lastMarks [u,j] [m,r]=wg:=by
 erw[hide λ_ k=>?_];replace h:=Xg h;have⟨⟨l,os,P⟩,w,h⟩:=h;have⟨p,rfl⟩:=DX w;replace h:=Xg h;have⟨⟨o,R⟩,y,h⟩:=h;replace h:=Xg h;have⟨⟨m,r⟩,z,h⟩:=h;obtain rfl:=IV y;obtain rfl:=IV z;replace h:=Xf h;have⟨h,g⟩:=h;replace h:=Xf h;have⟨h,d⟩:=h;replace h:=Xf h;have⟨h,f⟩:=h;replace h:=Xf h;have⟨h,q⟩:=h;replace h:=Xf h;have⟨L,O⟩:=h;obtain rfl:=XO L;obtain rfl:=XO O;erw[k ⟨l,m,r,p,rfl,q,f,d,not_of g⟩]
def _nf{a b:IE}(h:chkE G (.and a b) sc N e=wf):∃l r rest p,e=.BoolOp .And (l::r::rest) p/\chkE G a sc N l=wf/\((rest=[]/\chkE G b sc N r=wf)\/chkE G b sc N (.BoolOp .And (r::rest) p)=wf):=by
 replace h:=Xg h;have⟨⟨o,z,p⟩,w,h⟩:=h;obtain rfl:=DY w;replace h:=Xg h;have⟨⟨l,r,rest⟩,j,h⟩:=h;obtain rfl:=IW j;replace h:=Xf h;have⟨h,u⟩:=h;replace h:=Xf h;have⟨j,y⟩:=h;obtain rfl:=XO j;erw[⟨l,r,rest,p,rfl,y,?_⟩];cases rest with
 |nil=>erw[.inl ⟨rfl,u⟩]
 |cons _ _=>erw[.inr u]
def _pH{a b:IE}(h:chkE G (.or a b) sc N e=wf):∃l r rest p,e=.BoolOp .Or (l::r::rest) p/\chkE G a sc N l=wf/\((rest=[]/\chkE G b sc N r=wf)\/chkE G b sc N (.BoolOp .Or (r::rest) p)=wf):=by
 replace h:=Xg h;have⟨⟨o,z,p⟩,w,h⟩:=h;obtain rfl:=DY w;replace h:=Xg h;have⟨⟨l,r,rest⟩,j,h⟩:=h;obtain rfl:=IW j;replace h:=Xf h;have⟨h,u⟩:=h;replace h:=Xf h;have⟨j,y⟩:=h;obtain rfl:=XO j;erw[⟨l,r,rest,p,rfl,y,?_⟩];cases rest with
 |nil=>erw[.inl ⟨rfl,u⟩]
 |cons _ _=>erw[.inr u]
def _n8{a b c:IE}(h:chkE G (.ife c a b) sc N e=wf):∃t x y p,e=.IfExp t x y p/\tok c=wf/\chkE G c sc N t=wf/\chkE G a sc N x=wf/\chkE G b sc N y=wf:=by
 erw[hide λ_ k=>?_];replace h:=Xg h;have⟨⟨t,x,y⟩,j,h⟩:=h;have⟨p,rfl⟩:=IQ j;replace h:=Xf h;have⟨h,l⟩:=h;replace h:=Xf h;have⟨h,u⟩:=h;replace h:=Xf h;have⟨w,z⟩:=h;erw[k ⟨t,x,y,p,rfl,w,z,u,l⟩]
def _n0{l:IEs}(h:chkE G (.tup l) sc N e=wf):∃j k p,e=.Tuple j k p/\chkEs G l sc N j=wf:=by
 replace h:=Xg h;have⟨j,u,h⟩:=h;have⟨k,p,rfl⟩:=C3 u;erw[⟨j,k,p,rfl,h⟩]
def _n6{l:IEs}(h:chkE G (.lst l) sc N e=wf):∃j p,e=.List j p/\chkEs G l sc N j=wf:=by
 replace h:=Xg h;have⟨j,u,h⟩:=h;have⟨p,rfl⟩:=IR u;erw[⟨j,p,rfl,h⟩]
def _nb(h:chkE G .dic sc N e=wf):∃p,e=.Dict [] [] p:=by
 erw[hide λ_ k=>?_];replace h:=Xg h;have⟨⟨w,y⟩,j,h⟩:=h;have⟨p,rfl⟩:=IT j;replace h:=Xf h;have⟨l,u⟩:=h;cases Yo l;cases Yo u;erw[k ⟨p,rfl⟩]
def _pJ{a b:IE}(h:chkE G (.ix a b) sc N e=wf):∃x y p,e=.Subscript x y p/\chkE G a sc N x=wf/\chkE G b sc N y=wf/\A3 y=wf:=by
 erw[hide λ_ k=>?_];replace h:=Xg h;have⟨⟨x,y⟩,j,h⟩:=h;have⟨p,rfl⟩:=C4 j;replace h:=Xf h;have⟨h,l⟩:=h;replace h:=Xf h;have⟨u,w⟩:=h;erw[k ⟨x,y,p,rfl,u,w,l⟩]
def _pG{a:IE}{lo w:IO}(h:chkE G (.sl a lo w) sc N e=wf):∃x l u p j,e=.Subscript x (.Slice l u we j) p/\chkE G a sc N x=wf/\chkO G lo sc N l=wf/\chkO G w sc N u=wf:=by
 replace h:=Xg h;have⟨⟨x,y⟩,z,h⟩:=h;have⟨p,rfl⟩:=C4 z;replace h:=Xg h;have⟨⟨l,u,st⟩,m,h⟩:=h;have⟨j,rfl⟩:=_nF m;replace h:=Xf h;have⟨h,g⟩:=h;replace h:=Xf h;have⟨h,d⟩:=h;replace h:=Xf h;have⟨c,f⟩:=h;cases st with
 |some _=>cases g
 |none=>erw[⟨x,l,u,p,j,rfl,c,f,d⟩]
def _km{j:Nat}{a:IE}{y:IEs}(h:chkE G (.call j a y) sc N e=wf):∃f p x u w,e=.Call (.Name f p) (x::u) [] w/\G.fns[j]?=wc f/\glB sc f=wf/\chkE G a sc N x=wf/\chkEs G y sc N u=wf:=by
 erw[hide λ_ k=>?_];replace h:=Xg h;have⟨⟨f,l,P,w⟩,z,h⟩:=h;obtain rfl:=Um z;replace h:=Xg h;have⟨g,m,h⟩:=h;have⟨p,rfl⟩:=_n m;replace h:=Xg h;have⟨⟨x,u⟩,d,h⟩:=h;obtain rfl:=Uo d;replace h:=Xf h;have⟨h,c⟩:=h;replace h:=Xf h;have⟨h,q⟩:=h;replace h:=Xf h;have⟨h,r⟩:=h;replace h:=Xf h;have⟨L,O⟩:=h;obtain rfl:=Yo L;erw[k ⟨g,p,x,u,w,rfl,XO O,r,q,c⟩]
def _pL{f:BI}{a:IE}{w:IEs}(h:chkE G (.bi f a w) sc N e=wf):∃p x j u,e=.Call (.Name (f.name:Str) p) (x::j) [] u/\G.bl.contains (f.name:Str)=wf/\glB sc (f.name:Str)=wf/\chkE G a sc N x=wf/\chkEs G w sc N j=wf:=by
 erw[hide λ_ k=>?_];replace h:=Xg h;have⟨⟨P,l,R,u⟩,y,h⟩:=h;obtain rfl:=Um y;replace h:=Xg h;have⟨g,z,h⟩:=h;have⟨p,rfl⟩:=_n z;replace h:=Xg h;have⟨⟨x,j⟩,m,h⟩:=h;obtain rfl:=Uo m;replace h:=Xf h;have⟨h,d⟩:=h;replace h:=Xf h;have⟨h,c⟩:=h;replace h:=Xf h;have⟨h,q⟩:=h;replace h:=Xf h;have⟨h,r⟩:=h;replace h:=Xf h;have⟨L,O⟩:=h;obtain rfl:=Yo L;obtain rfl:=XO O;erw[k ⟨p,x,j,u,rfl,r,q,c,d⟩]
def _pM{f:B2}{a:IE}(h:chkE G (.b2 f a) sc N e=wf):∃p u x w j,e=.Call (.Name (f.out:Str) p) [.Call (.Name (f.inn:Str) u) [x] [] j] [] w/\G.bl.contains (f.out:Str)=wf/\G.bl.contains (f.inn:Str)=wf/\glB sc (f.out:Str)=wf/\glB sc (f.inn:Str)=wf/\chkE G a sc N x=wf:=by
 erw[hide λ_ k=>?_];replace h:=Xg h;have⟨⟨C,l,D,w⟩,z,h⟩:=h;obtain rfl:=Um z;replace h:=Xg h;have⟨g,m,h⟩:=h;have⟨p,rfl⟩:=_n m;replace h:=Xg h;have⟨y,d,h⟩:=h;obtain rfl:=_L d;replace h:=Xg h;have⟨⟨c,E,q,j⟩,r,h⟩:=h;obtain rfl:=Um r;replace h:=Xg h;have⟨k,L,h⟩:=h;have⟨u,rfl⟩:=_n L;replace h:=Xg h;have⟨x,O,h⟩:=h;obtain rfl:=_L O;simp only[XU]at h;have⟨⟨⟨⟨⟨⟨⟨⟨P,R⟩,T⟩,U⟩,W⟩,Y⟩,Z⟩,A⟩,B⟩:=h;obtain rfl:=Yo P;obtain rfl:=Yo R;obtain rfl:=XO T;obtain rfl:=XO U;erw[k ⟨p,u,x,w,j,rfl,W,Y,Z,A,B⟩]
def _pI{m:MT}{o:IE}{y:IEs}(h:chkE G (.mt m o y) sc N e=wf):∃l u j w,e=.Call (.Attribute l (m.name:Str) u) j [] w/\(u.endLine==w.line)=wf/\chkE G o sc N l=wf/\chkEs G y sc N j=wf/\j.length<20:=by
 erw[hide λ_ k=>?_];replace h:=Xg h;have⟨⟨L,j,O,w⟩,z,h⟩:=h;obtain rfl:=Um z;replace h:=Xg h;have⟨⟨l,P,u⟩,g,h⟩:=h;obtain rfl:=A8 g;replace h:=Xf h;have⟨h,d⟩:=h;replace h:=Xf h;have⟨h,c⟩:=h;replace h:=Xf h;have⟨h,f⟩:=h;replace h:=Xf h;have⟨h,q⟩:=h;replace h:=Xf h;have⟨r,p⟩:=h;obtain rfl:=Yo r;obtain rfl:=XO p;erw[k ⟨l,u,j,w,rfl,q,f,c,XO d⟩]
def IY{own:List Str}{fr:List Nat}{w:ISr}{g:ITg}{u:IO}{y:IE}(h:chkE G (.comp own fr w g u y) sc N e=wf):∃x t z l j p,e=.ListComp x [⟨t,z,l,0⟩] j p/\VZ sc j N own fr=wf/\A4 z=wf/\
  (nC own fr N).Nodup/\chkSr G w sc N z=wf/\Zo (W9 j sc) (nC own fr N) own.length wg g t=wf/\chkI G u (W9 j sc) (nC own fr N) l=wf/\chkE G y (W9 j sc) (nC own fr N) x=wf:=by
 replace h:=Xg h;have⟨⟨x,R,j⟩,d,h⟩:=h;have⟨p,rfl⟩:=IU d;replace h:=Xg h;have⟨⟨t,z,l,k⟩,m,h⟩:=h;obtain rfl:=_L m;replace h:=Xf h;have⟨h,c⟩:=h;replace h:=Xf h;have⟨h,f⟩:=h;replace h:=Xf h;have⟨h,q⟩:=h;replace h:=Xf h;have⟨h,r⟩:=h;replace h:=Xf h;have⟨h,L⟩:=h;replace h:=Xf h;have⟨h,O⟩:=h;replace h:=Xf h;have⟨m,P⟩:=h;obtain rfl:=XO c;erw[⟨x,t,z,l,j,p,rfl,m,P,XO O,L,r,q,f⟩]
def _na{c f:Str}{o:IE}(h:chkE G (.fld c o f) sc N e=wf):∃j p,e=.Attribute j f p/\G.cls.contains (c,f)=wf/\chkE G o sc N j=wf:=by
 erw[hide λ_ k=>?_];replace h:=Xg h;have⟨⟨j,z,p⟩,l,h⟩:=h;obtain rfl:=A8 l;replace h:=Xf h;have⟨h,u⟩:=h;replace h:=Xf h;have⟨w,y⟩:=h;obtain rfl:=XO w;erw[k ⟨j,p,rfl,y,u⟩]
def _i7{j:Nat}{c m:Str}{o:IE}{z:IEs}(h:chkE G (.mcall j c m o z) sc N e=wf):∃u w l y,e=.Call (.Attribute u m w) l [] y/\G.mts.contains (j,c,m)=wf/\chkE G o sc N u=wf/\chkEs G z sc N l=wf/\(w.endLine==y.line)=wf/\l.length<20:=by
 erw[hide λ_ k=>?_];replace h:=Xg h;have⟨⟨R,l,T,y⟩,g,h⟩:=h;obtain rfl:=Um g;replace h:=Xg h;have⟨⟨u,U,w⟩,d,h⟩:=h;obtain rfl:=A8 d;simp only[XU]at h;have⟨⟨⟨⟨⟨⟨f,q⟩,r⟩,p⟩,L⟩,O⟩,P⟩:=h;obtain rfl:=Yo f;obtain rfl:=XO q;erw[k ⟨u,w,l,y,rfl,r,p,L,O,XO P⟩]
def _kl{j:Nat}{c:Str}{a:IE}{y:IEs}(h:chkE G (.make j c a y) sc N e=wf):∃p x u w,e=.Call (.Name c p) (x::u) [] w/\G.mks.contains (j,c)=wf/\glB sc c=wf/\chkE G a sc N x=wf/\chkEs G y sc N u=wf:=by
 erw[hide λ_ k=>?_];replace h:=Xg h;have⟨⟨R,l,T,w⟩,z,h⟩:=h;obtain rfl:=Um z;replace h:=Xg h;have⟨g,m,h⟩:=h;have⟨p,rfl⟩:=_n m;replace h:=Xg h;have⟨⟨x,u⟩,d,h⟩:=h;obtain rfl:=Uo d;simp only[XU]at h;have⟨⟨⟨⟨⟨f,q⟩,r⟩,L⟩,O⟩,P⟩:=h;obtain rfl:=Yo f;obtain rfl:=XO q;erw[k ⟨p,x,u,w,rfl,r,L,O,P⟩]
def _gk{j:List (Option Expr)}{l:List Expr}(h:A9 G .nil sc N j l=wf):j=[]/\l=[]:=by
 replace h:=Xf h;erw[⟨Yo h.1,Yo h.2⟩]
def _eG{k v:IE}{u:IPs}{w:List (Option Expr)}{z:List Expr}(h:A9 G (.cons k v u) sc N w z=wf):∃x j y l,w=wc x::j/\z=y::l/\chkE G k sc N x=wf/\chkE G v sc N y=wf/\A9 G u sc N j l=wf:=by
 erw[hide λ_ k=>?_];replace h:=Xg h;have⟨⟨o,j⟩,g,h⟩:=h;replace h:=Xg h;have⟨⟨y,l⟩,d,h⟩:=h;replace h:=Xg h;have⟨x,m,h⟩:=h;replace h:=Xf h;have⟨h,c⟩:=h;replace h:=Xf h;have⟨f,q⟩:=h;dsimp only at m;subst m;erw[k ⟨x,j,y,l,Uo g,Uo d,f,q,c⟩]
def E1{l:List Expr}(h:chkEs G .nil sc N l=wf):l=[]:=by
 erw[Yo h]
def E2{a:IE}{u:IEs}{l:List Expr}(h:chkEs G (.cons a u) sc N l=wf):∃x j,l=x::j/\chkE G a sc N x=wf/\chkEs G u sc N j=wf:=by
 replace h:=Xg h;have⟨⟨x,j⟩,w,h⟩:=h;erw[⟨x,j,Uo w,Xf h⟩]
def _gm(h:chkO G .none sc N o=wf):o=we:=by
 cases o with
 |none=>rfl
 |some _=>cases h
def _gl{a:IE}{o:Option Expr}(h:chkO G (.some a) sc N o=wf):∃x,o=wc x/\chkE G a sc N x=wf:=by
 erw[Xg h]
def _go{l:List Expr}(h:chkI G .none sc N l=wf):l=[]:=by
 erw[Yo h]
def _gn{a:IE}{l:List Expr}(h:chkI G (.some a) sc N l=wf):∃x,l=[x]/\tok a=wf/\chkE G a sc N x=wf:=by
 replace h:=Xg h;have⟨x,j,h⟩:=h;erw[⟨x,_L j,Xf h⟩]
def _n2{a:IE}(h:chkSr G (.rng a) sc N e=wf):∃p x j,e=.Call (.Name ("range":Str) p) [x] [] j/\G.bl.contains ("range":Str)=wf/\glB sc ("range":Str)=wf/\chkE G a sc N x=wf:=by
 erw[hide λ_ k=>?_];replace h:=Xg h;have⟨⟨q,l,r,j⟩,u,h⟩:=h;obtain rfl:=Um u;replace h:=Xg h;have⟨g,w,h⟩:=h;have⟨p,rfl⟩:=_n w;replace h:=Xg h;have⟨x,y,h⟩:=h;obtain rfl:=_L y;replace h:=Xf h;have⟨h,z⟩:=h;replace h:=Xf h;have⟨h,m⟩:=h;replace h:=Xf h;have⟨h,d⟩:=h;replace h:=Xf h;have⟨c,f⟩:=h;obtain rfl:=Yo c;obtain rfl:=XO f;erw[k ⟨p,x,j,rfl,d,m,z⟩]
def E3{j:Nat}{all:Bool}{i:Nat}(h:Zo sc N j all (.nm i) e=wf):∃x p,e=.Name x p/\N[i]?=wc x/\i<j/\(if all then locB sc x else decide (sc.names.lookup x=wc .local))=wf:=by
 erw[hide λ_ k=>?_];replace h:=Xg h;have⟨x,l,h⟩:=h;have⟨p,rfl⟩:=_n l;replace h:=Xf h;have⟨h,u⟩:=h;replace h:=Xf h;have⟨w,y⟩:=h;erw[k ⟨x,p,rfl,XO w,XO y,u⟩]
def E4{j:Nat}{all:Bool}{u:ITgs}(h:Zo sc N j all (.tup u) e=wf):∃l k p,e=.Tuple l k p/\chkTgs sc N j all u l=wf:=by
 replace h:=Xg h;have⟨l,w,h⟩:=h;have⟨k,p,rfl⟩:=C3 w;erw[⟨l,k,p,rfl,h⟩]
def _eF{j:Nat}{all:Bool}{l:List Expr}(h:chkTgs sc N j all .nil l=wf):l=[]:=by
 erw[Yo h]
def IZ{j:Nat}{all:Bool}{t:ITg}{w:ITgs}{l:List Expr}(h:chkTgs sc N j all (.cons t w) l=wf):∃x u,l=x::u/\Zo sc N j all t x=wf/\chkTgs sc N j all w u=wf:=by
 replace h:=Xg h;have⟨⟨x,u⟩,y,h⟩:=h;erw[⟨x,u,Uo y,Xf h⟩]
end
def liT(K:X3)(t:TEm):TT:=λu H Q=>∃j M,RS K H j u/\RH K M H/\t j M (λm w=>∃b,m=.bl b/\∀l,Kp H l->RH K w l->Q b l)
def liO(K:X3)(t:Sm->MH->(Option Int->MH->Prop)->Prop):TO:=λu H Q=>∃j M,RS K H j u/\RH K M H/\t j M (λo w=>∀l,Kp H l->RH K w l->Q o l)
section
variable{K:X3}
def E5{t:TEm}(m:MonE t){u:St}{H:Hp}{Q:Bool->Hp->Prop}(h:liT K t u H Q):liE K t u H λx w=>∃c,x=.bl c/\Q c w:=by
 have⟨j,M,y,z,h⟩:=h;erw[⟨j,M,y,z,m (λx M1 g=>?_) h⟩];have⟨b,e,d⟩:=g;subst e;intro v f q r l;obtain rfl:=r.inv;erw[⟨b,rfl,d f q l⟩]
def J0{t:TEm}(m:MonE t){l:Sm}{M:MH}{H w:Hp}{Q:Bool->Hp->Prop}(k:Kp H w)(h:t l M λx u=>∃b,x=.bl b/\∀j,Kp H j->RH K u j->Q b j):
  t l M λx u=>∃b,x=.bl b/\∀j,Kp w j->RH K u j->Q b j:=
 m (λx u y=>by have⟨b,e,q⟩:=y;erw[⟨b,e,λj z=>q j (k.trans z)⟩]) h
def _mU{t:TAm}(d:MonE te)(mt:MonA t)(h:liA K (λl M Q=>te l M λv M1=>t l M1 λu M2=>Q (v::u) M2) l H Q):VX (liE K te) (liA K t) l H Q:=by
 have⟨j,M,z,c,h⟩:=h;erw[⟨j,M,z,c,d (λx M1 f=>?_) h⟩];intro v L m q w;erw[⟨j,M1,z.mono m,w,mt (λN M2 r=>?_) f⟩];intro u p g e y;erw[r (v::u) p (m.trans g) (.cons (q.mono g) e) y]
end
def E6(X:Cx)(H:Hp):Src->It->Prop
 |.tup xs,J=>(∃a j,H a=wc (.tup j)/\RMs X.K H xs j/\J=Itt X.K a)\/∃a j,FrL X.K H a j/\RMs X.K H xs j/\J=Itl X.K a
 |.lst a _,J=>J=Itl X.K a
 |.rng lo n,J=>J=Itr lo n
 |.dic a o _,J=>J=Itd a o/\∀l u,X.H₀ a≠wc (.frz l u)
 |.str x,J=>J=Its x
def E7{X:Cx}{z H:Hp}{M:MH}{S:Src}{J:It}(s:E6 X z S J)(j:RH X.K M H)(ok:S.okT M):∃l,Thw X H l/\Kp H l/\RH X.K (S.thaw M) l:=by
 cases S with
 |tup w=>erw[⟨H,.inl rfl,Kp.refl _,j⟩]
 |lst a w=>erw[⟨H,.inl rfl,Kp.refl _,j⟩]
 |rng a w=>erw[⟨H,.inl rfl,Kp.refl _,j⟩]
 |str x=>erw[⟨H,.inl rfl,Kp.refl _,j⟩]
 |dic a o u=>
  have⟨y,e,r,m⟩:=j.fdic ok;have k:=Kp.upd e rfl (.dK y);erw[⟨_,.inr ⟨a,o,.dK y,e,trivial,s.2,rfl⟩,k,j.put k (o:=.dic u) ⟨r.mono k,m⟩⟩]
def J1{M:MH}{S:Src}(ok:S.ok M):S.okT M:=by
 cases S<;>first|trivial|erw[ok]
theorem J7{K:X3}{k:Key}:∀{m:List (Key×MV)} {j:List (Key×V)} {i:Nat},RKs K H m j->j[i]?=wc (k,v)->∃x,m[i]?=wc (k,x)/\RM K H x v
 |_,_,_,.nil,h=>by cases h
 |_,_,0,.cons r _,h=>by cases h;erw[⟨_,rfl,r⟩]
 |_,_,i+1,.cons _ t,h=>J7 (i:=i) t h
def J8{X:Cx}{q H:Hp}{M:MH}{S:Src}{J:It}(s:E6 X q S J)(k:Kp q H)(L:RH X.K M H)(ok:S.ok M):
  (∀i,i<S.len->J.go i H/\∀x u,J.yld i H x u->u=H/\∃m,S.items[i]?=wc m/\RM X.K H m x)/\∀i,S.len<=i->J.stop i H:=by
 have w:∀{a:Addr} {g:List MV} {l:List V},SqL X.K H a l->RMs X.K H g l->(∀i,i<g.length->(Itl X.K a).go i H/\∀x u,(Itl X.K a).yld i H x u->u=H/\∃m,g[i]?=wc m/\RM X.K H m x)/\∀i,g.length<=i->(Itl X.K a).stop i H:=by
  intro a g l d r;erw[⟨λi j=>⟨⟨l,_,d,X6 (by rw[<-r.length];erw[j])⟩,λx u y=>?_⟩,λi j=>⟨l,d,by rw[<-r.length];erw[j]⟩⟩]
  erw[⟨y.1,r.get' (y.2 l d)⟩]
 cases S with
 |tup g=>
  rcases s with⟨a,l,h,r,rfl⟩|⟨a,l,h,r,rfl⟩
  .have h:=SqT.of (K:=X.K) (k _ _ h rfl);have r:=r.mono k;erw[⟨λi j=>⟨⟨l,_,h,X6 (by rw[<-r.length];erw[j])⟩,λx u y=>?_⟩,λi j=>⟨l,h,by rw[<-r.length];erw[j]⟩⟩]
   erw[⟨y.1,r.get' (y.2 l h)⟩]
  .erw[w (FrL.sq ?_) (r.mono k)];rcases h with⟨o,h⟩|h
   .erw[.inl ⟨o,k _ _ h rfl⟩]
   .erw[.inr h]
 |lst a g=>
  cases s;have⟨l,h,r⟩:=L.lst ok;erw[w (SqL.of h) r]
 |rng lo n=>
  cases s;erw[⟨λi j=>⟨j,λx u y=>⟨y.1,.int (lo+(i:Nat)),?_,?_⟩⟩,λi j=>j⟩]
  .show((Xq n).map _)[i]?=_;rw[Xe,X6 (by simpa using(show i<n from j))]
   simp
  .rw[y.2];erw[.int _]
 |str z=>
  cases s;erw[⟨λi j=>⟨j,λx u y=>?_⟩,λi j=>j⟩];have⟨e,c,O,rfl⟩:=y;erw[⟨e,.str ⟨#[c]⟩,?_,.str _⟩];show(z.cps.toList.map _)[i]?=_;rw[Xe,Dt,O]
  rfl
 |dic a o f=>
  have⟨rfl,_⟩:=s;have⟨l,e,r,T⟩:=L.fdic ok;erw[⟨λi j=>⟨⟨l,e,by rw[<-r.length];erw[j]⟩,λx u y=>?_⟩,λi j=>⟨l,e,by rw[<-r.length];erw[j]⟩⟩]
  have⟨rfl,y⟩:=y;have⟨N,v,P,rfl⟩:=y l e;have⟨x,R,_⟩:=J7 r P;erw[⟨rfl,kM N,?_,?_⟩]
  .show(f.map λp=>kM p.1)[i]?=_;rw[Xe,R];rfl
  .cases N with
   |inl i=>erw[.int i]
   |inr x=>erw[.str x]
def liSr(X:Cx)(t:TSm):TI:=λu H R=>∃j M,RS X.K H j u/\RH X.K M H/\t j M (λS w=>∀J l,Kp H l->RH X.K w l->E6 X l S J->R J l)
section
variable{X:Cx}{tg:Expr}
def PI.weak{t:TI}(h:PI X tg e t)(i:∀j H R,t' j H R->t j H R):PI X tg e t':=λl s j H R I q=>h l s j H R I (i _ _ _ q)
end
mutual
def gOf(K:X3):ITg->TG
 |.nm i=>BP i
 |.tup ts=>gTup K (ITgs.len ts) (gsOf K ts)
def gsOf(K:X3):ITgs->TGs
 |.nil=>gNil
 |.cons t ts=>GM (gOf K t) (gsOf K ts)
def ITgs.len:ITgs->Nat
 |.nil=>0
 |.cons _ ts=>ts.len+1
end
mutual
theorem sTg{X:Cx}{lim:Nat}{all:Bool}(hc:X.calm=wf)(u:X.N.Nodup)(y:all=wf->∀x,X.fn x=wf):∀(t:ITg){e:Expr},Zo X.env.scope X.N lim all t e=wf->PG X e (gOf X.K t)
 |.nm i,e,h=>by
  have⟨x,p,rfl,w,z,j⟩:=E3 h;cases all with
  |true=>
   rw[if_pos rfl]at j;erw[GK u w (C5 j) (.inl (y rfl _))]
  |false=>
   rw[if_neg XB,decide_eq_true_eq]at j;erw[GK u w (.inl j) (.inr j)]
 |.tup m,e,h=>by
  have⟨es,k,p,rfl,h⟩:=E4 h;have⟨w,z,j⟩:=sTgs hc u y m h;erw[Sf hc w z j]
theorem sTgs{all:Bool}(hc:X.calm=wf)(u:X.N.Nodup)(y:all=wf->∀x,X.fn x=wf):∀(t:ITgs){es:List Expr},chkTgs X.env.scope X.N lim all t es=wf->PGs X es (gsOf X.K t)/\(ZQ es X.env).length=t.len/\(ZQ es X.env).findIdx? (·.1)=we
 |.nil,l,h=>by
  cases _eF h;rw[gsOf,ITgs.len];erw[⟨Sd,rfl,rfl⟩]
 |.cons t m,l,h=>by
  have⟨e,es,rfl,g,c⟩:=IZ h;have⟨w,z,j⟩:=sTgs hc u y m c;have f:=sTg hc u y t g;have d:ZQ (e::es) X.env=(wg,assign e X.env)::ZQ es X.env:=by
   cases t with
   |nm i=>have⟨x,p,rfl,_⟩:=E3 g;rfl
   |tup m=>have⟨x,k,p,rfl,_⟩:=E4 g;rfl
  rw[gsOf,ITgs.len];erw[⟨Se f w (by rw[d];rfl),by rw[d,Yi,z],?_⟩]
  rw[d,List.findIdx?_cons,if_neg XB,j]
  rfl
end
theorem RMs.len_tgs{K:X3}:∀{u:ITgs} {w:List MV} {l:Sm} {P:Sm->Prop},wTgs u w l P->w.length=u.len
 |.nil,w,l,P,h=>by rw[h.1,ITgs.len];rfl
 |.cons t u,w,l,P,h=>by
  have⟨v,r,rfl,h⟩:=h;rw[Yi,ITgs.len];have z:∀(t:ITg){v:MV} {l:Sm},wTg t v l (λj=>wTgs u r j P)->∃j,wTgs u r j P:=by
   have y:(∀(t:ITg){v:MV} {l:Sm} {P:Sm->Prop},wTg t v l P->∃j,P j)/\(∀(t:ITgs){v:List MV} {l:Sm} {P:Sm->Prop},wTgs t v l P->∃j,P j):=by
    erw[⟨λt=>?_,λt=>?_⟩]
    .erw[ITg.rec (motive_1:=λt=>∀{v:MV} {l:Sm} {P:Sm->Prop},wTg t v l P->∃j,P j) (motive_2:=λt=>∀{v:List MV} {l:Sm} {P:Sm->Prop},wTgs t v l P->∃j,P j)
      (λi v l P h=>⟨_,h⟩) (λu m v l P h=>by have⟨w,_,h⟩:=h;erw[m h])
      (fun{v l P} h=>⟨_,h.2⟩) (λt u g d v l P h=>by have⟨x,r,_,h⟩:=h;have⟨j,h⟩:=g h;erw[d h]) t]
    .erw[ITgs.rec (motive_1:=λt=>∀{v:MV} {l:Sm} {P:Sm->Prop},wTg t v l P->∃j,P j) (motive_2:=λt=>∀{v:List MV} {l:Sm} {P:Sm->Prop},wTgs t v l P->∃j,P j)
      (λi v l P h=>⟨_,h⟩) (λu m v l P h=>by have⟨w,_,h⟩:=h;erw[m h])
      (fun{v l P} h=>⟨_,h.2⟩) (λt u g d v l P h=>by have⟨x,r,_,h⟩:=h;have⟨j,h⟩:=g h;erw[d h]) t]
   erw[λt {v l} h=>y.1 t h]
  have⟨j,c⟩:=z t h;rw[RMs.len_tgs (K:=K) c]
mutual
theorem C6{K:X3}{H:Hp}{lim:Nat}{m:Scope}{N:List Str}{all:Bool}{Ψ:St->Prop}(y:∀u i v,i<lim->Ψ u->Ψ (u.set i (wc v))):∀(t:ITg){e:Expr} {mv:MV} {v:V} {l:Sm} {u:St} {P:Sm->Prop} {Q:St->Hp->Prop},Zo m N lim all t e=wf->
  RM K H mv v->RS K H l u->Ψ u->wTg t mv l P->(∀j w,P j->RS K H j w->Ψ w->Q w H)->gOf K t v u H Q
 |.nm i,e,mv,v,l,u,P,Q,hc,r,rs,ps,h,hq=>by
  have⟨x,p,rfl,_,L,_⟩:=E3 hc;erw[hq _ _ h (rs.set r i) (y _ _ _ L ps)]
 |.tup ts,e,mv,v,l,u,P,Q,hc,r,rs,ps,h,hq=>by
  have⟨es,k,p,rfl,hc⟩:=E4 hc;have⟨xs,rfl,h⟩:=h;have⟨_,_,rfl,O,q⟩:=r.inv;erw[⟨_,_,rfl,SqT.of O,by rw[<-q.length];erw[RMs.len_tgs (K:=K) h],tgs_ok y ts hc q rs ps h hq⟩]
theorem tgs_ok{K:X3}{H:Hp}{lim:Nat}{m:Scope}{N:List Str}{all:Bool}{Ψ:St->Prop}(y:∀u i v,i<lim->Ψ u->Ψ (u.set i (wc v))):∀(t:ITgs){es:List Expr} {z:List MV} {vs:List V} {l:Sm} {u:St} {P:Sm->Prop} {Q:St->Hp->Prop},chkTgs m N lim all t es=wf->
  RMs K H z vs->RS K H l u->Ψ u->wTgs t z l P->(∀j w,P j->RS K H j w->Ψ w->Q w H)->gsOf K t vs u H Q
 |.nil,es,z,vs,l,u,P,Q,hc,r,rs,ps,h,hq=>by
  have⟨rfl,h⟩:=h;obtain rfl:=r.inv;rw[gsOf];erw[⟨rfl,hq _ _ h rs ps⟩]
 |.cons t ts,es,z,vs,l,u,P,Q,hc,r,rs,ps,h,hq=>by
  have⟨e,es,rfl,g,d⟩:=IZ hc;have⟨x,U,rfl,h⟩:=h;have⟨_,_,rfl,R,T⟩:=r.inv;rw[gsOf];erw[⟨_,_,rfl,C6 y t g R rs ps h λj w h' c f=>tgs_ok y ts d T c f h' hq⟩]
end
def _qj{K:X3}{own:List Str}{fr:List Nat}(w:RS K H σm σ):RS K H (sCm own fr σm) (sC own fr σ):=by
 erw[⟨by simp[sCm,sC],λi m e=>?_⟩]
 unfold sCm at e;unfold sC;by_cases hi:i<own.length
 .rw[Zv (by simpa using hi),Xe]at e
  cases q:own[i]? with
  |none=>rw[q]at e;cases e
  |some z=>rw[q]at e;cases e
 .rw[Zi (by simpa using hi),X5,Xe]at e
  rw[Zi (by simpa using hi),X5,Xe]
  cases q:fr[i - own.length]? with
  |none=>rw[q]at e;cases e
  |some j=>
   rw[q]at e;have l:σm.getD j we=wc m:=Y2 e;have y:σm[j]?=wc (wc m):=by
    rw[Y6]at l;cases u:σm[j]? with
    |none=>rw[u]at l;cases l
    |some o=>rw[u]at l;rw[show o=wc m from l]
   have⟨v,g,r⟩:=w.2 j m y;erw[⟨v,?_,r⟩];show wc (σ.getD j we)=_;rw[Y6,g]
   rfl
def _kj{own:List Str}{fr:List Nat}(l:i<own.length)(k:Keep (sC own fr σ) σ'):Keep (sC own fr σ) (σ'.set i (wc v)):=by
 erw[⟨by rw[ZT];erw[k.1],λj w h=>?_⟩]
 by_cases hij:i=j
 .subst hij;exfalso;unfold sC at h;rw[Zv (by simpa using l),Xe]at h
  cases q:own[i]? with
  |none=>rw[q]at h;cases h
  |some z=>rw[q]at h;cases h
 .rw[V9,if_neg hij];erw[k.2 j w h]
def _jT{y:Expr}(h:A3 y=wf):Hi y:=by
 intro o i;cases y<;>first|rfl|cases h
def E8{j:Expr}(h:A4 j=wf)(l:Env):∀x,AO j l x=pure x:=by
 intro x;cases j<;>first|rfl|cases h
def Cok.comp(c:Cok X G Φ){own:List Str}{fr:List Nat}(j:scope.kind=.function)(l:(nC own fr X.N).Nodup):Cok (cxC X scope own fr C fp s₃ H₃) G Φ:=
 ⟨c.room,c.calm,rfl,(by show(if scope.kind.isAnnotationScope then Gy else scope.kind)=.function;rw[j];rfl),l,c.bls,c.gls,c.fnn,c.mon,c.fns,c.mts,c.mks,c.cls⟩
def ttOf(K:X3)(j:List (Str×SpM)):IO->TT
 |.none=>tAll
 |.some e=>liT K (wE j e)
def J9{X:Cx}{p:List (Str×SpM)}(L:∀(j:Nat)f sp,p[j]?=wc (f,sp)->MonW sp){own:List Str} {fr:List Nat} {O:ISr} {tg:ITg} {u:IO} {w:IE} {sc:Scope} {N:List Str} {t:Expr}
  (h5:Zo sc N own.length wg tg t=wf){σ:St} {H:Hp} {Q:VK} (hw:liE X.K (wE p (.comp own fr O tg u w)) σ H Q):DZ own fr (liSr X (wSr p O)) (gOf X.K tg) (ttOf X.K p u) (liE X.K (wE p w)) σ H (λv P=>∃Y,Thw X P Y/\Q v Y):=by
 have⟨σm,M,rs,rh,hw⟩:=hw;erw[⟨σm,M,rs,rh,mon_sr L O (λS M1 R=>?_) hw⟩];have⟨hz,q⟩:=R;intro J H1 k1 Z A D hD;have⟨Jm,j0,j1,j2,j3⟩:=q D (Z.free hD);erw[⟨λi m ys Y=>m=S.len - i/\i<=S.len/\Kp H1 Y/\∃l M2,RH X.K M2 Y/\Jm i l M2,⟨S.len,rfl,Yg _,Kp.new hD _,[],_,Z.put (Kp.new hD (.lst [])) (o:=.lst []) RMs.nil,j0⟩,?_⟩];rintro i m ys Y ⟨rfl,hi,B,l,M2,g,hj⟩;have⟨d1,d2,d3⟩:=j1 i l M2 hj;have⟨C,T⟩:=J8 A B g d3;by_cases hlt:i<S.len
 .have⟨go,yld⟩:=C i hlt;erw[.inr ⟨go,λys' P=>Kp H1 P/\∃l U,RH X.K U P/\Jm (i+1) l U,λys' P R=>by have⟨a,E,U,b,c⟩:=R;erw[⟨S.len - (i+1),by lia,rfl,hlt,a,E,U,b,c⟩],λx H3 y=>?_⟩]
  have⟨e3,m,hm,rm⟩:=yld x H3 y;subst e3;have ht:=j2 i m l M2 hm hj;erw[C6 (Ψ:=Keep (sC own fr σ)) (lim:=own.length) (λF i v hi k=>_kj hi k) tg h5 rm (_qj (rs.mono (k1.trans B))) ⟨rfl,λ_ _ h=>h⟩ ht λz F hP G keep=>⟨keep,?_⟩];have r:∀{I:MH} {s:Hp},Kp H3 s->RH X.K I s->(wE p w z I λy M5=>M5 D=wc (.lst l)/\Jm (i+1) (l++[y]) (updM M5 D (.lst (l++[y]))))->
    liE X.K (wE p w) F s λy H6=>∃W,H6 D=wc (.lst W)/\W.length<sizeLine/\Kp H1 (upd H6 D (.lst (W++[y])))/\∃l U,RH X.K U (upd H6 D (.lst (W++[y])))/\Jm (i+1) l U:=fun{I s} n d q=>by
   erw[⟨z,I,G.mono n,d,Xc L w (λy M5 R=>?_) q⟩];have⟨hd,hj'⟩:=R;intro v H6 k6 r6 rh6;have⟨W,e,rz⟩:=rh6.lst hd;have ku:=Kp.upd e rfl (.lst (W++[v]));erw[⟨W,e,by rw[<-rz.length];lia,B.trans (n.trans (k6.trans ku)),_,_,rh6.put ku (o:=.lst (l++[y])) ((rz.append (.cons r6 .nil)).mono ku),hj'⟩]
  cases u with
  |none=>
   rw[wI]at hP;rw[if_pos rfl]at hP;rw[ttOf];erw[_q2 ?_];dsimp only;rw[if_pos rfl];erw[r (Kp.refl _) g hP]
  |some e=>
   erw[⟨z,M2,G,g,Xc L e (λv I R=>by have⟨b,eb,q⟩:=R;erw[⟨b,eb,λs n d=>YU (λq=>r n d q) (λq=>⟨B.trans n,_,_,d,q⟩) q⟩]) hP⟩]
 .erw[.inl ⟨T i (by lia),?_⟩]
  have e:i=S.len:=by lia
  subst e;have⟨P,th,k3,rh3⟩:=E7 A g (J1 d3);erw[⟨P,th,j3 l M2 hj _ _ (k1.trans (B.trans k3)) (.ref D) rh3⟩]
def Ja{K:X3}{r:List (Str×SpM)}(l:∀(j:Nat)f Y,r[j]?=wc (f,Y)->MonW Y){P g:CmpOp} {a b d:IE} {Z:St} {H:Hp} {Q:VK} (hw:liE K (wE r (.chn P g a b d)) Z H Q):
  DC (li2 K (wCmp P)) (li2 K (wCmp g)) (liE K (wE r a)) (liE K (wE r b)) (liE K (wE r d)) Z H Q:=by
 have⟨c,M,R,C,hw⟩:=hw;rw[IL]at hw;erw[⟨c,M,R,C,Xc l a (λx M1 D=>?_) hw⟩];intro v n L E T;erw[⟨c,M1,R.mono L,T,Xc l b (λy M2 F=>?_) D⟩];intro u h N A U;erw[⟨x,y,M2,E.mono N,A,U,W5 P (λz G I=>?_) F⟩];have⟨k,e,J⟩:=I;subst e;intro z H3 O S p;obtain rfl:=S.inv;erw[⟨k,rfl,YU (λq=>?_) (λq=>?_) J⟩]
 .erw[⟨c,G,R.mono (L.trans (N.trans O)),p,Xc l d (λw X o=>?_) q⟩];intro w' H4 B s W;erw[⟨y,w,X,A.mono (O.trans B),s,W,W5 g (λm M' i=>i.on (L.trans (N.trans (O.trans B)))) o⟩]
 .erw[q _ _ (L.trans (N.trans O)) (.bl _) p]
def Jb{o:Expr}{m:Str}{w l:Pos}{u:List Expr}{j:Env}(y:UB o m j (eval o j)=eval o j)(z:methodCallForm (u.length+([]:List Ze).length) (Y5 l (Xx u j)) (U7 l (U8 [] j))=wf)(g:(w.endLine==l.line)=wf):
  eval (.Call (.Attribute o m w) u [] l) j=(do
   let ov<- eval o j
   standAt w.atName
   let(f,first)<- Zc [ov] (getMethod ov m (do return(<- importBound o j).getD wf))
   callWith l f first (Y5 l (Xx u j)) (U7 l (U8 [] j))):=by
 rw[arm_eval_Call,y];unfold methodCall calleeOf methodCallPos;rw[z,g];simp only[if_true,Bt,Dr,pure_bind]
def trOf(K:X3)(j:List (Str×SpM)):IPs->List (TE×TE)
 |.nil=>[]
 |.cons k v r=>(liE K (wE j k),liE K (wE j v))::trOf K j r
noncomputable def aob:IE->Bool
 |.and ..=>wf
 |.or ..=>wf
 |_=>wg
structure Snd (X:Cx)(Φ:List (Str×SpM))(ie:IE)(e:Expr):Prop where
 pe:PE X e (liE X.K (wE Φ ie))
 pt:tok ie=wf->PT X e (liT X.K (wE Φ ie))
 pw:tok ie=wf->aob ie=wf->PW X e (liT X.K (wE Φ ie))
def Snd.plain(c:Cok X G Φ)(l:PE X e (liE X.K (wE Φ ie)))(u:∀j,isTrue e X.env j=(do let v<- j;standAt e.pos;Zc [v] (truthy v)))(w:aob ie=wg):Snd X Φ ie e:=
 ⟨l,λ_=>(RX l u).weak λy H Q h=>E5 (t:=wE Φ ie) (Xc c.mon ie) h,λ_ h=>by rw[w]at h;cases h⟩
def _pX(f:BI):(∃n,f.val=.builtin n)\/∃n,f.val=.type n:=by cases f<;>first|erw[.inl ⟨_,rfl⟩]|erw[.inr ⟨_,rfl⟩]
def Jc{G:GI}{b:IE}{j:Scope}{N:List Str}{l:BoolOp}{u:List Expr}{p:Pos}(h:chkE G b j N (.BoolOp l u p)=wf):aob b=wf:=by revert h;cases b<;>first|erw[λ_=>rfl]|erw[nob]
mutual
theorem sE{G:GI}{Φ:List (Str×SpM)}:∀(ie:IE){X:Cx} {e:Expr},Cok X G Φ->chkE G ie X.env.scope X.N e=wf->Snd X Φ ie e
 |.var i,X,e,c,h=>by
  have⟨x,p,rfl,W,O,Z,S⟩:=_mZ h;erw[.plain c ?_ (λ_=>rfl) rfl];erw[(GH W (_nW O) Z S).weak λY H Q hw=>?_];have⟨L,M,T,U,hw⟩:=hw;rw[IK]at hw;have⟨v,e,q⟩:=hw;have⟨u,hu,r⟩:=T.2 i v e;erw[⟨u,hu,q _ _ (Kp.refl _) r U⟩]
 |.int i,X,e,c,h=>by
  have⟨k,p,rfl⟩:=_n7 h;erw[.plain c ?_ (λ_=>rfl) rfl];erw[pe_int.weak λY H Q hw=>?_];have⟨L,M,T,U,hw⟩:=hw;erw[hw _ _ (Kp.refl _) (.int i) U]
 |.str i,X,e,c,h=>by
  have⟨k,p,rfl⟩:=_n1 h;erw[.plain c ?_ (λ_=>rfl) rfl];erw[pe_str.weak λY H Q hw=>?_];have⟨L,M,T,U,hw⟩:=hw;erw[hw _ _ (Kp.refl _) (.str i) U]
 |.bl i,X,e,c,h=>by
  have⟨k,p,rfl⟩:=_pK h;erw[.plain c ?_ (λ_=>rfl) rfl];erw[pe_bl.weak λY H Q hw=>?_];have⟨L,M,T,U,hw⟩:=hw;erw[hw _ _ (Kp.refl _) (.bl i) U]
 |.non,X,e,c,h=>by
  have⟨k,p,rfl⟩:=_n4 h;erw[.plain c ?_ (λ_=>rfl) rfl];erw[pe_non.weak λY H Q hw=>?_];have⟨L,M,T,U,hw⟩:=hw;erw[hw _ _ (Kp.refl _) .non U]
 |.glb x i,X,e,c,h=>by
  have⟨p,rfl,W,O⟩:=_n9 h;have⟨g1,g2,g3⟩:=UQ O;have⟨tk,hm⟩:=c.gls x i W;erw[.plain c ?_ (λ_=>rfl) rfl];erw[(RV (v:=.int i) g1 hm ⟨tk,rfl⟩ g2).weak λY H Q hw=>?_];have⟨L,M,T,U,hw⟩:=hw;erw[hw _ _ (Kp.refl _) (.int i) U]
 |.ty t,X,e,c,h=>by
  have⟨p,rfl,h0,W,O⟩:=_pF h;have⟨g1,g2,g3⟩:=UQ O;erw[.plain c ?_ (λ_=>rfl) rfl];erw[(RW (v:=.ty t.name) g1 (c.bls _ W) (_nz h0) rfl g3 g2).weak λY H Q hw=>?_];have⟨L,M,T,U,hw⟩:=hw;erw[hw _ _ (Kp.refl _) (.ty t) U]
 |.bin op a b,X,e,c,h=>by
  have⟨l,r,p,rfl,W,O⟩:=_ne h;erw[.plain c ?_ (λ_=>rfl) rfl];erw[(Sw (_pd op) (sE a c W).pe (sE b c O).pe).weak λY H Q hw=>?_];have:wE Φ (.bin op a b)=λY M Q=>wE Φ a Y M λx M1=>wE Φ b Y M1 λy M2=>wBin op x y M2 Q:=rfl;rw[this]at hw;erw[DR (z:=wE Φ a) (g:=wE Φ b) (w:=wBin op) (Xc c.mon a) (Xc c.mon b) (Ih op) hw]
 |.neg a,X,e,c,h=>by
  have⟨l,p,rfl,W⟩:=_n5 h;erw[.plain c ?_ (λ_=>rfl) rfl];erw[(Sx SG (sE a c W).pe).weak λY H Q hw=>?_];have⟨L,M,T,U,hw⟩:=hw;erw[⟨L,M,T,U,Xc c.mon a (λx M1 h'=>?_) hw⟩];have⟨i,e,q⟩:=h';subst e;intro v D P A N;obtain rfl:=A.inv;erw[⟨i,rfl,q _ _ P (.int _) N⟩]
 |.not a,X,e,c,h=>by
  have⟨l,p,rfl,W⟩:=_n3 h;have ih:=sE a c W;erw[⟨(S4 ih.pe).weak λY H Q hw=>?_,λht=>(RY (ih.pt ht)).weak λY H Q hw=>?_,λ_ z=>by cases z⟩]
  .have⟨L,M,T,U,hw⟩:=hw;rw[DU]at hw;erw[⟨L,M,T,U,Xc c.mon a (λx M1 h'=>?_) hw⟩];have⟨i,e,q⟩:=h';subst e;intro v D P A N;obtain rfl:=A.inv;erw[⟨i,rfl,q _ _ P (.bl _) N⟩]
  .have⟨L,M,T,U,hw⟩:=hw;rw[DU]at hw;erw[⟨L,M,T,U,Xc c.mon a (λx M1 ⟨i,e,b,e2,q⟩=>⟨i,e,λH' k rh'=>?_⟩) hw⟩];cases e2;erw[q H' k rh']
 |.cmp op a b,X,e,c,h=>by
  have⟨l,r,p,rfl,W,O,Z⟩:=_nc h;have rd:∀Y H Q,liE X.K (wE Φ (.cmp op a b)) Y H Q->tOp (li2 X.K (wCmp op)) (liE X.K (wE Φ a)) (liE X.K (wE Φ b)) Y H Q:=λY H Q hw=>by
   have:wE Φ (.cmp op a b)=λY M Q=>wE Φ a Y M λx M1=>wE Φ b Y M1 λy M2=>wCmp op x y M2 Q:=rfl;rw[this]at hw;erw[DR (z:=wE Φ a) (g:=wE Φ b) (w:=wCmp op) (Xc c.mon a) (Xc c.mon b) (W5 op) hw]
  erw[⟨(SQ (W6 c.room op) (sE a c W).pe (sE b c O).pe Z).weak rd,λ_=>(SR (W6 c.room op) (sE a c W).pe (sE b c O).pe Z).weak λY H Q hw=>?_,λ_ z=>by cases z⟩]
  erw[rd Y H _ (E5 (t:=wE Φ (.cmp op a b)) (Xc c.mon _) hw)]
 |.chn op op' a b d,X,e,c,h=>by
  have⟨l,m,r,p,rfl,W,O,Z,S⟩:=_nd h;erw[⟨(SS (W6 c.room op) (W6 c.room op') (sE a c W).pe (sE b c O).pe (sE d c Z).pe S).weak λY H Q hw=>Ja c.mon hw,
   λ_=>(SU (W6 c.room op) (W6 c.room op') (sE a c W).pe (sE b c O).pe (sE d c Z).pe S).weak λY H Q hw=>?_,λ_ z=>by cases z⟩]
  erw[Ja c.mon (E5 (t:=wE Φ (.chn op op' a b d)) (Xc c.mon _) hw)]
 |.and a b,X,e,c,h=>by
  have⟨l,r,rest,p,rfl,W,O⟩:=_nf h;have ih:=sE a c W;have hb:PE X (.BoolOp .And (r::rest) p) (liE X.K (wE Φ b)):=by
   rcases O with⟨rfl,O⟩|O
   .erw[GJ (sE b c O).pe]
   .erw[(sE b c O).pe]
  have hw':tok (.and a b)=wf->PW X (.BoolOp .And (l::r::rest) p) (liT X.K (wE Φ (.and a b))):=λht=>by
   have ht:(tok a&&tok b)=wf:=ht;rw[XU]at ht;have hb2:PW X (.BoolOp .And (r::rest) p) (liT X.K (wE Φ b)):=by
    rcases O with⟨rfl,O⟩|O
    .erw[pw_and1 ((sE b c O).pt ht.2)]
    .erw[(sE b c O).pw ht.2 ?_];erw[Jc O]
   erw[(pw_and (ih.pt ht.1) hb2).weak λY H Q hw=>?_];have⟨L,M,T,U,hw⟩:=hw;rw[DV]at hw;erw[⟨L,M,T,U,Xc c.mon a (λx M1 ⟨k,e,q⟩=>⟨k,e,λD P N=>?_⟩) hw⟩];erw[YU (λq=>⟨L,M1,T.mono P,N,J0 (t:=wE Φ b) (Xc c.mon b) P q⟩) (λq=>by have⟨b,e,q⟩:=q;erw[MV.noConfusion e λeb=>eb▸q D P N]) q]
  erw[⟨(S1 ih.pe hb).weak λY H Q hw=>?_,λht=>(hw' ht).pt,λht _=>hw' ht⟩];have⟨L,M,T,U,hw⟩:=hw;rw[DV]at hw;erw[⟨L,M,T,U,Xc c.mon a (λx M1 h'=>?_) hw⟩];have⟨k,e,q⟩:=h';subst e;intro v D P A N;obtain rfl:=A.inv;erw[⟨k,rfl,YU (λq=>⟨L,M1,T.mono P,N,Xc c.mon b (λm M' J=>J.on P) q⟩) (λq=>q _ _ P (.bl _) N) q⟩]
 |.or a b,X,e,c,h=>by
  have⟨l,r,rest,p,rfl,W,O⟩:=_pH h;have ih:=sE a c W;have hb:PE X (.BoolOp .Or (r::rest) p) (liE X.K (wE Φ b)):=by
   rcases O with⟨rfl,O⟩|O
   .erw[GJ (sE b c O).pe]
   .erw[(sE b c O).pe]
  have hw':tok (.or a b)=wf->PW X (.BoolOp .Or (l::r::rest) p) (liT X.K (wE Φ (.or a b))):=λht=>by
   have ht:(tok a&&tok b)=wf:=ht;rw[XU]at ht;have hb2:PW X (.BoolOp .Or (r::rest) p) (liT X.K (wE Φ b)):=by
    rcases O with⟨rfl,O⟩|O
    .erw[pw_or1 ((sE b c O).pt ht.2)]
    .erw[(sE b c O).pw ht.2 ?_];erw[Jc O]
   erw[(pw_or (ih.pt ht.1) hb2).weak λY H Q hw=>?_];have⟨L,M,T,U,hw⟩:=hw;rw[x_or]at hw;erw[⟨L,M,T,U,Xc c.mon a (λx M1 ⟨k,e,q⟩=>⟨k,e,λD P N=>?_⟩) hw⟩];erw[YU (λq=>by have⟨b,e,q⟩:=q;erw[MV.noConfusion e λeb=>eb▸q D P N]) (λq=>⟨L,M1,T.mono P,N,J0 (t:=wE Φ b) (Xc c.mon b) P q⟩) q]
  erw[⟨(S3 ih.pe hb).weak λY H Q hw=>?_,λht=>(hw' ht).pt,λht _=>hw' ht⟩];have⟨L,M,T,U,hw⟩:=hw;rw[x_or]at hw;erw[⟨L,M,T,U,Xc c.mon a (λx M1 h'=>?_) hw⟩];have⟨k,e,q⟩:=h';subst e;intro v D P A N;obtain rfl:=A.inv;erw[⟨k,rfl,YU (λq=>q _ _ P (.bl _) N) (λq=>⟨L,M1,T.mono P,N,Xc c.mon b (λm M' J=>J.on P) q⟩) q⟩]
 |.ife d a b,X,e,c,h=>by
  have⟨t,x,y,p,rfl,h0,W,O,Z⟩:=_n8 h;erw[⟨(S5 ((sE d c W).pt h0) (sE a c O).pe (sE b c Z).pe).weak λY H Q hw=>?_,λz=>(by cases z),λz _=>(by cases z)⟩]
  have⟨L,M,T,U,hw⟩:=hw;rw[IM]at hw;erw[⟨L,M,T,U,Xc c.mon d (λx M1 ⟨k,e,q⟩=>⟨k,e,λD P N=>?_⟩) hw⟩];erw[YU (λq=>⟨L,M1,T.mono P,N,Xc c.mon a (λm M' J=>J.on P) q⟩) (λq=>⟨L,M1,T.mono P,N,Xc c.mon b (λm M' J=>J.on P) q⟩) q]
 |.tup es,X,e,c,h=>by
  have⟨xs,k,p,rfl,W⟩:=_n0 h;erw[.plain c ?_ (λ_=>rfl) rfl];erw[(Td (sA es c W)).weak λY H Q hw=>?_];have⟨L,M,T,U,hw⟩:=hw;erw[⟨L,M,T,U,mon_es c.mon es (λms M1 h'=>?_) hw⟩];have⟨hz,q⟩:=h';intro vs D P A N;erw[⟨by rw[<-A.length];erw[hz],λp hp=>?_⟩]
  have B:=Kp.new hp (.tup vs);erw[q _ _ (P.trans B) (.tup _I (A.mono B)) (N.kept hp _)]
 |.lst es,X,e,c,h=>by
  have⟨xs,p,rfl,W⟩:=_n6 h;erw[.plain c ?_ (λ_=>rfl) rfl];erw[(Te (sA es c W)).weak λY H Q hw=>?_];have⟨L,M,T,U,hw⟩:=hw;erw[⟨L,M,T,U,mon_es c.mon es (λms M1 h'=>?_) hw⟩];have⟨hz,q⟩:=h';intro vs D P A N;erw[⟨by rw[<-A.length];erw[hz],λp hp=>?_⟩]
  have B:=Kp.new hp (.lst vs);erw[q p (N.free hp) _ _ (P.trans B) (.ref p) (N.put B (A.mono B))]
 |.dic,X,e,c,h=>by
  have⟨p,rfl⟩:=_nb h;erw[.plain c ?_ (λ_=>rfl) rfl];erw[pe_dnewK.weak λY H Q hw=>?_];have⟨L,M,T,U,hw⟩:=hw;intro p hp;have B:=Kp.new hp (.dK []);erw[hw p (U.free hp) _ _ B (.ref p) (U.put B ⟨.nil,Wx⟩)]
 |.ix a b,X,e,c,h=>by
  have⟨l,r,p,rfl,W,O,Z⟩:=_pJ h;erw[.plain c ?_ (λ_=>rfl) rfl];erw[(TJ (_pD (by have:=c.room;lia)) (sE a c W).pe (sE b c O).pe (_jT Z)).weak λY H Q hw=>?_]
  have:wE Φ (.ix a b)=λY M Q=>wE Φ a Y M λx M1=>wE Φ b Y M1 λy M2=>wIx x y M2 Q:=rfl;rw[this]at hw;erw[DR (z:=wE Φ a) (g:=wE Φ b) (w:=wIx) (Xc c.mon a) (Xc c.mon b) Iv hw]
 |.sl a lo hi,X,e,c,h=>by
  have⟨x,l,u,p,p2,rfl,W,O,Z⟩:=_pG h;erw[.plain c ?_ (λ_=>rfl) rfl];erw[(TB _o6 (sE a c W).pe (sO lo c O) (sO hi c Z)).weak λY H Q hw=>?_];have⟨L,M,T,U,hw⟩:=hw;erw[⟨L,M,T,U,Xc c.mon a (λx M1 q1=>?_) hw⟩];intro v D P A N;erw[⟨L,M1,T.mono P,N,mon_o c.mon lo (λl M2 q2=>?_) q1⟩];intro H2 B rh2;erw[⟨L,M2,T.mono (P.trans B),rh2,mon_o c.mon hi (λu M3 q3=>?_) q2⟩];intro H3 k3 rh3;erw[⟨x,M3,A.mono (B.trans k3),rh3,Ix (λm M' J=>J.on (P.trans (B.trans k3))) q3⟩]
 |.call j a es,X,e,c,h=>by
  have⟨f,p,x,xs,p2,rfl,W,O,Z,S⟩:=_km h;have⟨g1,g2,g3⟩:=UQ O;have⟨sp,hj⟩:=c.fnn j f W;have⟨k,fa,fd,ps,hr,F,hm,hk,hb⟩:=c.fns j f sp W hj;have ha:PA X (x::xs) (VX (liE X.K (wE Φ a)) (liA X.K (wEs Φ es))):=WN (sE a c Z).pe (sA es c S) (YC Z);erw[.plain c ?_ (λ_=>rfl) rfl];erw[(Th (E:=E0) F hr g1 hm hk hb .nil BU ha g2 (YC Z) (UR (Up (l:=p2) S)).2).weak λY H Q hw=>?_];have⟨L,M,T,U,hw⟩:=hw;rw[IN]at hw;erw[⟨L,M,T,U,Xc c.mon a (λv M1 q1=>?_) hw⟩];intro u D P A N;erw[⟨L,M1,T.mono P,N,mon_es c.mon es (λvs M2 h'=>?_) q1⟩];have⟨f',sp',e,q2⟩:=h';rw[hj]at e;cases e;intro us H2 B r2 rh2;erw[⟨v::vs,M2,?_,rh2,c.mon j f sp hj (λm M' J=>J.on (P.trans B)) q2⟩];rw[YS];erw[.cons (A.mono B) r2]
 |.bi f a es,X,e,c,h=>by
  have⟨p,x,xs,p2,rfl,W,O,Z,S⟩:=_pL h;have⟨g1,g2,g3⟩:=UQ O;have ha:PA X (x::xs) (VX (liE X.K (wE Φ a)) (liA X.K (wEs Φ es))):=WN (sE a c Z).pe (sA es c S) (YC Z);have hv:=_nA f;have hcall:=_nx (X:=X) c.calm f;have hp:PE X (.Call (.Name (f.name:Str) p) (x::xs) [] p2) (tCB (liW X.K (wBi f)) (VX (liE X.K (wE Φ a)) (liA X.K (wEs Φ es)))):=by
   rcases _pX f with⟨n,hf⟩|⟨n,hf⟩<;>rw[hf]at hv hcall
   .erw[Tp hcall g1 (c.bls _ W) hv ha g3 g2 (YC Z) (UR (Up (l:=p2) S)).2]
   .erw[Tq hcall g1 (c.bls _ W) hv ha g3 g2 (YC Z) (UR (Up (l:=p2) S)).2]
  erw[.plain c ?_ (λ_=>rfl) rfl];erw[hp.weak λY H Q hw=>?_];have⟨L,M,T,U,hw⟩:=hw;erw[⟨L,M,T,U,Xc c.mon a (λv M1 q1=>?_) hw⟩];intro u D P A N;erw[⟨L,M1,T.mono P,N,mon_es c.mon es (λvs M2 q2=>?_) q1⟩];intro us H2 B r2 rh2;erw[⟨v::vs,M2,.cons (A.mono B) r2,rh2,IC f (λm M' J=>J.on (P.trans B)) q2⟩]
 |.b2 f a,X,e,c,h=>by
  have⟨p,p',x,p2,p2',rfl,W,O,Z,S,h5⟩:=_pM h;have⟨g1,g2,g3⟩:=UQ Z;have⟨P,B,k3⟩:=UQ S;have hv:YE (f.out:Str)=wc f.outV:=by cases f<;>decide+kernel
  have hv':YE (f.inn:Str)=wc (.type f.inn):=by cases f<;>decide+kernel
  have hp:PE X (.Call (.Name (f.out:Str) p) [.Call (.Name (f.inn:Str) p') [x] [] p2'] [] p2) (λY H Q=>liE X.K (wE Φ a) Y H λv D=>li1 X.K (wB2 f) v D Q):=by
   have hc:=_ny (X:=X) c.calm f;cases f with
   |lrng=>erw[_hz (p:=p) (L:=p') (l:=p2) (j:=p2') hc g1 (c.bls _ W) hv P (c.bls _ O) hv' (sE a c h5).pe g3 g2 k3 B (YC h5)]
   |ssrt=>erw[DO (p:=p) (L:=p') (l:=p2) (j:=p2') hc g1 (c.bls _ W) hv P (c.bls _ O) hv' (sE a c h5).pe g3 g2 k3 B (YC h5)]
   |lset=>erw[DO (p:=p) (L:=p') (l:=p2) (j:=p2') hc g1 (c.bls _ W) hv P (c.bls _ O) hv' (sE a c h5).pe g3 g2 k3 B (YC h5)]
   |tset=>erw[DO (p:=p) (L:=p') (l:=p2) (j:=p2') hc g1 (c.bls _ W) hv P (c.bls _ O) hv' (sE a c h5).pe g3 g2 k3 B (YC h5)]
  erw[.plain c ?_ (λ_=>rfl) rfl];erw[hp.weak λY H Q hw=>?_];have⟨L,M,T,U,hw⟩:=hw;erw[⟨L,M,T,U,Xc c.mon a (λv M1 q1=>?_) hw⟩];intro u D P A N;erw[⟨v,M1,A,N,IF f (λm M' J=>J.on P) q1⟩]
 |.st3 a,X,e,c,h=>absurd h XB
 |.mxd a,X,e,c,h=>absurd h XB
 |.mt m o es,X,e,c,h=>by
  have⟨ob,ap,args,cp,rfl,W,O,Z,S⟩:=_pI h;have slot:PySem.Slot m.ty (m.name:Str) m.id/\typeOf (.builtin m.id)=pure (.type "method_descriptor"):=by
   cases m
   .erw[⟨PySem.F.slot_list_append,PySem.F.type_list_append⟩]
   .erw[⟨PySem.F.slot_list_extend,PySem.F.type_list_extend⟩]
   .erw[⟨PySem.F.slot_list_pop,PySem.F.type_list_pop⟩]
  have plain:PlainAttrs m.ty:=by
   cases m<;>first|erw[PySem.F.plainAttrs_list]|erw[PySem.F.plainAttrs_dict]|erw[PySem.F.plainAttrs_str]
  have hu1:X.A.units+1<cLine:=by have:=c.room;lia
  have tyL:∀{D:Hp} {M1:MH} {mx:MV} {v:V},RH X.K M1 D->RM X.K D mx v->mtOk m mx M1->tyV X.K m.ty v D:=by
   intro D M1 mx v U r hm;cases m
   all_goals
    have⟨a,xs,rfl,hm⟩:=hm;obtain rfl:=r.inv;have⟨vs,e,_⟩:=U.lst hm;erw[.inl ⟨rfl,vs,SqL.of e⟩]
  erw[.plain c ?_ (λ_=>rfl) rfl];cases args with
  |nil=>
   erw[(TX plain slot.1 slot.2 (IH hu1 m) (sE o c O).pe (Aa O) W).weak λY H Q hw=>?_];have⟨L,M,T,U,hw⟩:=hw;erw[⟨L,M,T,U,Xc c.mon o (λv M1 h'=>?_) hw⟩];have⟨q0,q1⟩:=h';intro u D P A N;cases es with
   |cons _ _=>erw[absurd Z XB]
   |nil=>
    erw[⟨tyL N A q0,v,[],M1,A,.nil,N,DT (λm M' J=>J.on P) q1⟩]
  |cons x xs=>
   cases es with
   |nil=>cases E1 Z
   |cons a es=>
    have h3':=Z;have⟨x',xs',e',Z⟩:=E2 Z;cases e';have ha:=sA (.cons a es) c h3';have hall:=UR (j:=cp) (Up (j:=X.env) (l:=cp) h3');erw[(TY plain slot.1 slot.2 (IH hu1 m) (sE o c O).pe ha (Aa O) ?_ W (YC Z.1) (UR (Up (l:=cp) Z.2)).2).weak λY H Q hw=>?_]
    .rw[hall.1];simp only[Bu,XU,decide_eq_true_eq];erw[⟨rfl,?_⟩];simp at S ⊢;lia
    have⟨L,M,T,U,hw⟩:=hw;erw[⟨L,M,T,U,Xc c.mon o (λv M1 h'=>?_) hw⟩];have⟨q0,q1⟩:=h';intro u D P A N;erw[⟨tyL N A q0,L,M1,T.mono P,N,mon_es c.mon (.cons a es) (λvs M2 q2=>?_) q1⟩];intro us H2 B r2 rh2;erw[⟨v,vs,M2,A.mono B,r2,rh2,DT (λm M' J=>J.on (P.trans B)) q2⟩]
 |.comp own fr src tg test elt,X,e,c,h=>by
  have⟨x,t,it,ifs,scope,p,rfl,W,O,Z,S,h5,h6,h7⟩:=IY h;erw[.plain c ?_ (λ_=>rfl) rfl];erw[(_k0 own fr (g:=gOf X.K tg) (te:=liE X.K (wE Φ elt)) (λe s h=>by rw[c.nox]at h;erw[h]) c.calm W (sSr src (tg:=t) c S) (λC fp s₃ H₃=>sTg (X:=cxC X scope own fr C fp s₃ H₃) (lim:=own.length) (all:=wg) c.calm Z (λz=>by cases z) tg h5) (tt:=ttOf X.K Φ test) (λC fp s₃ H₃=>sI (X:=cxC X scope own fr C fp s₃ H₃) test (c.comp (W0 W).kind Z) h6)
   (λC fp s₃ H₃=>(sE (X:=cxC X scope own fr C fp s₃ H₃) elt (c.comp (W0 W).kind Z) h7).pe) (E8 O _)).thaw.weak λY H Q hw=>?_]
  erw[J9 c.mon h5 hw]
 |.fld cn o f,X,e,c,h=>by
  have⟨ob,p,rfl,W,O⟩:=_na h;have⟨C,hC,cl,na⟩:=c.cls cn f W;erw[.plain c ?_ (λ_=>rfl) rfl];erw[(T8 (sE o c O).pe (Aa O)).weak λY H Q hw=>?_];have⟨L,M,T,U,hw⟩:=hw;erw[⟨L,M,T,U,Xc c.mon o (λv M1 h'=>?_) hw⟩];have⟨a,fs,y,e,e2,e3,q⟩:=h';subst e;intro u D P A N;obtain rfl:=A.inv;have⟨C',dx,vs,g1,g2,g3⟩:=N.ins e2;rw[hC]at g2;cases g2;rcases DQ (f:=f) g3 with⟨z1,z2⟩|⟨x',u',z1,z2,r'⟩
  .rw[e3]at z1;cases z1
  .rw[e3]at z1;cases z1;erw[⟨a,C,dx,vs,u',rfl,g1,cl,na,z2,q _ _ P r' N⟩]
 |.mcall j cn m o es,X,e,c,h=>by
  have⟨ob,ap,args,cp,rfl,W,O,Z,h8,h9⟩:=_i7 h;have hform:methodCallForm (args.length+([]:List Ze).length) (Y5 cp (Xx args X.env)) (U7 cp (U8 [] X.env))=wf:=by
   unfold methodCallForm;have e0:U7 cp (U8 [] X.env)=[]:=rfl;rw[(UR (Up (l:=cp) Z)).1,e0];simp only[Bu,XU,decide_eq_true_eq];erw[⟨rfl,?_⟩];simp at h9 ⊢;lia
  have⟨fn,sp,hj,k,C,fa,fd,ps,hr,F,hC,cl,hm,hb⟩:=c.mts j cn m W;erw[.plain c ?_ (λ_=>rfl) rfl];cases args with
  |nil=>
   erw[(Tj (E:=E0) (sE o c O).pe cl hm F hr hb .nil BU (Jb (Aa O) hform h8)).weak λY H Q hw=>?_];have⟨L,M,T,U,hw⟩:=hw;erw[⟨L,M,T,U,Xc c.mon o (λv M1 h'=>?_) hw⟩];have⟨a,fs,e,e2,e3,q⟩:=h';subst e;intro u D P A N;obtain rfl:=A.inv;have⟨C',dx,vs,g1,g2,g3⟩:=N.ins e2;rw[hC]at g2;cases g2;have hn:vs.lookup m=we:=by
    rcases DQ (f:=m) g3 with⟨_,z2⟩|⟨x',u',z1,_⟩
    .erw[z2]
    .rw[e3]at z1;cases z1
   cases es with
   |cons _ _=>erw[absurd Z XB]
   |nil=>
    have⟨f',sp',e4,q2⟩:=q;rw[hj]at e4;cases e4;erw[⟨a,dx,vs,rfl,g1,hn,[.ref a],M1,.cons (.ref a) .nil,N,c.mon j fn sp hj (λm M' J=>J.on P) q2⟩]
  |cons x xs=>
   cases es with
   |nil=>cases E1 Z
   |cons a0 es=>
    have h3':=Z;have⟨x',xs',e',S,h5⟩:=E2 Z;cases e';erw[(Ti (E:=E0) (sE o c O).pe cl hm F hr hb .nil BU (sA (.cons a0 es) c h3') (YC S) (UR (Up (l:=cp) h5)).2 (Jb (Aa O) hform h8)).weak λY H Q hw=>?_];have⟨L,M,T,U,hw⟩:=hw;erw[⟨L,M,T,U,Xc c.mon o (λv M1 h'=>?_) hw⟩];have⟨a,fs,e,e2,e3,q⟩:=h';subst e;intro u D P A N;obtain rfl:=A.inv;have⟨C',dx,vs,g1,g2,g3⟩:=N.ins e2;rw[hC]at g2;cases g2;have hn:vs.lookup m=we:=by
     rcases DQ (f:=m) g3 with⟨_,z2⟩|⟨x',u',z1,_⟩
     .erw[z2]
     .rw[e3]at z1;cases z1
    erw[⟨a,dx,vs,rfl,g1,hn,L,M1,T.mono P,N,mon_es c.mon (.cons a0 es) (λws M2 h'=>?_) q⟩];have⟨f',sp',e4,q2⟩:=h';rw[hj]at e4;cases e4;intro us H2 B r2 rh2;erw[⟨.ref a::ws,M2,?_,rh2,c.mon j fn sp hj (λm M' J=>J.on (P.trans B)) q2⟩];rw[YS];erw[.cons (.ref a) r2]
 |.make j cn a es,X,e,c,h=>by
  have⟨p,x,xs,p2,rfl,W,O,Z,S⟩:=_kl h;have⟨g1,g2,g3⟩:=UQ O;have⟨fn,sp,hj,k,C,fa,fd,ps,hr,F,hC,hm,mk,hb⟩:=c.mks j cn W;have ha:PA X (x::xs) (VX (liE X.K (wE Φ a)) (liA X.K (wEs Φ es))):=WN (sE a c Z).pe (sA es c S) (YC Z);erw[.plain c ?_ (λ_=>rfl) rfl];erw[(Tl (E:=E0) mk F hr g1 hm hb .nil BU ha g2 (YC Z) (UR (Up (l:=p2) S)).2).weak λY H Q hw=>?_];have⟨L,M,T,U,hw⟩:=hw;erw[⟨L,M,T,U,Xc c.mon a (λv M1 q1=>?_) hw⟩];intro u D P A N;erw[⟨L,M1,T.mono P,N,mon_es c.mon es (λvs M2 h'=>?_) q1⟩];have⟨f',sp',e,q2⟩:=h';rw[hj]at e;cases e;intro us H2 B r2 rh2;intro q dx J hdx ne;have kk:Kp H2 (upd (upd H2 dx (.own q)) q (.ins C dx [])):=(Kp.new hdx _).trans (Kp.new (by rw[XE ne.symm];erw[J]) _)
  erw[⟨.ref q::v::vs,updM M2 q (.ins cn []),?_,?_,c.mon j fn sp hj (λm M' ⟨z,hq'⟩=>?_) (q2 q (rh2.free J))⟩]
  .rw[YS];erw[.cons (.ref q) (.cons ((A.mono B).mono kk) (r2.mono kk))]
  .have k3:=Kp.new (H:=H2) hdx (.own q);have rh3:RH X.K M2 (upd H2 dx (.own q)):=rh2.kept hdx _;erw[rh3.put (Kp.new (by rw[XE ne.symm];erw[J]) _) (o:=.ins cn []) ⟨hC,.nil⟩]
  .subst z;intro v' H' k' r' rh';obtain rfl:=r'.inv;erw[⟨rfl,hq' _ _ ((P.trans B).trans (kk.trans k')) (.ref q) rh'⟩]
 |.disp ps,X,e,c,h=>absurd h XB
theorem sP:∀(ps:IPs){X:Cx} {pos:Pos} {ks:List (Option Expr)} {vs:List Expr},Cok X G Φ->A9 G ps X.env.scope X.N ks vs=wf->PPs X pos ks vs (trOf X.K Φ ps)
 |.nil,X,pos,ks,vs,c,h=>by
  have⟨rfl,rfl⟩:=_gk h;erw[_me]
 |.cons k v r,X,pos,ks,vs,c,h=>by
  have⟨x,ks',y,vs',rfl,rfl,W,O,Z⟩:=_eG h;erw[_jS (sE k c W).pe (sE v c O).pe (sP r c Z)]
theorem sA{G:GI}{Φ:List (Str×SpM)}:∀(ies:IEs){X:Cx} {es:List Expr},Cok X G Φ->chkEs G ies X.env.scope X.N es=wf->PA X es (liA X.K (wEs Φ ies))
 |.nil,X,es,c,h=>by
  cases es with
  |cons _ _=>cases E1 h
  |nil=>
   erw[pa_nil.weak λY H Q hw=>?_];have⟨L,M,T,U,hw⟩:=hw;erw[hw _ _ (Kp.refl _) .nil U]
 |.cons a as,X,es,c,h=>by
  cases es with
  |nil=>cases h
  |cons x xs=>
   have⟨x',xs',e',h⟩:=E2 h;cases e';erw[(WN (sE a c h.1).pe (sA as c h.2) (YC h.1)).weak λY H Q hw=>?_];have:wEs Φ (.cons a as)=λY M Q=>wE Φ a Y M λv M1=>wEs Φ as Y M1 λvs M2=>Q (v::vs) M2:=rfl;rw[this]at hw;erw[_mU (te:=wE Φ a) (t:=wEs Φ as) (Xc c.mon a) (mon_es c.mon as) hw]
theorem sO{G:GI}{Φ:List (Str×SpM)}:∀(io:IO){X:Cx} {e:Option Expr},Cok X G Φ->chkO G io X.env.scope X.N e=wf->PO X e (liO X.K (wO Φ io))
 |.none,X,e,c,h=>by
  cases e with
  |some _=>cases _gm h
  |none=>
   intro pq s Y H Q I hw;erw[Tx pq s Y H Q I ?_];have⟨L,M,T,U,hw⟩:=hw;erw[hw _ (Kp.refl _) U]
 |.some a,X,e,c,h=>by
  cases e with
  |none=>erw[absurd h XB]
  |some x=>
   have⟨x',e',h⟩:=_gl h;cases e';intro pq s Y H Q I hw;erw[Tz (sE a c h).pe pq s Y H Q I ?_];have⟨L,M,T,U,hw⟩:=hw;erw[⟨L,M,T,U,Xc c.mon a (λv M1 h'=>?_) hw⟩];have⟨i,e,q⟩:=h';subst e;intro u D P A N;obtain rfl:=A.inv;erw[⟨i,rfl,q D P N⟩]
theorem sI{G:GI}{Φ:List (Str×SpM)}:∀(io:IO){X:Cx} {es:List Expr},Cok X G Φ->chkI G io X.env.scope X.N es=wf->PTs X es (ttOf X.K Φ io)
 |.none,X,es,c,h=>by
  cases es with
  |cons _ _=>cases _go h
  |nil=>erw[.inl ⟨rfl,rfl⟩]
 |.some a,X,es,c,h=>by
  have⟨x,rfl,W,O⟩:=_gn h;erw[.inr ⟨x,rfl,(sE a c O).pt W⟩]
theorem sSr{G:GI}{Φ:List (Str×SpM)}:∀(s:ISr){X:Cx} {tg e:Expr},Cok X G Φ->chkSr G s X.env.scope X.N e=wf->PI X tg e (liSr X (wSr Φ s))
 |.seq a,X,tg,e,c,h=>by
  erw[(_mk (sE a c h).pe).weak λY H R hw=>?_];have⟨L,M,T,U,hw⟩:=hw;erw[⟨L,M,T,U,Xc c.mon a (λv M1 q=>?_) hw⟩];intro u D P A N;rcases q with⟨xs,e,q⟩|⟨b,xs,e,hb,q⟩|⟨b,kvs,e,hb,q⟩|⟨z,e,q⟩
  .rcases e with e|e
   .subst e;have⟨_,_,rfl,W,q1⟩:=A.inv;erw[.inl ⟨_,rfl,.inr (.inl ⟨_,SqT.of W,q _ _ P N (.inl ⟨_,_,W,q1,rfl⟩)⟩)⟩]
   .subst e;have⟨_,_,rfl,W,q1⟩:=A.inv;erw[.inl ⟨_,rfl,.inl ⟨_,W.sq,q _ _ P N (.inr ⟨_,_,W,q1,rfl⟩)⟩⟩]
  .subst e;obtain rfl:=A.inv;have⟨vs,e2,_⟩:=N.lst hb;erw[.inl ⟨_,rfl,.inl ⟨_,SqL.of e2,q _ _ P N rfl⟩⟩]
  .subst e;obtain rfl:=A.inv;have⟨vs,e2,r2,nd⟩:=N.dic hb;erw[.inl ⟨_,rfl,.inr (.inr ⟨vs,e2,λo nf=>?_⟩)⟩];have k:=Kp.upd e2 rfl (.frz o (.dK vs));erw[q o _ _ (P.trans k) (N.put k (o:=.fdic o kvs) ⟨rfl,r2.mono k,nd⟩) ⟨rfl,nf⟩]
  .subst e;obtain rfl:=A.inv;erw[.inr ⟨z,rfl,q _ _ P N rfl⟩]
 |.rng a,X,tg,e,c,h=>by
  have⟨p,x,p2,rfl,O,Z,S⟩:=_n2 h;erw[(Sr (UQ Z).1 (c.bls _ O) (WN (sE a c S).pe pa_nil (YC S)) (YC S)).weak λY H R hw=>?_];have⟨L,M,T,U,hw⟩:=hw;erw[⟨L,M,T,U,Xc c.mon a (λv M1 h'=>?_) hw⟩];have⟨j,e,q1,q2,q⟩:=h';subst e;intro u D P A N;obtain rfl:=A.inv;erw[⟨j,rfl,q1,q2,q _ _ P N rfl⟩]
end
end L2
namespace L2
set_option genInjectivity false
set_option genCtorIdx false
open PySem PySem.Spec PyProof.Rows
mutual
inductive IS where
 |pass|brk|cnt|never
 |ret (e:IE)|retN
 |set (i:Nat)(e:IE)
 |asg (t:ITgs)(e:IE)
 |put (o i e:IE)
 |fset (c:Str)(o:IE)(f:Str)(e:IE)
 |expr (e:IE)
 |ite (c:IE)(a b:ISs)
 |for_ (t:ITg)(s:ISr)(b:ISs)
 |while_ (c:IE)(b:ISs)
inductive ISs where|nil|cons (s:IS)(r:ISs)
end
structure EndM where
 nx:Sm->MH->Prop
 rt:QM
mutual
def wS(Φ:List (Str×SpM)):IS->EndM->Sm->MH->Prop
 |.pass,D,j,M=>D.nx j M
 |.brk,_,_,_=>False
 |.cnt,_,_,_=>False
 |.never,_,_,_=>False
 |.ret e,D,j,M=>wE Φ e j M D.rt
 |.retN,D,_,M=>D.rt .non M
 |.set i e,D,j,M=>wE Φ e j M λv M1=>D.nx (j.set i (wc v)) M1
 |.asg t e,D,j,M=>wE Φ e j M λv M1=>∃xs,v=.tup xs/\wTgs t xs j λl=>D.nx l M1
 |.put o i e,D,j,M=>wE Φ e j M λv M1=>wE Φ o j M1 λx M2=>wE Φ i j M2 λy z=>wPut x y v z λg=>D.nx j g
 |.fset c o f e,D,j,M=>wE Φ e j M λv M1=>wE Φ o j M1 λx M2=>∃a fs,x=.ref a/\M2 a=wc (.ins c fs)/\fs.length<1000/\D.nx j (updM M2 a (.ins c (putM fs f v)))
 |.expr e,D,j,M=>wE Φ e j M λ_ M1=>D.nx j M1
 |.ite c a b,D,j,M=>wE Φ c j M λx M1=>onB x λk=>(if k=wf then wSs Φ a D j M1 else wSs Φ b D j M1)
 |.for_ t s b,D,j,M=>wSr Φ s j M λS M1=>∃J:Nat->Sm->MH->Prop,J 0 j M1/\(∀i j M,J i j M->S.ok M)/\
   (∀i x j M,S.items[i]?=wc x->J i j M->wTg t x j λu=>wSs Φ b {nx:=J (i+1),rt:=λv M=>S.okT M/\D.rt v (S.thaw M)} u M)/\∀j M,J S.len j M->D.nx j (S.thaw M)
 |.while_ c b,D,j,M=>∃J:Nat->Sm->MH->Prop,(∃m,J m j M)/\∀m j M,J m j M->wE Φ c j M λx M1=>∃k,x=.bl k/\
   (if k=wf then wSs Φ b {nx:=λl M'=>∃w,w<m/\J w l M',rt:=D.rt} j M1 else D.nx j M1)
def wSs(Φ:List (Str×SpM)):ISs->EndM->Sm->MH->Prop
 |.nil,D,j,M=>D.nx j M
 |.cons s r,D,j,M=>wS Φ s {nx:=λj M=>wSs Φ r D j M,rt:=D.rt} j M
end
def Jd{j:List (Str×SpM)}{c:IE}{a b:ISs}{D:EndM}{l:Sm}{M:MH}:wS j (.ite c a b) D l M=wE j c l M λx M1=>∃k,x=.bl k/\(if k=wf then wSs j a D l M1 else wSs j b D l M1):=by
 show(wE j c l M λx M1=>onB x λk=>(if k=wf then wSs j a D l M1 else wSs j b D l M1))=_;simp only[W7]
structure EndM.Le (D D':EndM):Prop where
 nx:∀σ M,D.nx σ M->D'.nx σ M
 rt:∀v M,D.rt v M->D'.rt v M
mutual
theorem Je{Φ:List (Str×SpM)}(u:∀(j:Nat)f sp,Φ[j]?=wc (f,sp)->MonW sp):∀(s:IS){D g:EndM} {w:Sm} {M:MH},D.Le g->wS Φ s D w M->wS Φ s g w M
 |.pass,D,g,w,M,l,h=>by erw[l.nx _ _ h]
 |.brk,D,g,w,M,l,h=>h.elim
 |.cnt,D,g,w,M,l,h=>h.elim
 |.never,D,g,w,M,l,h=>h.elim
 |.ret e,D,g,w,M,l,h=>by erw[Xc u e l.rt h]
 |.retN,D,g,w,M,l,h=>by erw[l.rt _ _ h]
 |.set i e,D,g,w,M,l,h=>by erw[Xc u e (λv M1 d=>l.nx _ _ d) h]
 |.asg t e,D,g,w,M,l,h=>by erw[Xc u e (λv M1 h'=>by have⟨xs,e,d⟩:=h';erw[⟨xs,e,mon_tgs t (λO q=>l.nx _ _ q) d⟩]) h]
 |.put o i e,D,g,w,M,l,h=>by
  erw[Xc u e (λv M1 d=>Xc u o (λx M2 q=>Xc u i (λy C P=>II (λE R=>l.nx _ _ R) P) q) d) h]
 |.fset c o f e,D,g,w,M,l,h=>by
  erw[Xc u e (λv M1 d=>Xc u o (λx M2 h'=>by have⟨a,fs,T,U,W,q⟩:=h';erw[⟨a,fs,T,U,W,l.nx _ _ q⟩]) d) h]
 |.expr e,D,g,w,M,l,h=>by erw[Xc u e (λv M1 d=>l.nx _ _ d) h]
 |.ite c a b,D,g,w,M,l,h=>by
  rw[Jd]at h ⊢;erw[Xc u c (λx M1 h'=>by have⟨k,e,d⟩:=h';erw[⟨k,e,YU (mon_ss u a l) (mon_ss u b l) d⟩]) h]
 |.for_ t s b,D,g,w,M,l,h=>by
  erw[mon_sr u s (λS M1 ⟨J,L,N,Y,Z⟩=>⟨J,L,N,λi x w M A p=>?_,λw M p=>l.nx _ _ (Z w M p)⟩) h];erw[W8 t (λB q=>by erw[mon_ss u b ?_ q];erw[⟨λ_ _ z=>z,λ_ _ z=>⟨z.1,l.rt _ _ z.2⟩⟩]) (Y i x w M A p)]
 |.while_ c b,D,g,w,M,l,h=>by
  have⟨J,L,N⟩:=h;erw[⟨J,L,λm w M p=>Xc u c (λx M1 ⟨k,e,d⟩=>⟨k,e,YU (λz=>by erw[mon_ss u b ?_ z];erw[⟨λ_ _ z=>z,l.rt⟩]) (l.nx _ _) d⟩) (N m w M p)⟩]
theorem mon_ss{Φ:List (Str×SpM)}(u:∀(j:Nat)f sp,Φ[j]?=wc (f,sp)->MonW sp):∀(s:ISs){D g:EndM} {w:Sm} {M:MH},D.Le g->wSs Φ s D w M->wSs Φ s g w M
 |.nil,D,g,w,M,l,h=>by erw[l.nx _ _ h]
 |.cons s r,D,g,w,M,l,h=>by
  erw[Je u s ?_ h];erw[⟨λw M d=>mon_ss u r l d,l.rt⟩]
end
noncomputable def Jf:Expr->Bool
 |.Tuple ..=>wg|_=>wf
noncomputable def Ac:Expr->Bool
 |.ListComp ..=>wg|.SetComp ..=>wg|.DictComp ..=>wg|_=>wf
noncomputable def Jg:Stmt->Option (Option Expr)|.Return v _=>wc v|_=>we
noncomputable def Ad:Stmt->Option (List Expr×Expr)|.Assign ts v _=>wc (ts,v)|_=>we
noncomputable def asEx:Stmt->Option Expr|.Expr v _=>wc v|_=>we
noncomputable def Jh:Stmt->Option (Expr×List Stmt×List Stmt)|.If t x y _=>wc (t,x,y)|_=>we
noncomputable def Ji:Stmt->Option (Expr×Expr×List Stmt×List Stmt)|.For t i b r _=>wc (t,i,b,r)|_=>we
noncomputable def asWh:Stmt->Option (Expr×List Stmt×List Stmt)|.While t b r _=>wc (t,b,r)|_=>we
section
variable{e:Stmt}
def _kD{x:Option Expr}(h:Jg e=wc x):∃p,e=.Return x p:=by revert h;cases e<;>first|erw[nos]|(intro h;cases h;erw[⟨_,rfl⟩])
def C7{x:List Expr×Expr}(h:Ad e=wc x):∃p,e=.Assign x.1 x.2 p:=by revert h;cases e<;>first|erw[nos]|(intro h;cases h;erw[⟨_,rfl⟩])
def _nG{x:Expr}(h:asEx e=wc x):∃p,e=.Expr x p:=by revert h;cases e<;>first|erw[nos]|(intro h;cases h;erw[⟨_,rfl⟩])
def _kF{x:Expr×List Stmt×List Stmt}(h:Jh e=wc x):∃p,e=.If x.1 x.2.1 x.2.2 p:=by revert h;cases e<;>first|erw[nos]|(intro h;cases h;erw[⟨_,rfl⟩])
def _kG{x:Expr×Expr×List Stmt×List Stmt}(h:Ji e=wc x):∃p,e=.For x.1 x.2.1 x.2.2.1 x.2.2.2 p:=by revert h;cases e<;>first|erw[nos]|(intro h;cases h;erw[⟨_,rfl⟩])
def _nE{x:Expr×List Stmt×List Stmt}(h:asWh e=wc x):∃p,e=.While x.1 x.2.1 x.2.2 p:=by revert h;cases e<;>first|erw[nos]|(intro h;cases h;erw[⟨_,rfl⟩])
end
mutual
def chkS(G:GI)(j:Scope)(N:List Str):IS->Stmt->Bool
 |.pass,_=>wg
 |.brk,_=>wg
 |.cnt,_=>wg
 |.never,_=>wf
 |.ret e,s=>(Jg s).any λo=>o.any λx=>chkE G e j N x
 |.retN,_=>wg
 |.set i e,s=>(Ad s).any λq=>(the1 q.1).any λt=>(Z1 t).any λx=>decide (N[i]?=wc x)&&locB j x&&chkE G e j N q.2
 |.asg t e,s=>(Ad s).any λq=>(the1 q.1).any λg=>(Wa g).any λes=>chkTgs j N N.length wf t es&&chkE G e j N q.2&&Jf q.2
 |.put o i e,s=>(Ad s).any λq=>(the1 q.1).any λt=>(Wb t).any λa=>chkE G o j N a.1&&chkE G i j N a.2&&A3 a.2&&chkE G e j N q.2
 |.fset c o f e,s=>(Ad s).any λq=>(the1 q.1).any λt=>(Vp t).any λa=>decide (a.2.1=f)&&G.cls.contains (c,f)&&chkE G o j N a.1&&chkE G e j N q.2
 |.expr e,s=>(asEx s).any λv=>chkE G e j N v&&Ac v
 |.ite c a b,s=>(Jh s).any λq=>tok c&&chkE G c j N q.1&&chkSs G j N a q.2.1&&chkSs G j N b q.2.2
 |.for_ t r b,s=>(Ji s).any λq=>Zo j N N.length wf t q.1&&chkSr G r j N q.2.1&&A4 q.2.1&&chkSs G j N b q.2.2.1&&non0 q.2.2.2
 |.while_ c b,s=>(asWh s).any λq=>tok c&&chkE G c j N q.1&&chkSs G j N b q.2.1&&non0 q.2.2
def chkSs(G:GI)(j:Scope)(N:List Str):ISs->List Stmt->Bool
 |.nil,l=>non0 l
 |.cons s r,l=>(hd1 l).any λq=>chkS G j N s q.1&&chkSs G j N r q.2
end
def liD(K:X3)(H:Hp)(D:Ends):EndM where
 nx:=λl M=>∀u j,Kp H j->RS K j l u->RH K M j->D.nx u j
 rt:=Dn K H D.rt
theorem liD.on{K:X3}{H j:Hp}{D:Ends}(k:Kp H j):(liD K H D).Le (liD K j D):=
 ⟨λ_ _ h l u w=>h l u (k.trans w),λ_ _ h=>h.on k⟩
def liSt(K:X3)(t:EndM->Sm->MH->Prop):TS:=λD l H=>∃j M,RS K H j l/\RH K M H/\t (liD K H D) j M
def _gY{e:Expr}{x:Str}{p:Pos}{l:Nat}{j:Env}(h:Ac e=wf):ZP e (wc (.Name x p)) l j=pure wg:=by cases e<;>first|rfl|cases h
def _gX{e:Expr}{l:Nat}{j:Env}(h:Ac e=wf):ZP e we l j=pure wg:=by cases e<;>first|rfl|cases h
def _jC{e:Expr}{l:List Expr}{k:Nat}{p:Pos}{u:Nat}{j:Env}:ZP e (wc (.Tuple l k p)) u j=pure wg:=by cases e<;>rfl
def _jE{e a:Expr}{f:Str}{p:Pos}{l:Nat}{j:Env}:ZP e (wc (.Attribute a f p)) l j=pure wg:=by cases e<;>rfl
def _jD{e a b:Expr}{p:Pos}{l:Nat}{j:Env}:ZP e (wc (.Subscript a b p)) l j=pure wg:=by cases e<;>rfl
def _gZ{l:Expr}{y:List Comprehension}{j:Scope}{u p:Pos}{x:Str}{z:Nat}{w:Env}:∃b:Bool,ZP (.ListComp l y j u) (wc (.Name x p)) z w=pure b:=⟨_,rfl⟩
def _nw{G:GI}{l:IE}{y:Scope}{N:List Str}{e:Expr}(h:chkE G l y N e=wf):Ac e=wf\/∃own fr u z j w,l=.comp own fr u z j w:=by
 revert h;cases e<;>first
  |erw[λ_=>.inl rfl]
  |(cases l<;>first
    |erw[nob]
    |erw[λ_=>.inr ⟨_,_,_,_,_,_,rfl⟩])
section
variable{G:GI}{sc:Scope}{N:List Str}{st:Stmt}
def _ko{e:IE}(h:chkS G sc N (.ret e) st=wf):∃x p,st=.Return (wc x) p/\chkE G e sc N x=wf:=by
 replace h:=Xg h;have⟨o,j,h⟩:=h;have⟨p,rfl⟩:=_kD j;replace h:=Xg h;have⟨x,rfl,h⟩:=h;erw[⟨x,p,rfl,h⟩]
def _kn{i:Nat}{e:IE}(h:chkS G sc N (.set i e) st=wf):∃x j v p,st=.Assign [.Name x j] v p/\N[i]?=wc x/\locB sc x=wf/\chkE G e sc N v=wf:=by
 replace h:=Xg h;have⟨⟨g,v⟩,l,h⟩:=h;have⟨p,rfl⟩:=C7 l;replace h:=Xg h;have⟨t,u,h⟩:=h;obtain rfl:=_L u;replace h:=Xg h;have⟨x,w,h⟩:=h;have⟨j,rfl⟩:=_n w;replace h:=Xf h;have⟨h,y⟩:=h;replace h:=Xf h;have⟨z,m⟩:=h;erw[⟨x,j,v,p,rfl,XO z,m,y⟩]
def _ks{t:ITgs}{e:IE}(h:chkS G sc N (.asg t e) st=wf):∃j k pt v p,st=.Assign [.Tuple j k pt] v p/\chkTgs sc N N.length wf t j=wf/\chkE G e sc N v=wf/\Jf v=wf:=by
 replace h:=Xg h;have⟨⟨d,v⟩,l,h⟩:=h;have⟨p,rfl⟩:=C7 l;replace h:=Xg h;have⟨g,u,h⟩:=h;obtain rfl:=_L u;replace h:=Xg h;have⟨j,w,h⟩:=h;have⟨k,pt,rfl⟩:=C3 w;replace h:=Xf h;have⟨h,y⟩:=h;replace h:=Xf h;have⟨z,m⟩:=h;erw[⟨j,k,pt,v,p,rfl,z,m,y⟩]
def _kp{o i e:IE}(h:chkS G sc N (.put o i e) st=wf):∃a b pt v p,st=.Assign [.Subscript a b pt] v p/\chkE G o sc N a=wf/\chkE G i sc N b=wf/\A3 b=wf/\chkE G e sc N v=wf:=by
 replace h:=Xg h;have⟨⟨d,v⟩,j,h⟩:=h;have⟨p,rfl⟩:=C7 j;replace h:=Xg h;have⟨g,l,h⟩:=h;obtain rfl:=_L l;replace h:=Xg h;have⟨⟨a,b⟩,u,h⟩:=h;have⟨pt,rfl⟩:=C4 u;replace h:=Xf h;have⟨h,w⟩:=h;replace h:=Xf h;have⟨h,y⟩:=h;replace h:=Xf h;have⟨z,m⟩:=h;erw[⟨a,b,pt,v,p,rfl,z,m,y,w⟩]
def _i9{c f:Str}{o e:IE}(h:chkS G sc N (.fset c o f e) st=wf):∃a pt v p,st=.Assign [.Attribute a f pt] v p/\G.cls.contains (c,f)=wf/\chkE G o sc N a=wf/\chkE G e sc N v=wf:=by
 replace h:=Xg h;have⟨⟨d,v⟩,j,h⟩:=h;have⟨p,rfl⟩:=C7 j;replace h:=Xg h;have⟨g,l,h⟩:=h;obtain rfl:=_L l;replace h:=Xg h;have⟨⟨a,q,pt⟩,u,h⟩:=h;obtain rfl:=A8 u;simp only[XU]at h;have⟨⟨⟨w,y⟩,z⟩,m⟩:=h;obtain rfl:=XO w;erw[⟨a,pt,v,p,rfl,y,z,m⟩]
def _ia{e:IE}(h:chkS G sc N (.expr e) st=wf):∃v p,st=.Expr v p/\chkE G e sc N v=wf/\Ac v=wf:=by
 replace h:=Xg h;have⟨v,j,h⟩:=h;have⟨p,rfl⟩:=_nG j;erw[⟨v,p,rfl,Xf h⟩]
def _kq{c:IE}{a b:ISs}(h:chkS G sc N (.ite c a b) st=wf):∃t x y p,st=.If t x y p/\tok c=wf/\chkE G c sc N t=wf/\chkSs G sc N a x=wf/\chkSs G sc N b y=wf:=by
 replace h:=Xg h;have⟨⟨t,x,y⟩,j,h⟩:=h;have⟨p,rfl⟩:=_kF j;replace h:=Xf h;have⟨h,l⟩:=h;replace h:=Xf h;have⟨h,u⟩:=h;replace h:=Xf h;have⟨w,z⟩:=h;erw[⟨t,x,y,p,rfl,w,z,u,l⟩]
def _kr{t:ITg}{s:ISr}{b:ISs}(h:chkS G sc N (.for_ t s b) st=wf):∃u l j p,st=.For u l j [] p/\Zo sc N N.length wf t u=wf/\chkSr G s sc N l=wf/\A4 l=wf/\chkSs G sc N b j=wf:=by
 replace h:=Xg h;have⟨⟨u,l,j,w⟩,y,h⟩:=h;have⟨p,rfl⟩:=_kG y;replace h:=Xf h;have⟨h,z⟩:=h;replace h:=Xf h;have⟨h,m⟩:=h;replace h:=Xf h;have⟨h,g⟩:=h;replace h:=Xf h;have⟨d,c⟩:=h;obtain rfl:=Yo z;erw[⟨u,l,j,p,rfl,d,c,g,m⟩]
def _gq{c:IE}{b:ISs}(h:chkS G sc N (.while_ c b) st=wf):∃t j p,st=.While t j [] p/\tok c=wf/\chkE G c sc N t=wf/\chkSs G sc N b j=wf:=by
 replace h:=Xg h;have⟨⟨l,j,u⟩,w,h⟩:=h;have⟨p,rfl⟩:=_nE w;replace h:=Xf h;have⟨h,y⟩:=h;replace h:=Xf h;have⟨h,z⟩:=h;replace h:=Xf h;have⟨m,g⟩:=h;obtain rfl:=Yo y;erw[⟨l,j,p,rfl,m,g,z⟩]
def _i8{j:List Stmt}(h:chkSs G sc N .nil j=wf):j=[]:=by
 erw[Yo h]
def _gp{s:IS}{r:ISs}{j:List Stmt}(h:chkSs G sc N (.cons s r) j=wf):∃x l,j=x::l/\chkS G sc N s x=wf/\chkSs G sc N r l=wf:=by
 replace h:=Xg h;have⟨⟨x,l⟩,u,h⟩:=h;erw[⟨x,l,Uo u,Xf h⟩]
end
mutual
theorem sS{G:GI}{Φ:List (Str×SpM)}:∀(is:IS){X:Cx} {st:Stmt},Cok X G Φ->(∀x,X.fn x=wf)->chkS G X.env.scope X.N is st=wf->PS X st (liSt X.K (wS Φ is))
 |.pass,X,st,c,hf,h=>absurd h XB
 |.brk,X,st,c,hf,h=>absurd h XB
 |.cnt,X,st,c,hf,h=>absurd h XB
 |.never,X,st,c,hf,h=>by
  erw[ps_never.weak λD A H hw=>?_];have⟨j,M,L,T,hw⟩:=hw;erw[hw]
 |.ret e,X,st,c,hf,h=>by
  have⟨v,p,rfl,h⟩:=_ko h;erw[(Sa (sE e c h).pe).weak λD A H hw=>?_];have⟨j,M,L,T,hw⟩:=hw;erw[⟨j,M,L,T,hw⟩]
 |.retN,X,st,c,hf,h=>absurd h XB
 |.set i e,X,st,c,hf,h=>by
   have⟨x,px,v,p,rfl,W,Y,Q⟩:=_kn h;have rd:∀D A H,liSt X.K (wS Φ (.set i e)) D A H->liE X.K (wE Φ e) A H λv H1=>D.nx (A.set i (wc v)) H1:=λD A H hw=>by
    have⟨j,M,L,T,hw⟩:=hw;erw[⟨j,M,L,T,Xc c.mon e (λv M1 q=>?_) hw⟩];intro u H1 O r1 N;erw[q _ _ O ((L.mono O).set r1 i) N]
   rcases _nw Q with hn|⟨own,fr,src,tg,test,elt,rfl⟩
   .erw[(GO c.nd W (C5 Y) (sE e c Q).pe (_gY hn) (.inl (hf _))).weak rd]
   .have⟨y,t,it,ifs,scope,p3,rfl,i1,i2,i3,i4,i5,i6,i7⟩:=IY Q;have⟨b,hb⟩:=_gZ (l:=y) (y:=[⟨t,it,ifs,0⟩]) (j:=scope) (u:=p3) (p:=px) (x:=x) (z:=p.line) (w:=X.env);cases b with
    |false=>erw[(GO c.nd W (C5 Y) (sE _ c Q).pe hb (.inl (hf _))).weak rd]
    |true=>
     erw[(_ei own fr (g:=gOf X.K tg) (te:=liE X.K (wE Φ elt)) (tt:=ttOf X.K Φ test) c.nd W (C5 Y) (λe s h=>by rw[c.nox]at h;erw[h]) c.calm i1 (sSr src (tg:=t) c i4)
      (λC fp B E=>sTg (X:=cxC X scope own fr C fp B E) (lim:=own.length) (all:=wg) c.calm i3 (λz=>by cases z) tg i5) (λC fp B E=>sI (X:=cxC X scope own fr C fp B E) test (c.comp (W0 i1).kind i3) i6)
      (λC fp B E=>(sE (X:=cxC X scope own fr C fp B E) elt (c.comp (W0 i1).kind i3) i7).pe) hb (E8 i2 _) (.inl (hf _))).thaw.weak λD A H hw=>?_]
     erw[J9 c.mon i5 (rd D A H hw)]
 |.asg t e,X,st,c,hf,h=>by
   have⟨es,k,pt,v,p,rfl,W,Y,Q⟩:=_ks h;have hT:Zo X.env.scope X.N X.N.length wf (.tup t) (.Tuple es k pt)=wf:=W;erw[(GN (sE e c Y).pe (sTg (lim:=X.N.length) (all:=wf) c.calm c.nd (λ_=>hf) (.tup t) hT) (_jC (e:=v) (l:=es) (k:=k) (p:=pt) (u:=p.line) (j:=X.env)) (by cases v<;>first|rfl|cases Q) rfl).weak λD A H hw=>?_]
   have⟨j,M,L,T,hw⟩:=hw;erw[⟨j,M,L,T,Xc c.mon e (λv M1 h'=>?_) hw⟩];have⟨xs,e,q⟩:=h';intro u H1 O r1 N;erw[C6 (Ψ:=λ_=>True) (lim:=X.N.length) (λ_ _ _ _ z=>z) (.tup t) hT r1 (L.mono O) trivial (P:=λw=>(liD X.K H D).nx w M1) ⟨xs,e,q⟩ λl w q' n _=>?_];erw[q' _ _ O n N]
 |.put o i e,X,st,c,hf,h=>by
   have⟨a,b,pt,v,p,rfl,W,Y,Q,h4⟩:=_kp h;have hg:PG X (.Subscript a b pt) (gSub (liE X.K (wE Φ o)) (liE X.K (wE Φ i)) (IJ X.K)):=Sg (sE o c W).pe (sE i c Y).pe (_lR (by have:=c.room;lia)) (by intro v;cases b<;>first|rfl|cases Q)
   erw[(GN (sE e c h4).pe hg (_jD (e:=v) (a:=a) (b:=b) (p:=pt) (l:=p.line) (j:=X.env)) rfl rfl).weak λD A H hw=>?_];have⟨j,M,L,T,hw⟩:=hw;erw[⟨j,M,L,T,Xc c.mon e (λv M1 q1=>?_) hw⟩];intro u H1 O r1 N;erw[⟨j,M1,L.mono O,N,Xc c.mon o (λx M2 q2=>?_) q1⟩];intro u2 H2 k2 r2 U;erw[⟨j,M2,L.mono (O.trans k2),U,Xc c.mon i (λy M3 q3=>?_) q2⟩];intro u3 H3 F r3 rh3;erw[⟨x,y,v,M3,r2.mono F,r3,r1.mono (k2.trans F),rh3,II (λM4 q4=>?_) q3⟩];intro H4 k4 rh4;have kk:=O.trans (k2.trans (F.trans k4));erw[q4 _ _ kk (L.mono kk) rh4]
 |.fset cn o f e,X,st,c,hf,h=>by
  have⟨a,pt,v,p,rfl,W,Y,Q⟩:=_i9 h;have⟨C,hC,cl,na⟩:=c.cls cn f W;erw[(T9 (sE o c Y).pe (sE e c Q).pe _jE).weak λD A H hw=>?_];have⟨j,M,L,T,hw⟩:=hw;erw[⟨j,M,L,T,Xc c.mon e (λv M1 q1=>?_) hw⟩];intro u H1 O r1 N;erw[⟨j,M1,L.mono O,N,Xc c.mon o (λx M2 h'=>?_) q1⟩];have⟨b,fs,e1,e2,e3,q2⟩:=h';subst e1;intro u2 H2 k2 r2 U;obtain rfl:=r2.inv;have⟨C',dx,vs,g1,g2,g3⟩:=U.ins e2;rw[hC]at g2;cases g2;have F:=Kp.upd g1 rfl (.ins C dx (putF f u vs));have kk:=O.trans (k2.trans F);erw[⟨b,C,dx,vs,rfl,g1,cl,na,by rw[<-g3.length];erw[e3],?_⟩]
  erw[q2 _ _ kk (L.mono kk) (U.put F (o:=.ins cn (putM fs f v)) ⟨hC,(_mb (r1.mono k2) g3).mono F⟩)]
 |.expr e,X,st,c,hf,h=>by
  have⟨v,p,rfl,W,Y⟩:=_ia h;erw[(S9 (sE e c W).pe (_gX Y)).weak λD A H hw=>?_];have⟨j,M,L,T,hw⟩:=hw;erw[⟨j,M,L,T,Xc c.mon e (λv M1 q=>?_) hw⟩];intro u H1 O r1 N;erw[q _ _ O (L.mono O) N]
 |.ite d a b,X,st,c,hf,h=>by
  have⟨t,x,y,p,rfl,W,Y,Q,h4⟩:=_kq h;erw[(Sb ((sE d c Y).pt W) (sSs a c hf Q) (sSs b c hf h4)).weak λD A H hw=>?_];have⟨j,M,L,T,hw⟩:=hw;rw[Jd]at hw;erw[⟨j,M,L,T,Xc c.mon d (λx M1 ⟨k,e,q⟩=>⟨k,e,λH1 O N=>?_⟩) hw⟩];erw[YU (λq=>⟨j,M1,L.mono O,N,mon_ss c.mon a (liD.on O) q⟩) (λq=>⟨j,M1,L.mono O,N,mon_ss c.mon b (liD.on O) q⟩) q]
 |.for_ t s b,X,st,c,hf,h=>by
   have⟨tg,it,body,p,rfl,W,Y,Q,h4⟩:=_kr h;erw[(Sv (by rw[c.nox];erw[PassesOwn.never]) c.calm (sSr s (tg:=tg) c Y) (sTg (lim:=X.N.length) (all:=wf) c.calm c.nd (λ_=>hf) t W) (sSs b c hf h4) (E8 Q _)).thaw.weak λD A H hw=>?_]
   have⟨j,M,L,T,hw⟩:=hw;erw[⟨j,M,L,T,mon_sr c.mon s (λS M1 h'=>?_) hw⟩];have⟨J,j0,j1,j2,j3⟩:=h';intro I H1 O N sit;erw[⟨λi m w Z=>m=S.len - i/\i<=S.len/\Kp H1 Z/\∃l M',RS X.K Z l w/\RH X.K M' Z/\J i l M',⟨_,rfl,Yg _,Kp.refl _,j,M1,L.mono O,N,j0⟩,?_⟩];rintro i m σ2 H2 ⟨rfl,hi,k2,R,M2,rs2,U,hj⟩;have⟨goes,stops⟩:=J8 sit k2 U (j1 i R M2 hj);by_cases hlt:i<S.len
   .have⟨go,yld⟩:=goes i hlt;erw[.inr ⟨go,λw Z=>Kp H1 Z/\∃l M',RS X.K Z l w/\RH X.K M' Z/\J (i+1) l M',λw Z h'=>by have⟨a,z⟩:=h';erw[⟨S.len - (i+1),by lia,rfl,hlt,a,z⟩],λx Z y=>?_⟩]
    have⟨e,m,hm,rm⟩:=yld x Z y;subst e;erw[C6 (Ψ:=λ_=>True) (lim:=X.N.length) (λ_ _ _ _ z=>z) t W rm rs2 trivial (j2 i m R M2 hm hj) λσm3 σ3 q rs3 _=>?_];erw[⟨σm3,M2,rs3,U,?_⟩];erw[mon_ss c.mon b ?_ q];erw[⟨λw M' z σv H3 F n rh'=>⟨k2.trans F,w,M',n,rh',z⟩,λv M' z u H3 F r3 rh'=>?_⟩]
    .have⟨H4,th,k4,rh4⟩:=E7 sit rh' z.1;erw[⟨H4,th,z.2 u H4 (O.trans (k2.trans (F.trans k4))) (r3.mono k4) rh4⟩]
   .have e:i=S.len:=by lia
    subst e;have⟨H4,th,k4,rh4⟩:=E7 sit U (J1 (j1 _ R M2 hj));erw[.inl ⟨stops _ (Xa _),H4,th,j3 R M2 hj _ _ (O.trans (k2.trans k4)) (rs2.mono k4) rh4⟩]
 |.while_ d b,X,st,c,hf,h=>by
   have⟨tst,body,p,rfl,W,Y,Q⟩:=_gq h;erw[(Si (by rw[c.nox];erw[PassesOwn.never]) ((sE d c Y).pt W) (sSs b c hf Q)).weak λD A H hw=>?_]
   have⟨j,M,L,T,hw⟩:=hw;have⟨J,⟨m0,j0⟩,j1⟩:=hw;erw[⟨λm w Z=>Kp H Z/\∃l M',RS X.K Z l w/\RH X.K M' Z/\J m l M',⟨m0,Kp.refl _,j,M,L,T,j0⟩,?_⟩];rintro m σ2 H2 ⟨k2,R,M2,rs2,U,hj⟩;erw[⟨R,M2,rs2,U,Xc c.mon d (λx M1 ⟨k,e,q⟩=>⟨k,e,λH3 F rh3=>?_⟩) (j1 m R M2 hj)⟩];erw[YU (λq=>?_) (λq=>q _ _ (k2.trans F) (rs2.mono F) rh3) q];erw[⟨λw Z=>∃m',m'<m/\Kp H Z/\∃l M',RS X.K Z l w/\RH X.K M' Z/\J m' l M',λw Z z=>z,R,M1,rs2.mono F,rh3,?_⟩];erw[mon_ss c.mon b ?_ q];erw[⟨?_,λv M' z=>z.on (k2.trans F)⟩]
   .rintro w M' ⟨m',hm,z⟩ σv H4 k4 n rh';erw[⟨m',hm,k2.trans (F.trans k4),w,M',n,rh',z⟩]
theorem sSs{G:GI}{Φ:List (Str×SpM)}:∀(is:ISs){X:Cx} {sts:List Stmt},Cok X G Φ->(∀x,X.fn x=wf)->chkSs G X.env.scope X.N is sts=wf->PSs X sts (liSt X.K (wSs Φ is))
 |.nil,X,sts,c,hf,h=>by
   cases _i8 h;erw[pss_nil.weak λD A H hw=>?_];have⟨j,M,L,T,hw⟩:=hw;erw[hw A H (Kp.refl _) L T]
 |.cons s r,X,sts,c,hf,h=>by
   have⟨x,xs,rfl,W,Y⟩:=_gp h;erw[(S7 (sS s c hf W) (sSs r c hf Y)).weak λD A H hw=>?_];have⟨j,M,L,T,hw⟩:=hw;erw[⟨j,M,L,T,?_⟩];erw[Je c.mon s ?_ hw];erw[⟨λw M' z σv H1 O n rh'=>?_,λv M' z=>z⟩];erw[⟨w,M',n,rh',mon_ss c.mon r (liD.on O) z⟩]
end
end L2
namespace L2
open PySem PySem.Spec PyProof.Rows
structure Fts (P:Xr)(w:Xm)(K:X3)(mg:Str->Option X0)(base:Heap)(k:Nat)(G:GI)(Φ:List (Str×SpM)):Prop where
 bls:∀x,G.bl.contains x=wf->mg x=we
 gls:∀x i,G.gl.lookup x=wc i->∃tk,mg x=wc (.int i tk)
 fnn:∀(j:Nat)f,G.fns[j]?=wc f->∃sp,Φ[j]?=wc (f,sp)
 mon:∀(j:Nat)f sp,Φ[j]?=wc (f,sp)->MonW sp
 fns:∀(j:Nat)f sp,G.fns[j]?=wc f->Φ[j]?=wc (f,sp)->∃fa fd ps,FnOk P w K mg base CX0 k fa fd ps (liSp K sp)/\mg f=wc (.ref fa)/\Zm K (.ref fa)=wf/\Binds K fd ps []
 mts:∀(j:Nat)c m,G.mts.contains (j,c,m)=wf->∃f sp,Φ[j]?=wc (f,sp)/\∃C fa fd ps,FnOk P w K mg base CX0 k fa fd ps (liSp K sp)/\XD K Xp c=wc (wc (.ref C))/\Cls K C/\Meth K C m fa/\Binds K fd ps []
 mks:∀(j:Nat)c,G.mks.contains (j,c)=wf->∃f sp,Φ[j]?=wc (f,sp)/\∃k' C fa fd ps,k'+1<=k/\FnOk P w K mg base CX0 k' fa fd ps (liSp K sp)/\XD K Xp c=wc (wc (.ref C))/\mg c=wc (.ref C)/\Mk K C fa/\Binds K fd ps []
 cls:∀c f,G.cls.contains (c,f)=wf->∃C,XD K Xp c=wc (wc (.ref C))/\Cls K C/\NoAttr K C f
noncomputable def Wc(n:Nat)(j:List MV):Sm:=j.map wc++Xj (n - j.length) we
def _jG{K:X3}(r:RMs K H ms vs):RS K H (Wc N.length ms) (start N vs):=by
 unfold Wc start;have j:=r.length;erw[⟨by simp[j],λi m e=>?_⟩]
 by_cases hi:i<ms.length
 .rw[Zv (by simpa using hi),Xe]at e
  cases q:ms[i]? with
  |none=>rw[q]at e;cases e
  |some x=>
   rw[q]at e;have l:x=m:=Y2 (Y2 e);subst l;have⟨u,w,y⟩:=r.get q;erw[⟨u,by rw[Zv (by simpa [<-j]using hi),Xe,w];rfl,y⟩]
 .rw[Zi (by simpa using hi),FU]at e
  split at e<;>cases e
def Fun.okM{K:X3}{st:Stmt}{k:Nat}
  (F:Fun K x qual st f d)(S:FnScope N u (XV st))(T:Fts P w K mg base k G Φ)(R:ISs)(i:chkSs G (XV st) N R (Yu st)=wf)
  (len:∀y M Q,l y M Q->y.length=u.length)(h:∀y M Q,l y M Q->wSs Φ R {nx:=λ_ W=>Q .non W,rt:=Q} (Wc N.length y) M):FnOk P w K mg base CX0 (k+1) f d u (liSp K l):=by
 erw[F.ok S (λy H Q E Y=>?_) λZ A g s H y Q E U Y=>?_]
 .have⟨B,M,r,o,q⟩:=Y;rw[<-r.length];erw[len _ _ _ q]
 have⟨B,M,r,o,q⟩:=Y;have c:Cok (cxOf CX0 P w K mg base N qual (XV st) f Z A g s H E).nox G Φ:=
  ⟨(by have:=U.un;show(A.deeper _).units+70<cLine;lia),rfl,rfl,(by show(if(XV st).kind.isAnnotationScope then Gy else(XV st).kind)=.function;rw[S.kind];rfl),S.nd,T.bls,T.gls,T.fnn,T.mon,
   (λj f l n p=>by have⟨e,d,u,F,L,D,O⟩:=T.fns j f l n p;erw[⟨k,e,d,u,U,F,L,D,O⟩]),
   (λj c m h=>by have⟨f,l,p,C,e,d,u,F,I,b,L,O⟩:=T.mts j c m h;erw[⟨f,l,p,k,C,e,d,u,U,F,I,b,L,O⟩]),
   (λj c h=>by have⟨f,l,p,a,C,e,d,u,D,F,I,L,J,O⟩:=T.mks j c h;erw[⟨f,l,p,a,C,e,d,u,U.mono D,F,I,L,J,O⟩]),T.cls⟩
 erw[⟨_,sSs R c (λ_=>rfl) i,Wc N.length B,M,_jG r,o,?_⟩];erw[mon_ss T.mon R ?_ (h B M _ q)];erw[⟨λσ W z σv H' k1 rs' X=>z _ _ k1 .non X,λv W z=>z⟩]
def Jj:SpM:=λl M Q=>∃j:List Int,l=[.frl (j.map .int)]/\j.length<=63/\∀u,Q (.bl wf) u
noncomputable def C8(K:X3):Sp:=λl H Q _=>∃(a:Addr) (j:List Int),l=[.ref a]/\FrL K H a (j.map V.int)/\j.length<=63/\∀u,Q (.bl wf) u
def _mV{K:X3}{k:Nat}(F:FnOk P w K mg base CX0 k f fd ps (liSp K Jj)):FnOk P w K mg base CX0 k f fd ps (C8 K):=
 F.imp λy H Q E ⟨a,j,e,l,u,q⟩=>by
  subst e;erw[⟨[.frl (j.map .int)],λ_=>we,.cons (.frl l (RMs.ints j)) .nil,λ_ _ z=>(by cases z),j,rfl,u,λm=>?_⟩]
  intro v g k r d;cases r;erw[q _]
def _pO{K:X3}(o:Only H)(h:SqL K H a vs):FrL K H a vs:=by
 rcases h with(h|⟨j,h⟩)|h
 .rcases o a with z|⟨j,l,z⟩
  .rw[h]at z;cases z
  .rw[h]at z;cases z
 .erw[.inl ⟨j,h⟩]
 .erw[.inr h]
def _pr{K:X3}{k:Nat}(L:∀x∈G.bl,mg x=we)(N:∀p∈G.gl,∃O,mg p.1=wc (.int p.2 O))(d:Φ.map (·.1)=G.fns)
  (R:∀p∈Φ++Ψ,MonW p.2)(T:∀p∈Φ,∃l y z,FnOk P w K mg base CX0 k l y z (liSp K p.2)/\mg p.1=wc (.ref l)/\Zm K (.ref l)=wf/\Binds K y z [])
  (U:∀q∈G.mts,∃f u,(Φ++Ψ)[q.1]?=wc (f,u)/\∃C l y z,FnOk P w K mg base CX0 k l y z (liSp K u)/\XD K Xp q.2.1=wc (wc (.ref C))/\Cls K C/\Meth K C q.2.2 l/\Binds K y z [])
  (W:∀q∈G.mks,∃f u,(Φ++Ψ)[q.1]?=wc (f,u)/\∃r C l y z,r+1<=k/\FnOk P w K mg base CX0 r l y z (liSp K u)/\XD K Xp q.2=wc (wc (.ref C))/\mg q.2=wc (.ref C)/\Mk K C l/\Binds K y z [])
  (Y:∀q∈G.cls,∃C,XD K Xp q.1=wc (wc (.ref C))/\Cls K C/\NoAttr K C q.2):Fts P w K mg base k G (Φ++Ψ)where
 bls:=λx h=>L x (by simpa using h)
 gls:=λx i h=>N (x,i) (VP h)
 fnn:=λj f h=>by
  rw[<-d,Xe]at h;cases e:Φ[j]? with
  |none=>rw[e]at h;cases h
  |some p=>rw[e]at h;cases h;erw[⟨p.2,by rw[Zv (Xo.mp e).1,e]⟩]
 mon:=λj f u h=>R (f,u) (Xb h)
 fns:=λj f u g h=>by
  rw[<-d,Xe]at g;cases e:Φ[j]? with
  |none=>rw[e]at g;cases g
  |some p=>
   rw[Zv (Xo.mp e).1,e]at h;cases h;erw[T (f,u) (Xb e)]
 mts:=λj c m h=>U (j,c,m) (by simpa using h)
 mks:=λj c h=>W (j,c) (by simpa using h)
 cls:=λc f h=>Y (c,f) (by simpa using h)
def _pq{K:X3}{k:Nat}(e:Φ++Ψ=Χ)(m:∀x∈G.bl,mg x=we)(g:∀p∈G.gl,∃d,mg p.1=wc (.int p.2 d))(c:Φ.map (·.1)=G.fns)
  (r:∀p∈Χ,MonW p.2)(L:∀p∈Φ,∃j l u,FnOk P w K mg base CX0 k j l u (liSp K p.2)/\mg p.1=wc (.ref j)/\Zm K (.ref j)=wf/\Binds K l u [])
  (N:∀q∈G.mts,∃f y,Χ[q.1]?=wc (f,y)/\∃C j l u,FnOk P w K mg base CX0 k j l u (liSp K y)/\XD K Xp q.2.1=wc (wc (.ref C))/\Cls K C/\Meth K C q.2.2 j/\Binds K l u [])
  (O:∀q∈G.mks,∃f y,Χ[q.1]?=wc (f,y)/\∃z C j l u,z+1<=k/\FnOk P w K mg base CX0 z j l u (liSp K y)/\XD K Xp q.2=wc (wc (.ref C))/\mg q.2=wc (.ref C)/\Mk K C j/\Binds K l u [])
  (R:∀q∈G.cls,∃C,XD K Xp q.1=wc (wc (.ref C))/\Cls K C/\NoAttr K C q.2):Fts P w K mg base k G Χ:=by
 subst e;erw[_pr m g c r L N O R]
structure Fn1 (K:X3)(x:Str)(st:Stmt)(f:Addr)(d:Zd):Prop where
 a:XD K Xp x=wc (wc (.ref f))
 F:Fun K x x st f d
structure FnT (K:X3)(mg:Str->Option X0)(x:Str)(ps:List Str)(st:Stmt)(f:Addr)(d:Zd):Prop where
 F:Fun K x x st f d
 b:Binds K d ps []
 m:mg x=wc (.ref f)
structure Mt1 (K:X3)(C:Addr)(m qual:Str)(st:Stmt)(f:Addr)(d:Zd):Prop where
 M:Meth K C m f
 F:Fun K m qual st f d
def mt_mk{K:X3}{C:Addr}{x j:Str}{st:Stmt}{f:Addr}{d:X0}{q z:Option Addr}{y:Array (Option X0)}{kV w m u g:X0}(a:Y7 K (.ref C) x=wc (wc (.ref f)))(i:Bj K (.ref f)=wf)
  (l:K.lookup f=wc ⟨d,q,.func (ZB x j (Uj st) (Yu st) (XV st) .none kV w m z u g),y⟩)(c:Bg K u j=wf)(k:Zm K (.ref f)=wf):Mt1 K C x j st f (ZB x j (Uj st) (Yu st) (XV st) .none kV w m z u g):=⟨⟨a,i,k⟩,fun_mk l c k⟩
def Fn1.t{K:X3}{st:Stmt}(H:Fn1 K x st f d)(X:K.In h)(G:h.Ns Xp mg)
  (b:∀(kV j w:X0)(y:Option Addr)(l z:X0)(u:List X0),u.length=ps.length->bindArgs (ZB x x (Uj st) (Yu st) (XV st) .none kV j w y l z) ⟨u,[]⟩=pure (ps.zip u)):FnT K mg x ps st f d:=⟨H.F,H.F.binds b,Bi X G H.a⟩
def Fn1.bt{K:X3}{st:Stmt}(H:Fn1 K x st f d)
  (r:∀(kV j u:X0)(w:Option Addr)(l z v:X0),bindArgs (ZB x x (Uj st) (Yu st) (XV st) .none kV j u w l z) ⟨[v],[]⟩=pure [(y,v)])(s:X1)(v:X0):BindsTo s d ⟨[v],[]⟩ [(y,v)]:=by
 have⟨_,_,kV,j,u,w,l,z,_,rfl,_⟩:=H.F.ex;erw[.of_eq (r kV j u w l z v)]
def us0{p:List X0->Prop}(h:p [])(j:List X0)(l:j.length=0):p j:=by cases j with|nil=>erw[h]|cons _ _=>cases l
def us1{p:List X0->Prop}(h:∀u,p [u])(j:List X0)(l:j.length=1):p j:=by cases j with|nil=>cases l|cons a r=>erw[us0 (p:=λr=>p (a::r)) (h a) r (WK l)]
def us2{p:List X0->Prop}(h:∀u w,p [u,w])(j:List X0)(l:j.length=2):p j:=by cases j with|nil=>cases l|cons a r=>erw[us1 (p:=λr=>p (a::r)) (h a) r (WK l)]
def us3{p:List X0->Prop}(h:∀u w y,p [u,w,y])(j:List X0)(l:j.length=3):p j:=by cases j with|nil=>cases l|cons a r=>erw[us2 (p:=λr=>p (a::r)) (h a) r (WK l)]
def us4{p:List X0->Prop}(h:∀u w y z,p [u,w,y,z])(j:List X0)(l:j.length=4):p j:=by cases j with|nil=>cases l|cons a r=>erw[us3 (p:=λr=>p (a::r)) (h a) r (WK l)]
def us5{p:List X0->Prop}(h:∀u w y z m,p [u,w,y,z,m])(j:List X0)(l:j.length=5):p j:=by cases j with|nil=>cases l|cons a r=>erw[us4 (p:=λr=>p (a::r)) (h a) r (WK l)]
section
variable{M:MH}{Q:QM}{i j:Int}{x y:MV}{a b:Addr}
def _r5:wBin .Add (.int i) (.int j) M Q=Q (.int (i+j)) M:=rfl
def _qy:wBin .Sub (.int i) (.int j) M Q=Q (.int (i - j)) M:=rfl
def _qS:wBin .Mult (.int i) (.int j) M Q=(CMul i j/\Q (.int (i*j)) M):=rfl
def _oL:wBin .FloorDiv (.int i) (.int j) M Q=(WT i j/\Q (.int (i/j)) M):=rfl
def _qT:wBin .Mod (.int i) (.int j) M Q=(0<j/\Q (.int (i%j)) M):=rfl
def _qJ:wBin .Pow (.int i) (.int j) M Q=(CPow i j/\Q (.int (i^j.toNat)) M):=rfl
def _r3:wBin .BitAnd (.int i) (.int j) M Q=Q (.int (BL i j)) M:=rfl
def _qm:wBin .BitXor (.int i) (.int j) M Q=Q (.int (BM i j)) M:=rfl
def _oP{x y:Str}:wBin .Add (.str x) (.str y) M Q=(x.length+y.length<=sizeLine/\Q (.str (x++y)) M):=rfl
def _oy{x:Str}:wBin .Mult (.str x) (.int i) M Q=(x.length<=16/\ -1000<=i/\i<=1000/\Q (.str (Txt.mul x i)) M):=rfl
def _oO:wBin .Add (.tup xs) (.tup ys) M Q=(xs≠ []/\xs.length+ys.length<=sizeLine/\Q (.tup (xs++ys)) M):=rfl
def _ox:wBin .Mult (.tup xs) (.int i) M Q=(xs≠ []/\1<=i/\xs.length*i.toNat<=1000000/\Q (.tup (Xj i.toNat xs).flatten) M):=rfl
def _oz:wBin .Mult (.ref a) (.int i) M Q=∃l,M a=wc (.lst l)/\ -(2^63)<=i/\i<2^63/\l.length*i.toNat<=sizeLine/\∀p,M p=we->Q (.ref p) (updM M p (.lst (Xj i.toNat l).flatten)):=rfl
def _oQ:wBin .Add (.ref a) (.ref b) M Q=∃l u,M a=wc (.lst l)/\M b=wc (.lst u)/\l.length+u.length<=sizeLine/\∀p,M p=we->Q (.ref p) (updM M p (.lst (l++u))):=rfl
def q_lt:wCmp .Lt (.int i) (.int j) M Q=Q (.bl (decide (i<j))) M:=propext ⟨λl=>by have⟨_,_,e,f,h⟩:=l;cases e;cases f;erw[h],λh=>⟨i,j,rfl,rfl,h⟩⟩
def q_le:wCmp .LtE (.int i) (.int j) M Q=Q (.bl (decide (i<=j))) M:=propext ⟨λh=>Or.elim h (λl=>by have⟨_,_,e,f,h⟩:=l;cases e;cases f;erw[h]) (λl=>by have⟨_,_,e,_⟩:=l;erw[nomatch e]),λh=>Or.inl ⟨i,j,rfl,rfl,h⟩⟩
def _qU{x y:Str}:wCmp .LtE (.str x) (.str y) M Q=Q (.bl (!decide (y.cps.toList<x.cps.toList))) M:=propext ⟨λh=>Or.elim h (λl=>by have⟨_,_,e,_⟩:=l;erw[nomatch e]) (λl=>by have⟨_,_,e,f,h⟩:=l;cases e;cases f;erw[h]),λh=>Or.inr ⟨x,y,rfl,rfl,h⟩⟩
def q_gt:wCmp .Gt (.int i) (.int j) M Q=Q (.bl (decide (j<i))) M:=propext ⟨λl=>by have⟨_,_,e,f,h⟩:=l;cases e;cases f;erw[h],λh=>⟨i,j,rfl,rfl,h⟩⟩
def q_ge:wCmp .GtE (.int i) (.int j) M Q=Q (.bl (decide (j<=i))) M:=propext ⟨λl=>by have⟨_,_,e,f,h⟩:=l;cases e;cases f;erw[h],λh=>⟨i,j,rfl,rfl,h⟩⟩
def _r1:wCmp .Eq (.int i) (.int j) M Q=Q (.bl (decide (i=j))) M:=rfl
def _qR:wCmp .NotEq (.int i) (.int j) M Q=Q (.bl (!decide (i=j))) M:=rfl
def _qZ{x y:Str}:wCmp .Eq (.str x) (.str y) M Q=Q (.bl (decide (x=y))) M:=rfl
def _qP{x y:Str}:wCmp .NotEq (.str x) (.str y) M Q=Q (.bl (!decide (x=y))) M:=rfl
def q_is:wCmp .Is x .non M Q=Q (.bl (ZJ x)) M:=propext ⟨λh=>Or.elim h (λh=>h.2) (λl=>by have⟨_,e,_⟩:=l;erw[nomatch e]),λh=>Or.inl ⟨rfl,h⟩⟩
def _m8:wCmp .IsNot x .non M Q=Q (.bl (!ZJ x)) M:=propext ⟨λh=>Or.elim h (λh=>h.2) (λl=>by have⟨_,e,_⟩:=l;erw[nomatch e]),λh=>Or.inl ⟨rfl,h⟩⟩
def _r0{y:MV}:wCmp .Eq (.ref a) y M Q=wEq (.ref a) y M λb=>Q (.bl b) M:=rfl
def _qQ:wCmp .NotEq (.ref a) y M Q=wEq (.ref a) y M λb=>Q (.bl (!b)) M:=rfl
def _qO{l:List MV}{y:MV}:wCmp .NotEq (.tup l) y M Q=wEq (.tup l) y M λb=>Q (.bl (!b)) M:=rfl
def q_in:wCmp .In x y M Q=wIn x y M λb=>Q (.bl b) M:=rfl
def _qN:wCmp .NotIn x y M Q=wIn x y M λb=>Q (.bl (!b)) M:=rfl
def Wd{k:Bool->Prop}(h:M a=wc (.lst xs))(l:M b=wc (.lst []))(q:k xs.isEmpty):wEq (.ref a) (.ref b) M k:=.inr (.inr (.inl ⟨a,b,xs,rfl,rfl,h,l,q⟩))
def Ae{k:Bool->Prop}(n:eqS x y=we)(h:Alike M m x y)(le:m<=60)(q:k wf):wEq x y M k:=by
 unfold wEq;rw[n];erw[.inr (.inl ⟨m,le,h,q⟩)]
def Alike.flat(n:Nat)(f:Yb x=wf):Alike M n x x:=by
 cases n<;>rw[Alike]
 .erw[⟨f,rfl⟩]
 .erw[.inl ⟨f,rfl⟩]
theorem Alike.tup(e:xs.length=ys.length)(h:∀(i:Nat)u v,xs[i]?=wc u->ys[i]?=wc v->Alike M n u v):Alike M (n+1) (.tup xs) (.tup ys):=by
 rw[Alike];erw[.inr (.inl ⟨xs,ys,rfl,rfl,e,h⟩)]
def Alike.two{a b l w:MV}{n:Nat}(m:Alike M n a l)(g:Alike M n b w):Alike M (n+1) (.tup [a,b]) (.tup [l,w]):=by
 erw[.tup rfl λi u v h z=>?_]
 match i with
 |0=>cases h;cases z;erw[m]
 |1=>cases h;cases z;erw[g]
 |i+2=>cases h
def Alike.lst(l:LstM M x xs)(w:LstM M y ys)(e:xs.length=ys.length)(h:∀(i:Nat)u v,xs[i]?=wc u->ys[i]?=wc v->Alike M n u v):Alike M (n+1) x y:=by
 rw[Alike];erw[.inr (.inr (.inl ⟨xs,ys,l,w,e,h⟩))]
theorem Alike.dic{a b:Addr}{l w:List (Key×MV)}{n:Nat}(z:M a=wc (.dic l))(m:M b=wc (.dic w))(e:l.length=w.length)(h:∀k u,(k,u)∈l->∃v,valM w k=wc v/\Alike M n u v):Alike M (n+1) (.ref a) (.ref b):=by
 rw[Alike];erw[.inr (.inr (.inr ⟨a,b,l,w,rfl,rfl,z,m,e,h⟩))]
def ixO(o:Option MO)(y:MV)(M:MH)(Q:QM):Prop:=match o with
 |wc (.lst xs)=>∃i v,y=.int i/\atI xs i=wc v/\Q v M
 |wc (.dic kvs)=>∃l v,keyM y=wc l/\valM kvs l=wc v/\Q v M
 |wc (.fdic _ kvs)=>∃l v,keyM y=wc l/\valM kvs l=wc v/\Q v M
 |_=>False
def Jk:wIx (.ref a) y M Q=ixO (M a) y M Q:=propext ⟨λh=>by
  rcases h with⟨w,i,v,e,r⟩|⟨l,u,v,e,r⟩|⟨o,l,u,v,e,r⟩
  .rw[e];erw[⟨i,v,r⟩]
  .rw[e];erw[⟨u,v,r⟩]
  .rw[e];erw[⟨u,v,r⟩],λh=>by
  cases e:M a with
  |none=>rw[e]at h;erw[h.elim]
  |some o=>
   rw[e]at h;cases o with
   |lst w=>have⟨i,v,r⟩:=h;erw[.inl ⟨w,i,v,e,r⟩]
   |dic l=>have⟨u,v,r⟩:=h;erw[.inr (.inl ⟨l,u,v,e,r⟩)]
   |ins _ _=>erw[h.elim]
   |fdic o l=>have⟨u,v,r⟩:=h;erw[.inr (.inr ⟨o,l,u,v,e,r⟩)]⟩
def Jl:ixO (wc (.lst xs)) (.int i) M Q=∃v,atI xs i=wc v/\Q v M:=propext ⟨λl=>by have⟨_,v,e,h⟩:=l;cases e;erw[⟨v,h⟩],λl=>by have⟨v,h⟩:=l;erw[⟨i,v,rfl,h⟩]⟩
def _m6{l:List (Key×MV)}{x:Str}:ixO (wc (.dic l)) (.str x) M Q=∃v,valM l (Xn x)=wc v/\Q v M:=propext ⟨λu=>by have⟨_,v,e,h⟩:=u;cases e;erw[⟨v,h⟩],λu=>by have⟨v,h⟩:=u;erw[⟨_,v,rfl,h⟩]⟩
def _m5{o:Obj}{l:List (Key×MV)}{x:Str}:ixO (wc (.fdic o l)) (.str x) M Q=∃v,valM l (Xn x)=wc v/\Q v M:=propext ⟨λu=>by have⟨_,v,e,h⟩:=u;cases e;erw[⟨v,h⟩],λu=>by have⟨v,h⟩:=u;erw[⟨_,v,rfl,h⟩]⟩
def Jn:wIx (.tup xs) (.int i) M Q=∃v,atI xs i=wc v/\Q v M:=propext ⟨λl=>by have⟨_,v,e,h⟩:=l;cases e;erw[⟨v,h⟩],λl=>by have⟨v,h⟩:=l;erw[⟨i,v,rfl,h⟩]⟩
def _qW:wIx (.frl xs) (.int i) M Q=∃v,atI xs i=wc v/\Q v M:=propext ⟨λl=>by have⟨_,v,e,h⟩:=l;cases e;erw[⟨v,h⟩],λl=>by have⟨v,h⟩:=l;erw[⟨i,v,rfl,h⟩]⟩
def _qV:wIx (.str z) (.int i) M Q=(z.length<=sizeLine/\∃c,atI z.cps.toList i=wc c/\Q (.str ⟨#[c]⟩) M):=propext ⟨λl=>by have⟨_,c,e,u,w⟩:=l;cases e;erw[⟨u,c,w⟩],λl=>by have⟨u,c,w⟩:=l;erw[⟨i,c,rfl,u,w⟩]⟩
def slO(o:Option MO)(lo l:Option Int)(M:MH)(Q:QM):Prop:=match o with
 |wc (.lst xs)=>∀p,M p=we->Q (.ref p) (updM M p (.lst (cutM xs lo l)))
 |_=>False
def _qD{lo:Option Int}:wSl (.ref a) lo hi M Q=slO (M a) lo hi M Q:=propext ⟨λu=>by have⟨l,e,h⟩:=u;rw[e];erw[h],λh=>by
  cases e:M a with
  |none=>rw[e]at h;erw[h.elim]
  |some o=>
   rw[e]at h;cases o with
   |lst l=>erw[⟨l,e,h⟩]
   |dic w=>erw[h.elim]
   |ins _ _=>erw[h.elim]
   |fdic _ _=>erw[h.elim]⟩
def _os{lo:Option Int}:slO (wc (.lst xs)) lo hi M Q=∀p,M p=we->Q (.ref p) (updM M p (.lst (cutM xs lo hi))):=rfl
def _qE{lo:Option Int}:wSl (.frl xs) lo hi M Q=∀p,M p=we->Q (.ref p) (updM M p (.lst (cutM xs lo hi))):=rfl
def _qC{lo:Option Int}:wSl (.tup xs) lo hi M Q=Q (.tup (cutM xs lo hi)) M:=rfl
def _oC:wBi .len [.tup xs] M Q=Q (.int xs.length) M:=rfl
def _oF:wBi .len [.frl xs] M Q=Q (.int xs.length) M:=rfl
def _oD:wBi .len [.str z] M Q=(z.length<=sizeLine/\Q (.int z.length) M):=rfl
def lenO(o:Option MO)(M:MH)(Q:QM):Prop:=match o with
 |wc (.lst xs)=>Q (.int xs.length) M
 |wc (.dic kvs)=>Q (.int kvs.length) M
 |_=>False
def _oE:wBi .len [.ref a] M Q=lenO (M a) M Q:=propext ⟨λh=>by
  rcases h with⟨u,e,h⟩|⟨l,e,h⟩<;>(rw[e];erw[h]),λh=>by
  cases e:M a with
  |none=>rw[e]at h;erw[h.elim]
  |some o=>
   rw[e]at h;cases o with
   |lst u=>erw[.inl ⟨u,e,h⟩]
   |dic l=>erw[.inr ⟨l,e,h⟩]
   |ins _ _=>erw[h.elim]
   |fdic _ _=>erw[h.elim]⟩
def _m4:lenO (wc (.lst xs)) M Q=Q (.int xs.length) M:=rfl
def isO(o:Option Ty7)(c:Ty7)(M:MH)(Q:QM):Prop:=match o with
 |wc T=>c≠.none/\Q (.bl (isTy T c)) M
 |we=>False
def _qX:wBi .isinst [x,.ty c] M Q=isO (tyM M x) c M Q:=propext (by
 have e:wBi .isinst [x,.ty c] M Q=∃T,tyM M x=wc T/\c≠.none/\Q (.bl (isTy T c)) M:=by cases x<;>rfl
 rw[e];erw[⟨λl=>by have⟨T,e,h⟩:=l;rw[e];erw[h],λh=>by
  cases e:tyM M x with
  |none=>rw[e]at h;erw[h.elim]
  |some T=>rw[e]at h;erw[⟨T,rfl,h⟩]⟩])
def isO2(o:Option Ty7)(c d:Ty7)(M:MH)(Q:QM):Prop:=match o with
 |wc T=>c≠.none/\d≠.none/\Q (.bl (isTy T c||isTy T d)) M
 |we=>False
def _oJ:wBi .isinst [x,.tup [.ty c,.ty d]] M Q=isO2 (tyM M x) c d M Q:=propext (by
 have e:wBi .isinst [x,.tup [.ty c,.ty d]] M Q=∃T,tyM M x=wc T/\c≠.none/\d≠.none/\Q (.bl (isTy T c||isTy T d)) M:=by cases x<;>rfl
 rw[e];erw[⟨λl=>by have⟨T,e,h⟩:=l;rw[e];erw[h],λh=>by
  cases e:tyM M x with
  |none=>rw[e]at h;erw[h.elim]
  |some T=>rw[e]at h;erw[⟨T,rfl,h⟩]⟩])
def _m7:isO2 (wc T) c d M Q=(c≠.none/\d≠.none/\Q (.bl (isTy T c||isTy T d)) M):=rfl
def _oI:isO (wc T) c M Q=(c≠.none/\Q (.bl (isTy T c)) M):=rfl
def _qq:tyM M (.int i)=wc .int:=rfl
def _qo{k:Str}:tyM M (.str k)=wc .str:=rfl
def _qn:tyM M (.tup xs)=wc .tuple:=rfl
def _qp:tyM M (.ref a)=tyO (M a):=rfl
def _oo:tyO (wc (.lst xs))=wc .list:=rfl
def _r4:wBi .all [.ref a] M Q=∃bs:List Bool,M a=wc (.lst (bs.map MV.bl))/\Q (.bl (bs.all id)) M:=rfl
def _ma:wBi .dictL [.ref a] M Q=∃l:List (Key×MV),M a=wc (.lst (l.map prM))/\∀p,M p=we->Q (.ref p) (updM M p (.dic (Ul l))):=rfl
def _m2:wBi .list [.tup xs] M Q=∀p,M p=we->Q (.ref p) (updM M p (.lst xs)):=rfl
def _m3:wBi .list [.ref a] M Q=∃l,M a=wc (.lst l)/\∀p,M p=we->Q (.ref p) (updM M p (.lst l)):=rfl
def _op:wBi .tuple [.ref a] M Q=∃l,M a=wc (.lst l)/\Q (.tup l) M:=rfl
def _m9:wBi .dict [.tup xs] M Q=∃l:List (Key×MV),xs=l.map prM/\∀p,M p=we->Q (.ref p) (updM M p (.dic (Ul l))):=rfl
def _oM:wBi .dict [.ref a] M Q=∃l,M a=wc (.dic l)/\∀p,M p=we->Q (.ref p) (updM M p (.dic l)):=rfl
def apO(o:Option MO)(a:Addr)(y:MV)(M:MH)(Q:QM):Prop:=match o with
 |wc (.lst xs)=>xs.length<sizeLine/\Q .non (updM M a (.lst (xs++[y])))
 |_=>False
def _r2:wMts .append (.ref a) [y] M Q=apO (M a) a y M Q:=propext ⟨λu=>by have⟨l,e,h⟩:=u;rw[e];erw[h],λh=>by
  cases e:M a with
  |none=>rw[e]at h;erw[h.elim]
  |some o=>
   rw[e]at h;cases o with
   |lst l=>erw[⟨l,e,h⟩]
   |dic w=>erw[h.elim]
   |ins _ _=>erw[h.elim]
   |fdic _ _=>erw[h.elim]⟩
def _oN:apO (wc (.lst xs)) a y M Q=(xs.length<sizeLine/\Q .non (updM M a (.lst (xs++[y])))):=rfl
def _qY:wMts .extend (.ref a) [.ref b] M Q=∃l,M a=wc (.lst l)/\∃u,M b=wc (.lst u)/\l.length+u.length<=sizeLine/\Q .non (updM M a (.lst (l++u))):=rfl
def _ow:mtOk .append x M=(∃a l,x=.ref a/\M a=wc (.lst l)):=rfl
def _ov:mtOk .extend x M=(∃a l,x=.ref a/\M a=wc (.lst l)):=rfl
def _ou:mtOk .popAt x M=(∃a l,x=.ref a/\M a=wc (.lst l)):=rfl
def puO(o:Option MO)(a:Addr)(i v:MV)(M:MH)(Q:MH->Prop):Prop:=match o with
 |wc (.lst xs)=>∃k j,i=.int k/\ixN xs.length k=wc j/\Q (updM M a (.lst (xs.set j v)))
 |wc (.dic kvs)=>∃l,keyM i=wc l/\kvs.length<sizeLine/\Q (updM M a (.dic (putM kvs l v)))
 |_=>False
def _qI:wPut (.ref a) x v M R=puO (M a) a x v M R:=propext ⟨λh=>by
  rcases h with⟨w,k,j,e,r⟩|⟨l,u,e,r⟩
  .rw[e];erw[⟨k,j,r⟩]
  .rw[e];erw[⟨u,r⟩],λh=>by
  cases e:M a with
  |none=>rw[e]at h;erw[h.elim]
  |some o=>
   rw[e]at h;cases o with
   |lst w=>have⟨k,j,r⟩:=h;erw[.inl ⟨w,k,j,e,r⟩]
   |dic l=>have⟨u,r⟩:=h;erw[.inr ⟨l,u,e,r⟩]
   |ins _ _=>erw[h.elim]
   |fdic _ _=>erw[h.elim]⟩
def _ot:puO (wc (.lst xs)) a (.int i) v M R=∃j,ixN xs.length i=wc j/\R (updM M a (.lst (xs.set j v))):=propext ⟨λl=>by have⟨_,j,e,h⟩:=l;cases e;erw[⟨j,h⟩],λl=>by have⟨j,h⟩:=l;erw[⟨i,j,rfl,h⟩]⟩
def _m1:puO (wc (.dic kvs)) a (.str z) v M R=(kvs.length<sizeLine/\R (updM M a (.dic (putM kvs (Xn z) v)))):=propext ⟨λl=>by have⟨_,e,h⟩:=l;cases e;erw[h],λh=>⟨_,rfl,h⟩⟩
def srO(o:Option MO)(a:Addr)(M:MH)(Q:Src->MH->Prop):Prop:=match o with
 |wc (.lst xs)=>Q (.lst a xs) M
 |wc (.dic kvs)=>∀o,Q (.dic a o kvs) (updM M a (.fdic o kvs))
 |_=>False
def srV(v:MV)(M:MH)(Q:Src->MH->Prop):Prop:=(∃u,(v=.tup u\/v=.frl u)/\Q (.tup u) M)\/(∃a u,v=.ref a/\M a=wc (.lst u)/\Q (.lst a u) M)\/(∃a l,v=.ref a/\M a=wc (.dic l)/\∀o,Q (.dic a o l) (updM M a (.fdic o l)))\/∃z,v=.str z/\Q (.str z) M
def _qF:wSr Φ (.seq e) σ M R=wE Φ e σ M λv M1=>srV v M1 R:=rfl
def _qB:srV (.ref a) M R=srO (M a) a M R:=propext ⟨λh=>by
  rcases h with⟨l,e,h⟩|⟨b,l,e,f,h⟩|⟨b,l,e,f,h⟩|⟨z,e,_⟩
  .rcases e with e|e<;>cases e
  .cases e;rw[f];erw[h]
  .cases e;rw[f];erw[h]
  .erw[(nomatch e)],λh=>by
  cases e:M a with
  |none=>rw[e]at h;erw[h.elim]
  |some o=>
   rw[e]at h;cases o with
   |lst l=>erw[.inr (.inl ⟨a,l,rfl,e,h⟩)]
   |dic u=>erw[.inr (.inr (.inl ⟨a,u,rfl,e,h⟩))]
   |ins _ _=>erw[h.elim]
   |fdic _ _=>erw[h.elim]⟩
def _or{l:List (Key×MV)}{R:Src->MH->Prop}:srO (wc (.dic l)) a M R=∀o,R (.dic a o l) (updM M a (.fdic o l)):=rfl
def _qA:srV (.str z) M R=R (.str z) M:=propext ⟨λh=>by
  rcases h with⟨l,e,h⟩|⟨_,_,e,_⟩|⟨_,_,e,_⟩|⟨_,e,h⟩
  .rcases e with e|e<;>erw[(nomatch e)]
  .erw[(nomatch e)]
  .erw[(nomatch e)]
  .cases e;erw[h],λh=>.inr (.inr (.inr ⟨z,rfl,h⟩))⟩
def _qt:Src.thaw M (.tup xs)=M:=rfl
def _qs:Src.thaw M (.lst a xs)=M:=rfl
def _qr:Src.thaw M (.rng i n)=M:=rfl
def _qM:Src.okT M (.tup xs)=True:=rfl
def _qL:Src.okT M (.lst a xs)=True:=rfl
def _qK:Src.okT M (.rng i n)=True:=rfl
def _oq:srO (wc (.lst xs)) a M R=R (.lst a xs) M:=rfl
def _qz:srV (.tup zs) M R=R (.tup zs) M:=propext ⟨λh=>by
  rcases h with⟨l,e,h⟩|h
  .rcases e with e|e
   .cases e;erw[h]
   .erw[nomatch e]
  .rcases h with⟨_,_,e,_⟩|⟨_,_,e,_⟩|⟨_,e,_⟩<;>erw[(nomatch e)],λh=>.inl ⟨zs,.inl rfl,h⟩⟩
def rgV(v:MV)(M:MH)(Q:Src->MH->Prop):Prop:=∃j,v=.int j/\ -(2^62)<=j/\j<2^62/\Q (.rng 0 j.toNat) M
def _qG:wSr Φ (.rng e) σ M R=wE Φ e σ M λv M1=>rgV v M1 R:=rfl
def _qH:rgV (.int i) M R=(-(2^62)<=i/\i<2^62/\R (.rng 0 i.toNat) M):=propext ⟨λl=>by have⟨_,e,h⟩:=l;cases e;erw[h],λh=>⟨i,rfl,h⟩⟩
def _oB:wBi .max [.int i,.int j] M Q=Q (.int (if j>i then j else i)) M:=rfl
def _oA:wBi .min [.int i,.int j] M Q=Q (.int (if j<i then j else i)) M:=rfl
def _oK{k:Bool}:wBi .int [.bl k] M Q=Q (.int (if k then 1 else 0)) M:=rfl
end
def v_s{k:MV->Prop}:onV (wc (wc v)) k=k v:=rfl
def b_0{k:Bool->Prop}:onB (.bl b) k=k b:=rfl
def f_s{k:SpM->Prop}:onF (wc (f,sp)) k=k sp:=rfl
def _rn:wE Φ (.var i) σ M Q=onV σ[i]? (λv=>Q v M):=rfl
def _ru:wE Φ (.int i) σ M Q=(Q (.int i) M):=rfl
def _rp:wE Φ (.str x) σ M Q=(Q (.str x) M):=rfl
def e_bl:wE Φ (.bl b) σ M Q=(Q (.bl b) M):=rfl
def _rr:wE Φ (.non) σ M Q=(Q .non M):=rfl
def _rw:wE Φ (.glb x i) σ M Q=(Q (.int i) M):=rfl
def e_ty:wE Φ (.ty c) σ M Q=(Q (.ty c) M):=rfl
def _rB:wE Φ (.bin op a b) σ M Q=(wE Φ a σ M λx M1=>wE Φ b σ M1 λy M2=>wBin op x y M2 Q):=rfl
def _rs:wE Φ (.neg a) σ M Q=(wE Φ a σ M λx M1=>∃i,x=.int i/\Q (.int (-i)) M1):=rfl
def _rq:wE Φ (.not a) σ M Q=(wE Φ a σ M λx M1=>onB x λb=>Q (.bl (!b)) M1):=rfl
def _rz:wE Φ (.cmp op a b) σ M Q=(wE Φ a σ M λx M1=>wE Φ b σ M1 λy M2=>wCmp op x y M2 Q):=rfl
def _rA:wE Φ (.chn op op' a b c) σ M Q=(wE Φ a σ M λx M1=>wE Φ b σ M1 λy M2=>wCmp op x y M2 λz j=>onB z λk=>(if k=wf then wE Φ c σ j λw l=>wCmp op' y w l Q else Q (.bl wg) j)):=rfl
def _rC:wE Φ (.and a b) σ M Q=(wE Φ a σ M λx M1=>onB x λc=>(if c=wf then wE Φ b σ M1 Q else Q (.bl wg) M1)):=rfl
def e_or:wE Φ (.or a b) σ M Q=(wE Φ a σ M λx M1=>onB x λc=>(if c=wf then Q (.bl wf) M1 else wE Φ b σ M1 Q)):=rfl
def _rv:wE Φ (.ife c a b) σ M Q=(wE Φ c σ M λx M1=>onB x λk=>(if k=wf then wE Φ a σ M1 Q else wE Φ b σ M1 Q)):=rfl
def _ro:wE Φ (.tup es) σ M Q=(wEs Φ es σ M λj M1=>j.length<=sizeLine/\Q (.tup j) M1):=rfl
def _rt:wE Φ (.lst es) σ M Q=(wEs Φ es σ M λj M1=>j.length<=sizeLine/\∀p,M1 p=we->Q (.ref p) (updM M1 p (.lst j))):=rfl
def _ry{j:List (Str×SpM)}{l:Sm}{M:MH}{Q:QM}:wE j (.dic) l M Q=(∀p,M p=we->Q (.ref p) (updM M p (.dic []))):=rfl
def e_ix:wE Φ (.ix a b) σ M Q=(wE Φ a σ M λx M1=>wE Φ b σ M1 λy M2=>wIx x y M2 Q):=rfl
def e_sl{lo:IO}:wE Φ (.sl a lo hi) σ M Q=(wE Φ a σ M λx M1=>wO Φ lo σ M1 λl M2=>wO Φ hi σ M2 λh j=>wSl x l h j Q):=rfl
def _pS:wE Φ (.call j e es) σ M Q=(wE Φ e σ M λv M1=>wEs Φ es σ M1 λl M2=>onF Φ[j]? λu=>u (v::l) M2 Q):=rfl
def e_b2:wE Φ (.b2 f e) σ M Q=(wE Φ e σ M λv M1=>wB2 f v M1 Q):=rfl
def e_bi:wE Φ (.bi f e es) σ M Q=(wE Φ e σ M λv M1=>wEs Φ es σ M1 λj M2=>wBi f (v::j) M2 Q):=rfl
def e_mt:wE Φ (.mt m o es) σ M Q=(wE Φ o σ M λx M1=>mtOk m x M1/\wEs Φ es σ M1 λj M2=>wMts m x j M2 Q):=rfl
def _rx:wE Φ (.fld c o f) σ M Q=(wE Φ o σ M λx M1=>∃a fs v,x=.ref a/\M1 a=wc (.ins c fs)/\valM fs f=wc v/\Q v M1):=rfl
def _ns:wE Φ (.mcall j c m o es) σ M Q=(wE Φ o σ M λx M1=>∃a fs,x=.ref a/\M1 a=wc (.ins c fs)/\valM fs m=we/\wEs Φ es σ M1 λu M2=>∃f l,Φ[j]?=wc (f,l)/\l (.ref a::u) M2 Q):=rfl
def _pR:wE Φ (.make j c e es) σ M Q=(wE Φ e σ M λv M1=>wEs Φ es σ M1 λw M2=>∃f l,Φ[j]?=wc (f,l)/\∀p,M2 p=we->l (.ref p::v::w) (updM M2 p (.ins c [])) λu y=>u=.non/\Q (.ref p) y):=rfl
def Af{own:List Str}{fr:List Nat}:wE Φ (.comp own fr src tg test elt) σ M Q=(wSr Φ src σ M λS M1=>S.len<sizeLine/\∀D,M1 D=we->∃J:Nat->List MV->MH->Prop,J 0 [] (updM M1 D (.lst []))/\
   (∀i j M2,J i j M2->M2 D=wc (.lst j)/\j.length<=i/\S.ok M2)/\
   (∀i x j M2,S.items[i]?=wc x->J i j M2->wTg tg x (sCm own fr σ) λl=>wI Φ test l M2 λb u=>
    if b=wf then wE Φ elt l u λy w=>w D=wc (.lst j)/\J (i+1) (j++[y]) (updM w D (.lst (j++[y])))else J (i+1) j u)/\
   ∀j M2,J S.len j M2->Q (.ref D) (S.thaw M2)):=rfl
def Ag{M j:MH}{S:Src}(h:S.okF M):S.thaw j=j:=by
 cases S<;>first|rfl|erw[h.elim]
def Ur{own:List Str}{fr:List Nat}{O:Type}(l:List O)(f g:O->MV)
  (U:wSr Φ src σ M λS M1=>S.items=l.map f/\l.length<sizeLine/\S.okF M1/\M1=M)
  (W:∀x∈l,∀p,(∀a o,M a=wc o->p a=wc o)->wTg tg (f x) (sCm own fr σ) λw=>wE Φ elt w p λy M2=>y=g x/\M2=p)
  (m:∀(j:Nat)f P,Φ[j]?=wc (f,P)->MonW P)(q:∀D,M D=we->Q (.ref D) (updM M D (.lst (l.map g)))):wE Φ (.comp own fr src tg .none elt) σ M Q:=by
 rw[Af];erw[mon_sr m src (λS M1 L=>?_) U];have⟨R,Y,u,Z⟩:=L;subst Z;have T:S.len=l.length:=by rw[<-S.items_len,R,X5]
 erw[⟨by rw[T];erw[Y],λD d=>⟨λi c M2=>M2=updM M1 D (.lst c)/\c=(l.take i).map g,⟨rfl,by simp⟩,?_,?_,?_⟩⟩]
 .rintro i c M2 ⟨rfl,rfl⟩;erw[⟨X9,by rw[X5,Yl];lia,?_⟩]
  cases S with
  |tup _=>trivial
  |rng _ _=>trivial
  |dic _ _ _=>erw[u.elim]
  |str _=>trivial
  |lst a A=>
   have:a≠D:=by intro e;subst e;have u:M1 a=wc (.lst A):=u;rw[u]at d;cases d
   show updM M1 D _ a=_;rw[X7 this];erw[u]
 .rintro i x c M2 r ⟨rfl,rfl⟩;rw[R]at r;have N:i<l.length:=by have:=(Xo.mp r).1;rw[X5]at this;erw[this]
  rw[Xe,X6 N]at r;cases r;erw[W8 tg (λw h=>?_) (W l[i] (XS N) (updM M1 D (.lst ((l.take i).map g))) (λa o e=>by
   rw[X7 (by intro z;subst z;rw[e]at d;cases d)];erw[e]))]
  rw[wI,if_pos rfl];erw[Xc m elt (λy M2 L=>?_) h];have⟨B,C⟩:=L;subst B C;erw[⟨X9,YI,?_⟩];rw[Z7,X6 N,XI]
  rfl
 .rintro c M2 ⟨rfl,rfl⟩;rw[T,V7 (Xa _),Ag u];erw[q D d]
def _iX{own:List Str}{fr:List Nat}{U:Type}(l:List U)(f g:U->MV)
  (C:wSr Φ src σ M λS M1=>S.items=l.map f/\l.length<sizeLine/\S.okF M1/\∀a o,M a=wc o->M1 a=wc o)
  (E:∀x∈l,∀u,(∀a o,M a=wc o->u a=wc o)->wTg tg (f x) (sCm own fr σ) λr=>wE Φ elt r u λy M2=>y=g x/\∀a o,u a=wc o->M2 a=wc o)
  (p:∀(j:Nat)f W,Φ[j]?=wc (f,W)->MonW W)(q:∀D u,M D=we->(∀a o,M a=wc o->u a=wc o)->u D=wc (.lst (l.map g))->Q (.ref D) u):wE Φ (.comp own fr src tg .none elt) σ M Q:=by
 rw[Af];erw[mon_sr p src (λS M1 w=>?_) C];have⟨Y,F,O,P⟩:=w;have Z:S.len=l.length:=by rw[<-S.items_len,Y,X5]
 have R:∀D,M1 D=we->M D=we:=λD m=>by
  cases e:M D with
  |none=>rfl
  |some o=>rw[P _ _ e]at m;cases m
 have A:∀{a D:Addr} {o:MO},M1 a=wc o->M1 D=we->a≠D:=λh w z=>by subst z;rw[h]at w;cases w
 erw[⟨by rw[Z];erw[F],λD m=>⟨λi L M2=>(∀a o,M1 a=wc o->M2 a=wc o)/\M2 D=wc (.lst L)/\L=(l.take i).map g,⟨λa o e=>by rw[X7 (A e m)];erw[e],X9,by simp⟩,?_,?_,?_⟩⟩]
 .rintro i L M2 ⟨d,c,rfl⟩;erw[⟨c,by rw[X5,Yl];lia,?_⟩]
  cases S with
  |tup _=>trivial
  |rng _ _=>trivial
  |dic _ _ _=>erw[O.elim]
  |str _=>trivial
  |lst a I=>erw[d _ _ O]
 .rintro i x L M2 N ⟨d,c,rfl⟩;rw[Y]at N;have T:i<l.length:=by have:=(Xo.mp N).1;rw[X5]at this;erw[this]
  rw[Xe,X6 T]at N;cases N;erw[W8 tg (λr h=>?_) (E l[i] (XS T) M2 (λa o e=>d _ _ (P _ _ e)))];rw[wI,if_pos rfl];erw[Xc p elt (λy J w=>?_) h];have⟨G,B⟩:=w;subst G;erw[⟨B _ _ c,λa o e=>by rw[X7 (A e m)];erw[B _ _ (d _ _ e)],X9,?_⟩]
  rw[Z7,X6 T,XI]
  rfl
 .rintro L M2 ⟨d,c,rfl⟩;rw[Z,V7 (Xa _)]at c;rw[Ag O];erw[q D M2 (R D m) (λa o e=>d _ _ (P _ _ e)) c]
def _qx:wTg (.nm i) v σ R=R (σ.set i (wc v)):=rfl
def _qu:wTg (.tup ts) (.tup xs) σ R=wTgs ts xs σ R:=by
 erw[propext ⟨λj=>by have⟨_,e,h⟩:=j;cases e;erw[h],λh=>⟨_,rfl,h⟩⟩]
def _qw{t:ITg}:wTgs (.cons t ts) (v::r) σ R=wTg t v σ λj=>wTgs ts r j R:=by
 erw[propext ⟨λl=>by have⟨_,_,e,h⟩:=l;cases e;erw[h],λh=>⟨_,_,rfl,h⟩⟩]
def _qv:wTgs .nil [] σ R=R σ:=propext ⟨λh=>h.2,λh=>⟨rfl,h⟩⟩
theorem Jo{w:Type} [DecidableEq w] {k:w}{v:MV}:∀{l:List (w×MV)},(l.map (·.1)).Nodup->(k,v)∈l->valM l k=wc v
 |(j,u)::r,nd,h=>by
  rw[Xz,Yf]at nd;unfold valM;rcases Xk.mp h with e|h
  .cases e;rw[if_pos rfl]
  .rw[if_neg (λe=>nd.1 (by subst e;erw[XA.mpr ⟨(j,v),h,rfl⟩])),Jo nd.2 h]
section
variable{M:MH}
def Alike.dicFlat{a b:Addr}{j:List (Key×MV)}(n:Nat)(l:M a=wc (.dic j))(w:M b=wc (.dic j))(y:(j.map (·.1)).Nodup)(f:∀p∈j,Yb p.2=wf):Alike M (n+1) (.ref a) (.ref b):=
 .dic l w rfl λk u m=>⟨u,Jo y m,.flat n (f _ m)⟩
def Alike.lstFlat(n:Nat)(l:LstM M x xs)(w:LstM M y xs)(f:∀v∈xs,Yb v=wf):Alike M (n+1) x y:=
 .lst l w rfl λi u v e j=>by
  rw[e]at j;cases j;erw[.flat n (f u (Xb e))]
def Alike.tupFlat{j:List MV}(n:Nat)(f:j.all Yb=wf):Alike M (n+1) (.tup j) (.tup j):=
 .tup rfl λi u v e l=>by
  rw[e]at l;cases l;erw[.flat n (VD.mp f u (Xb e))]
def _gv{j:List MV}{k:Bool->Prop}(f:j.all Yb=wf)(q:k wf):wEq (.tup j) (.tup j) M k:=Ae rfl (.tupFlat 0 f) (by decide) q
end
section
variable{Φ:List (Str×SpM)}{D:EndM}{σ:Sm}{M:MH}
def _qe:wSs Φ .nil D σ M=D.nx σ M:=rfl
def US:wSs Φ (.cons s r) D σ M=wS Φ s {nx:=λσ M=>wSs Φ r D σ M,rt:=D.rt} σ M:=rfl
def _qc:wS Φ (.ret e) D σ M=wE Φ e σ M D.rt:=rfl
def Vq:wS Φ (.set i e) D σ M=wE Φ e σ M λv M1=>D.nx (σ.set i (wc v)) M1:=rfl
def _qi{t:ITgs}:wS Φ (.asg t e) D σ M=wE Φ e σ M λv M1=>∃l,v=.tup l/\wTgs t l σ λj=>D.nx j M1:=rfl
def _qd:wS Φ (.put o i e) D σ M=wE Φ e σ M λv M1=>wE Φ o σ M1 λx M2=>wE Φ i σ M2 λy j=>wPut x y v j λl=>D.nx σ l:=rfl
def Jp:wS Φ (.fset c o f e) D σ M=wE Φ e σ M λv M1=>wE Φ o σ M1 λx M2=>∃a fs,x=.ref a/\M2 a=wc (.ins c fs)/\fs.length<1000/\D.nx σ (updM M2 a (.ins c (putM fs f v))):=rfl
def _oc:wS Φ (.expr e) D σ M=wE Φ e σ M λ_ M1=>D.nx σ M1:=rfl
def _qf:wS Φ (.ite c a b) D σ M=wE Φ c σ M λx M1=>onB x λk=>(if k=wf then wSs Φ a D σ M1 else wSs Φ b D σ M1):=rfl
def _qg{t:ITg}:wS Φ (.for_ t s b) D σ M=wSr Φ s σ M λS M1=>∃J:Nat->Sm->MH->Prop,J 0 σ M1/\(∀i σ M,J i σ M->S.ok M)/\
   (∀i x σ M,S.items[i]?=wc x->J i σ M->wTg t x σ λj=>wSs Φ b {nx:=J (i+1),rt:=λv M=>S.okT M/\D.rt v (S.thaw M)} j M)/\∀σ M,J S.len σ M->D.nx σ (S.thaw M):=rfl
def _lS:wS Φ (.while_ c b) D σ M=∃J:Nat->Sm->MH->Prop,(∃m,J m σ M)/\∀m σ M,J m σ M->wE Φ c σ M λx M1=>∃k,x=.bl k/\
   (if k=wf then wSs Φ b {nx:=λj u=>∃l,l<m/\J l j u,rt:=D.rt} σ M1 else D.nx σ M1):=rfl
def _pk:wO Φ .none σ M Q=Q we M:=rfl
def _pj:wO Φ (.some e) σ M Q=wE Φ e σ M λv M1=>∃i,v=.int i/\Q (wc i) M1:=rfl
def _pQ:wEs Φ .nil σ M Q=Q [] M:=rfl
def _nr:wEs Φ (.cons e es) σ M Q=wE Φ e σ M λv M1=>wEs Φ es σ M1 λj M2=>Q (v::j) M2:=rfl
end
section
variable{Φ:List (Str×SpM)}{σ σ':Sm}{M M':MH}{Q:QM}{x x' y y' z z':MV}{o o':Option MO}{vs vs':List MV}
end
end L2
namespace My
open PySem L2
def ex3{j l u:Sort _}{p:j->l->u->Prop}(w:j)(y:l)(z:u)(h:p w y z):∃w y z,p w y z:=⟨w,y,z,h⟩
def ex4{j l u w:Sort _}{p:j->l->u->w->Prop}(y:j)(z:l)(m:u)(g:w)(h:p y z m g):∃y z m g,p y z m g:=⟨y,z,m,g,h⟩
def ex5{j l u w y:Sort _}{p:j->l->u->w->y->Prop}(z:j)(m:l)(g:u)(d:w)(c:y)(h:p z m g d c):∃z m g d c,p z m g d c:=⟨z,m,g,d,c,h⟩
def ex6{j l u w y z:Sort _}{p:j->l->u->w->y->z->Prop}(m:j)(g:l)(d:u)(c:w)(f:y)(q:z)(h:p m g d c f q):∃m g d c f q,p m g d c f q:=⟨m,g,d,c,f,q,h⟩
def ex7{j l u w y z m:Sort _}{p:j->l->u->w->y->z->m->Prop}(g:j)(d:l)(c:u)(f:w)(q:y)(r:z)(e:m)(h:p g d c f q r e):∃g d c f q r e,p g d c f q r e:=⟨g,d,c,f,q,r,e,h⟩
def ex8{j l u w y z m g:Sort _}{p:j->l->u->w->y->z->m->g->Prop}(d:j)(c:l)(f:u)(q:w)(r:y)(e:z)(L:m)(N:g)(h:p d c f q r e L N):∃d c f q r e L N,p d c f q r e L N:=⟨d,c,f,q,r,e,L,N,h⟩
def ex9{j l u w y z m g d:Sort _}{p:j->l->u->w->y->z->m->g->d->Prop}(c:j)(f:l)(q:u)(r:w)(e:y)(L:z)(N:m)(O:g)(P:d)(h:p c f q r e L N O P):∃c f q r e L N O P,p c f q r e L N O P:=⟨c,f,q,r,e,L,N,O,P,h⟩
def ex10{j l u w y z m g d c:Sort _}{p:j->l->u->w->y->z->m->g->d->c->Prop}(f:j)(q:l)(r:u)(e:w)(L:y)(N:z)(O:m)(P:g)(R:d)(T:c)(h:p f q r e L N O P R T):∃f q r e L N O P R T,p f q r e L N O P R T:=⟨f,q,r,e,L,N,O,P,R,T,h⟩
def ex11{u w y z m g d c f q l:Sort _}{p:u->w->y->z->m->g->d->c->f->q->l->Prop}(r:u)(e:w)(L:y)(N:z)(O:m)(P:g)(R:d)(T:c)(U:f)(W:q)(j:l)(h:p r e L N O P R T U W j):∃r e L N O P R T U W j,p r e L N O P R T U W j:=⟨r,e,L,N,O,P,R,T,U,W,j,h⟩
def ee3{w y z:Sort _}{p:w->y->z->Prop}{G:Prop}(h:∃j l u,p j l u)(k:∀j l u,p j l u->G):G:=by
 have⟨j,l,u,h⟩:=h;erw[k j l u h]
def ee4{y z m g:Sort _}{p:y->z->m->g->Prop}{G:Prop}(h:∃j l u w,p j l u w)(k:∀j l u w,p j l u w->G):G:=by
 have⟨j,l,u,w,h⟩:=h;erw[k j l u w h]
def ee6{m g d c f q:Sort _}{p:m->g->d->c->f->q->Prop}{G:Prop}(h:∃j l u w y z,p j l u w y z)(k:∀j l u w y z,p j l u w y z->G):G:=by
 have⟨j,l,u,w,y,z,h⟩:=h;erw[k j l u w y z h]
def ee10{f q r e L N O P R T:Sort _}{p:f->q->r->e->L->N->O->P->R->T->Prop}{G:Prop}(h:∃j l u w y z m g d c,p j l u w y z m g d c)(k:∀j l u w y z m g d c,p j l u w y z m g d c->G):G:=by
 have⟨j,l,u,w,y,z,m,g,d,c,h⟩:=h;erw[k j l u w y z m g d c h]
noncomputable def top(i:Nat):Stmt:=PySem.Challenge.pw_bellferry_k73_whole_the_same_standstill.main.body.getD i (.Pass ⟨0,0,0,0⟩)
abbrev ZfY:Stmt:=top 13
abbrev ZfX:Stmt:=top 14
abbrev ZjK:Stmt:=top 15
abbrev Zob:Stmt:=top 16
abbrev Zqh:Stmt:=top 17
abbrev Zod:Stmt:=top 18
abbrev Zhk:Stmt:=top 20
abbrev Ze7:Stmt:=top 21
abbrev ZcY:Stmt:=top 23
abbrev ZlT:Stmt:=top 24
abbrev Zc8:Stmt:=top 25
abbrev Zhg:Stmt:=top 26
abbrev ZlU:Stmt:=top 27
abbrev Zo8:Stmt:=top 28
abbrev Z9r:Stmt:=YH (top 30) 0
abbrev Z7k:Stmt:=YH (top 30) 1
abbrev Z58:Stmt:=YH (top 30) 2
abbrev Zed:Stmt:=YH (top 30) 3
abbrev Z60:Stmt:=YH (top 30) 4
abbrev Z8O:Stmt:=YH (top 31) 0
abbrev Z6o:Stmt:=YH (top 31) 1
abbrev Z6n:Stmt:=YH (top 31) 2
abbrev Zay:Stmt:=top 33
abbrev C9:Stmt:=top 34
abbrev Ca:Stmt:=top 35
abbrev Zhf:Stmt:=top 36
abbrev Zaw:Stmt:=top 37
abbrev Cb:Stmt:=top 38
abbrev Zo7:Stmt:=top 40
abbrev Zaz:Stmt:=top 41
abbrev Zc3:Stmt:=top 42
abbrev ZlW:Stmt:=top 43
abbrev Zhh:Stmt:=top 54
abbrev Zc6:Stmt:=top 55
abbrev Z8L:Stmt:=top 56
abbrev Z57:Stmt:=top 57
abbrev Z6m:Stmt:=top 58
abbrev Zc4:Stmt:=top 59
abbrev Zc5:Stmt:=top 60
abbrev Z9p:Stmt:=top 61
abbrev Z8M:Stmt:=top 62
abbrev Zax:Stmt:=top 63
abbrev Z6l:Stmt:=top 64
abbrev Z5Z:Stmt:=top 65
abbrev Cc:Stmt:=top 66
abbrev Zo9:Stmt:=top 67
abbrev ZcW:Stmt:=top 68
abbrev Ze9:Stmt:=top 69
abbrev ZfZ:Stmt:=top 70
abbrev ZcV:Stmt:=top 73
abbrev ZcX:Stmt:=top 74
abbrev Ze8:Stmt:=top 75
abbrev ZaC:Stmt:=YH (top 76) 0
abbrev Zg0:Stmt:=YH (top 76) 1
abbrev Z8N:Stmt:=YH (top 76) 2
abbrev Zeg:Stmt:=YH (top 76) 3
abbrev Zd2:Stmt:=YH (top 76) 4
abbrev Zee:Stmt:=YH (top 76) 5
abbrev Zeh:Stmt:=YH (top 76) 7
abbrev Zef:Stmt:=YH (top 76) 8
abbrev Zc7:Stmt:=top 78
abbrev Zhj:Stmt:=top 79
abbrev Zhe:Stmt:=top 80
abbrev ZjL:Stmt:=top 81
abbrev Zhi:Stmt:=top 82
abbrev ZfW:Stmt:=top 83
abbrev Ze5:Stmt:=top 84
abbrev ZlV:Stmt:=top 85
abbrev ZaB:Stmt:=top 87
abbrev Zec:Stmt:=top 89
abbrev Zea:Stmt:=top 90
abbrev Zeb:Stmt:=top 91
abbrev Zca:Stmt:=top 92
abbrev Zc9:Stmt:=top 93
abbrev Zd0:Stmt:=top 94
abbrev ZaA:Stmt:=top 95
abbrev Zd1:Stmt:=top 96
abbrev ZcZ:Stmt:=top 97
abbrev Z9q:Stmt:=top 98
abbrev Jq:Stmt:=top 99
noncomputable def GB:List Str:=["all","bool","dict","int","isinstance","len","list","max","min","range","set","sorted","tuple"]
noncomputable def GL:List (Str×Int):=[("MOST_WIDTH",64),("MOST_LETTERS",8),("MOST_ISLANDS",5),("MOST_FERRIES",6),("MOST_VARS",6),("MOST_STEPS",12),("MOST_PARTS",30),("MOST_DEPTH",8),("MOST_K",3),("MOST_STAGES",3),("BITS_A_FERRY",8)]
noncomputable def GC:List (Str×Str):=[("Side","turn"),("Side","total"),("Side","sign"),("Side","sight"),("Ferry","places"),("Ferry","giver"),("Ferry","taker"),("Run","world"),("Run","moment"),("Run","next_numbers"),("Run","words_now"),("Run","steps_so_far"),("Run","boats"),("Run","given_so_far"),("Run","taken_so_far")]
def scB(N:List Str)(n:Nat)(j:Scope):Prop:=j.kind=.function/\j.isCoroutine=wg/\j.isGenerator=wg/\N.Nodup/\(∀x∈N.take n,j.names.lookup x=wc .local\/j.names.lookup x=wc .cell)/\∀y∈j.names,y.2≠.free
instance{N:List Str} {n:Nat} {j:Scope}:Decidable (scB N n j):=by unfold scB;infer_instance
def scB.fs{N:List Str}{n:Nat}{j:Scope}(h:scB N n j):FnScope N (N.take n) j:=⟨h.1,h.2.1,h.2.2.1,h.2.2.2.1,(by rw[Yl,<-List.take_take,Va]),h.2.2.2.2.1,h.2.2.2.2.2⟩
abbrev FE5(P:Xr)(w:Xm)(K:X3)(u:Str->Option X0)(j:Heap)(k:Nat)(x:Str)(m:SpM):Prop:=∃l y z,FnOk P w K u j CX0 k l y z (liSp K m)/\u x=wc (.ref l)/\Zm K (.ref l)=wf/\Binds K y z []
structure FO5 (P:Xr)(w:Xm)(K:X3)(mg:Str->Option X0)(base:Heap)(k:Nat)(x:Str)(sp:SpM):Prop where
 m:MonW sp
 e:FE5 P w K mg base k x sp
structure FL (P:Xr)(w:Xm)(K:X3)(mg:Str->Option X0)(base:Heap)(k:Nat)(Φ:List (Str×SpM)):Prop where
 m:∀p∈Φ,MonW p.2
 e:∀p∈Φ,FE5 P w K mg base k p.1 p.2
abbrev FM5(P:Xr)(w:Xm)(K:X3)(z:Str->Option X0)(j:Heap)(k:Nat)(c m:Str)(g:SpM):Prop:=∃C l u y,FnOk P w K z j CX0 k l u y (liSp K g)/\XD K Xp c=wc (wc (.ref C))/\Cls K C/\Meth K C m l/\Binds K u y []
abbrev FI5(P:Xr)(w:Xm)(K:X3)(l:Str->Option X0)(j:Heap)(k:Nat)(c:Str)(m:SpM):Prop:=∃C u y z,FnOk P w K l j CX0 k u y z (liSp K m)/\XD K Xp c=wc (wc (.ref C))/\l c=wc (.ref C)/\Mk K C u/\Binds K y z []
def Fb(K:X3)(x:Str)(st:Stmt):Prop:=∃f d,Fn1 K x st f d
def MB(K:X3)(C:Addr)(m q:Str)(st:Stmt):Prop:=∃f d,Mt1 K C m q st f d
abbrev SpOk(l:SpM)(u:List (Str×SpM))(w:ISs)(n:Nat)(N:List Str):Prop:=∀j M Q,l j M Q->j.length=(N.take n).length/\wSs u w {nx:=λ_ y=>Q .non y,rt:=Q} (Wc N.length j) M
structure ClB (K:X3)(C:Addr):Prop where
 c:Cls K C
 m:Dk K C=wf
 k:Zm K (.ref C)=wf
abbrev bnd(x q:Str)(st:Stmt)(w:List Str):Prop:=∀(kV j y:X0)(z:Option Addr)(l m:X0)(u:List X0),u.length=w.length->bindArgs (ZB x q (Uj st) (Yu st) (XV st) .none kV j y z l m) ⟨u,[]⟩=pure (w.zip u)
section
variable{k:Nat}{P:Xr}{w:Xm}{K:X3}{mg:Str->Option X0}{base:Heap}{x:Str}{sp:SpM}{st:Stmt}{Φ:List (Str×SpM)}{G:GI}{ir:ISs}
def f0:FL P w K mg base k []:=⟨nl0,λ_ h=>nomatch h⟩
def fc{j:Nat}(o:FO5 P w K mg base j x sp)(r:FL P w K mg base k Φ)(l:j<=k:=by decide):FL P w K mg base k ((x,sp)::Φ):=by
 have⟨a,b,c,d,e⟩:=o.e;erw[⟨fMc o.m r.m,fMc ⟨a,b,c,d.mono l,e⟩ r.e⟩]
def Fb.ok(H:Fb K x st)(g:∀x v,XD K Xp x=wc v->mg x=v)(m:MonW sp)(n:Nat)(N:List Str)(T:Fts P w K mg base k G Φ)(ir:ISs)(h:SpOk sp Φ ir n N)
  (hc:chkSs G (XV st) N ir (Yu st)=wf/\scB N n (XV st):=by decide+kernel)(b:bnd x x st (N.take n):=by first|erw[λ_ _ _ _ _ _=>us1 λ_=>rfl]|erw[λ_ _ _ _ _ _=>us2 λ_ _=>rfl]|erw[λ_ _ _ _ _ _=>us3 λ_ _ _=>rfl]|erw[λ_ _ _ _ _ _=>us4 λ_ _ _ _=>rfl]|erw[λ_ _ _ _ _ _=>us5 λ_ _ _ _ _=>rfl]):FO5 P w K mg base (k+1) x sp:=by
 have⟨f,d,F⟩:=H;erw[⟨m,_,_,_,F.F.okM hc.2.fs T ir hc.1 (λj M Q z=>(h j M Q z).1) (λj M Q z=>(h j M Q z).2),g _ _ F.a,F.F.kp,F.F.binds b⟩]
def Fb.nn(H:Fb K x st)(g:∀x v,XD K Xp x=wc v->mg x=v)(u:List Str)(j:∀y M Q,¬sp y M Q)(b:bnd x x st u:=by first|erw[λ_ _ _ _ _ _=>us1 λ_=>rfl]|erw[λ_ _ _ _ _ _=>us2 λ_ _=>rfl]|erw[λ_ _ _ _ _ _=>us3 λ_ _ _=>rfl]|erw[λ_ _ _ _ _ _=>us4 λ_ _ _ _=>rfl]|erw[λ_ _ _ _ _ _=>us5 λ_ _ _ _ _=>rfl]):FO5 P w K mg base k x sp:=by
 have⟨f,d,F⟩:=H;erw[⟨λ_ h=>absurd h (j _ _ _),f,d,u,⟨λ_ _ _ _ l=>by have⟨_,_,_,_,h⟩:=l;erw[absurd h (j _ _ _)],λ_ _ _ _ _ _ _ _ _ _ _ _ _ l=>by have⟨_,_,_,_,h⟩:=l;erw[absurd h (j _ _ _)]⟩,g _ _ F.a,F.F.kp,F.F.binds b⟩]
def MB.ok{C:Addr}{c m q:Str}(H:MB K C m q st)(u:XD K Xp c=wc (wc (.ref C)))(l:ClB K C)(n:Nat)(N:List Str)(T:Fts P w K mg base k G Φ)(ir:ISs)(h:SpOk sp Φ ir n N)
  (hc:chkSs G (XV st) N ir (Yu st)=wf/\scB N n (XV st):=by decide+kernel)(b:bnd m q st (N.take n):=by first|erw[λ_ _ _ _ _ _=>us1 λ_=>rfl]|erw[λ_ _ _ _ _ _=>us2 λ_ _=>rfl]|erw[λ_ _ _ _ _ _=>us3 λ_ _ _=>rfl]|erw[λ_ _ _ _ _ _=>us4 λ_ _ _ _=>rfl]|erw[λ_ _ _ _ _ _=>us5 λ_ _ _ _ _=>rfl]):FM5 P w K mg base (k+1) c m sp:=by
 have⟨f,d,F⟩:=H;erw[ex4 _ _ _ _ ⟨F.F.okM hc.2.fs T ir hc.1 (λj M Q z=>(h j M Q z).1) (λj M Q z=>(h j M Q z).2),u,l.c,F.M,F.F.binds b⟩]
def MB.oi{C:Addr}{c q:Str}(H:MB K C "__init__" q st)(u:XD K Xp c=wc (wc (.ref C)))(l:ClB K C)(g:∀x v,XD K Xp x=wc v->mg x=v)(n:Nat)(N:List Str)(T:Fts P w K mg base k G Φ)(ir:ISs)(h:SpOk sp Φ ir n N)
  (y:chkSs G (XV st) N ir (Yu st)=wf/\scB N n (XV st):=by decide+kernel)(b:bnd "__init__" q st (N.take n):=by first|erw[fun _ _ _ _ _ _=>us1 fun _=>rfl]|erw[fun _ _ _ _ _ _=>us2 fun _ _=>rfl]|erw[fun _ _ _ _ _ _=>us3 fun _ _ _=>rfl]|erw[fun _ _ _ _ _ _=>us4 fun _ _ _ _=>rfl]):FI5 P w K mg base (k+1) c sp:=by
 have⟨f,d,F⟩:=H;erw[ex4 _ _ _ _ ⟨F.F.okM y.2.fs T ir y.1 (λj M Q z=>(h j M Q z).1) (λj M Q z=>(h j M Q z).2),u,g _ _ u,⟨l.m,F.M.at_,F.M.fn,l.k⟩,F.F.binds b⟩]
def fM{j:Nat}{c m:Str}(o:FM5 P w K mg base j c m sp)(l:j<=k:=by decide):FM5 P w K mg base k c m sp:=by
 have⟨a,b,c,d,e,f⟩:=o;erw[ex4 a b c d ⟨e.mono l,f⟩]
def fI{j:Nat}{c:Str}(o:FI5 P w K mg base j c sp)(l:j+1<=k:=by decide):∃u C y z m,u+1<=k/\FnOk P w K mg base CX0 u y z m (liSp K sp)/\XD K Xp c=wc (wc (.ref C))/\mg c=wc (.ref C)/\Mk K C y/\Binds K z m []:=by
 have⟨a,b,c,d,e⟩:=o;erw[ex5 _ a b c d ⟨l,e⟩]
end
structure En where
 P:Xr
 w:Xm
 K:X3
 mg:Str->Option X0
 base:Heap
 C_Side:Addr
 C_Ferry:Addr
 C_Run:Addr
abbrev FO(E:En)(k:Nat)(x:Str)(j:SpM):Prop:=FO5 E.P E.w E.K E.mg E.base k x j
abbrev FI(E:En)(k:Nat)(x:Str)(j:SpM):Prop:=FI5 E.P E.w E.K E.mg E.base k x j
abbrev FM(E:En)(k:Nat)(c m:Str)(j:SpM):Prop:=FM5 E.P E.w E.K E.mg E.base k c m j
structure TxF (K:X3):Prop where
 aC:Fb K "is_whole" ZfY
 cw:Fb K "is_width" ZfX
 aJ:Fb K "two_to" ZjK
 bL:Fb K "fits" Zob
 bB:Fb K "cut" Zqh
 cc:Fb K "amid" Zod
 aH:Fb K "code_of" Zhk
 aL:Fb K "number_of" Ze7
 aE:Fb K "first_sign" ZcY
 b9:Fb K "shown" ZlT
 ay:Fb K "first_sight" Zc8
 aF:Fb K "sampled" Zhg
 aO:Fb K "moved" ZlU
 bK:Fb K "used" Zo8
 bD:Fb K "parts_within" Zay
 ao:Fb K "size_of" C9
 ak:Fb K "names_read" Ca
 aI:Fb K "vars_in" Zhf
 aX:Fb K "worth_of_two" Zaw
 aw:Fb K "worth" Cb
 aY:Fb K "wish" Zo7
 bV:Fb K "number_after" Zaz
 bp:Fb K "words_after" Zc3
 bh:Fb K "after" ZlW
 c9:Fb K "is_name" Zhh
 bP:Fb K "refuse_name" Zc6
 aq:Fb K "refuse_unknown" Z8L
 bH:Fb K "refuse_ferry_names" Z57
 bZ:Fb K "refuse_variables" Z6m
 aA:Fb K "refuse_term" Zc4
 bW:Fb K "refuse_step" Zc5
 ca:Fb K "refuse_island" Z9p
 bj:Fb K "refuse_islands" Z8M
 aT:Fb K "refuse_ferry" Zax
 bC:Fb K "refuse_wrong_end" Z6l
 bv:Fb K "refuse_wrong_ends" Z5Z
 aj:Fb K "frozen" Cc
 bE:Fb K "made" Zo9
 cr:Fb K "one_called" ZcW
 bb:Fb K "island_of" Ze9
 aN:Fb K "ferry_of" ZfZ
 bO:Fb K "what_alone" ZcV
 bY:Fb K "is_wish_of" ZcX
 aS:Fb K "looked_up" Ze8
 be:Fb K "first_stand" Zc7
 aR:Fb K "copy_of" Zhj
 b8:Fb K "wish_of" Zhe
 ce:Fb K "can_be" ZjL
 aV:Fb K "do_step" Zhi
 c7:Fb K "round_of" ZfW
 ci:Fb K "waits_for" Ze5
 br:Fb K "chain" ZlV
 bG:Fb K "_law_cell_at" ZaB
 b7:Fb K "_law_name" Zec
 aP:Fb K "_law_term" Zea
 bI:Fb K "_law_step" Zeb
 bA:Fb K "_law_island" Zca
 ck:Fb K "_law_things" Zc9
 bo:Fb K "_law_rings" Zd0
 bf:Fb K "_law_stretch" ZaA
 cx:Fb K "_law_alike" Zd1
 bN:Fb K "_law_waits" ZcZ
 aG:Fb K "_law_is_chain" Z9q
 bX:Fb K "law" Jq
 bs:∀x∈GB,XD K Xp x=wc we
structure TxM (K:X3)(a1 a2 a3:Addr):Prop where
 ac:XD K Xp "Side"=wc (wc (.ref a1))
 ag:XD K Xp "Ferry"=wc (wc (.ref a2))
 aa:XD K Xp "Run"=wc (wc (.ref a3))
 ae:ClB K a1
 ai:ClB K a2
 ab:ClB K a3
 bT:Y7 K (.ref a1) "turn"=wc we
 aM:Y7 K (.ref a1) "total"=wc we
 cu:Y7 K (.ref a1) "sign"=wc we
 bw:Y7 K (.ref a1) "sight"=wc we
 b0:Y7 K (.ref a2) "places"=wc we
 aQ:Y7 K (.ref a2) "giver"=wc we
 bM:Y7 K (.ref a2) "taker"=wc we
 cb:Y7 K (.ref a3) "world"=wc we
 aD:Y7 K (.ref a3) "moment"=wc we
 bJ:Y7 K (.ref a3) "next_numbers"=wc we
 aW:Y7 K (.ref a3) "words_now"=wc we
 bc:Y7 K (.ref a3) "steps_so_far"=wc we
 bR:Y7 K (.ref a3) "boats"=wc we
 cv:Y7 K (.ref a3) "given_so_far"=wc we
 aK:Y7 K (.ref a3) "taken_so_far"=wc we
 bU:MB K a1 "__init__" "Side.__init__" Z9r
 bm:MB K a1 "ring_ahead" "Side.ring_ahead" Z7k
 bQ:MB K a1 "less_the_seen" "Side.less_the_seen" Z58
 bF:MB K a1 "grow" "Side.grow" Zed
 aB:MB K a1 "show_and_see" "Side.show_and_see" Z60
 aZ:MB K a2 "__init__" "Ferry.__init__" Z8O
 aU:MB K a2 "ring_giver" "Ferry.ring_giver" Z6o
 cm:MB K a2 "ring_taker" "Ferry.ring_taker" Z6n
 cq:MB K a3 "__init__" "Run.__init__" ZaC
 bu:MB K a3 "ring" "Run.ring" Zg0
 bq:MB K a3 "ring_ferry" "Run.ring_ferry" Z8N
 cf:MB K a3 "go_on" "Run.go_on" Zeg
 cj:MB K a3 "number" "Run.number" Zd2
 c8:MB K a3 "words" "Run.words" Zee
 bS:MB K a3 "given" "Run.given" Zeh
 bz:MB K a3 "taken" "Run.taken" Zef
structure Txt (E:En):Prop extends TxF E.K,TxM E.K E.C_Side E.C_Ferry E.C_Run where
 g:∀x v,XD E.K Xp x=wc v->E.mg x=v
 gl:∀p∈GL,∃tk,XD E.K Xp p.1=wc (wc (.int p.2 tk))
section
variable{k:Nat}{P:Xr}{w:Xm}{base:Heap}{E:En}{Φ Ψ Χ:List (Str×SpM)}
def _rl(T:Txt E):∀q∈GC,∃C,XD E.K Xp q.1=wc (wc (.ref C))/\Cls E.K C/\NoAttr E.K C q.2:=(fMc ⟨_,T.ac,T.ae.c,T.bT⟩ (fMc ⟨_,T.ac,T.ae.c,T.aM⟩ (fMc ⟨_,T.ac,T.ae.c,T.cu⟩ (fMc ⟨_,T.ac,T.ae.c,T.bw⟩ (fMc ⟨_,T.ag,T.ai.c,T.b0⟩ (fMc ⟨_,T.ag,T.ai.c,T.aQ⟩ (fMc ⟨_,T.ag,T.ai.c,T.bM⟩ (fMc ⟨_,T.aa,T.ab.c,T.cb⟩ (fMc ⟨_,T.aa,T.ab.c,T.aD⟩ (fMc ⟨_,T.aa,T.ab.c,T.bJ⟩ (fMc ⟨_,T.aa,T.ab.c,T.aW⟩ (fMc ⟨_,T.aa,T.ab.c,T.bc⟩ (fMc ⟨_,T.aa,T.ab.c,T.bR⟩ (fMc ⟨_,T.aa,T.ab.c,T.cv⟩ (fMc ⟨_,T.aa,T.ab.c,T.aK⟩ nl0)))))))))))))))
def mC(T:Txt E)(Χ Ψ:List (Str×SpM))(M1:List (Nat×Str×Str))(M2:List (Nat×Str))(L:FL P w E.K E.mg base k Φ)(m:∀p∈Ψ,MonW p.2)(N:∀q∈M1,∃f j,Χ[q.1]?=wc (f,j)/\FM5 P w E.K E.mg base k q.2.1 q.2.2 j)(O:∀q∈M2,∃f j,Χ[q.1]?=wc (f,j)/\∃l C u y z,l+1<=k/\FnOk P w E.K E.mg base CX0 l u y z (liSp E.K j)/\XD E.K Xp q.2=wc (wc (.ref C))/\E.mg q.2=wc (.ref C)/\Mk E.K C u/\Binds E.K y z [])(e:Φ++Ψ=Χ:=by rfl):Fts P w E.K E.mg base k ⟨GB,GL,Φ.map (·.1),M1,M2,GC⟩ Χ:=
 _pq e (λx h=>T.g _ _ (T.bs x h)) (λp h=>(T.gl p h).imp λ_ e=>T.g _ _ e) rfl (e▸List.forall_mem_append.2 ⟨L.m,m⟩) L.e N O (_rl T)
def fC(T:Txt E)(L:FL P w E.K E.mg base k Φ):Fts P w E.K E.mg base k ⟨GB,GL,Φ.map (·.1),[],[],GC⟩ Φ:=mC T Φ [] [] [] L nl0 nl0 nl0 (YS Φ)
end
noncomputable abbrev iN:ISs:=.nil
def Jr:ISs:=(.ret (.and (.bi .isinst 'a' #v[.ty .int]) (.not (.bi .isinst 'a' #v[.ty .bool]))))^iN
def Js:ISs:=(.ret (.and (.call 0 'a' .nil) (.chn .LtE .LtE 'B' 'a' (.glb "MOST_WIDTH" 64))))^iN
def Jt:ISs:=(.ret 'b')^iN
def Ju:ISs:=(.set 1 (.bin .Mult 'b' 'C'))^iN
def Jv:ISs:=(.for_ (.nm 2) (.rng 'a') Ju)^Jt
def Jw:ISs:=(.set 1 'B')^Jv
def Jx:ISs:=(.ret (.and (.call 0 'b' .nil) (.chn .LtE .Lt 'A' 'b' (.call 1 'a' .nil))))^iN
def Jy:ISs:=(.ret (.bin .Mod 'b' (.call 0 'a' .nil)))^iN
def Jz:ISs:=(.ret (.bin .BitXor 'a' (.bin .BitAnd (.bin .BitXor 'a' 'b') 'c')))^iN
def JA:ISs:=(.ret (.bin .BitXor 'a' (.bin .FloorDiv 'a' 'C')))^iN
def JB:ISs:=(.ret 'b')^iN
def JC:ISs:=(.set 2 (.bin .FloorDiv 'c' 'C'))^iN
def JD:ISs:=(.set 1 (.bin .BitXor 'b' 'c'))^JC
def JE:ISs:=(.while_ (.cmp .Gt 'c' 'A') JD)^JB
def JF:ISs:=(.set 2 (.bin .FloorDiv 'a' 'C'))^JE
def JG:ISs:=(.set 1 'a')^JF
def JH:ISs:=(.ret (.tup #v['a','a',.neg 'B']))^iN
def JI:ISs:=(.ret (.tup #v['b',.ix 'a' 'A','c']))^iN
def JJ:ISs:=(.ret (.bin .Mult (.tup #v['a']) 'b'))^iN
def JK:ISs:=(.ret (.ix 'a' 'A'))^iN
def JL:ISs:=(.ret (.call 0 (.ix 'a' 'B') #v[.ix 'a' 'A','c']))^iN
def JM:ISs:=(.ite (.cmp .Gt (.ix 'a' 'C') 'b') JL iN)^JK
def JN:ISs:=(.ret (.sl (.bin .Add (.tup #v['b']) 'a') .none (.some (.neg 'B'))))^iN
def JO:ISs:=(.ret (.ix 'a' (.neg 'B')))^iN
def JP:ISs:=(.fset "Side" 'a' "sight" (.call 1 (.call 0 'A' .nil) #v['c']))^iN
def JQ:ISs:=(.fset "Side" 'a' "sign" (.call 2 (.call 0 'A' .nil) .nil))^JP
def JR:ISs:=(.fset "Side" 'a' "total" 'A')^JQ
def JS:ISs:=(.fset "Side" 'a' "turn" 'b')^JR
def JT:ISs:=(.ret (.ix (.fld "Side" 'a' "sign") 'C'))^iN
def JU:ISs:=(.ret (.bin .Mod (.bin .Sub (.fld "Side" 'a' "total") (.call 0 (.call 1 (.fld "Side" 'a' "sight") .nil) .nil)) (.fld "Side" 'a' "turn")))^iN
def JV:ISs:=(.fset "Side" 'a' "total" (.bin .Add (.fld "Side" 'a' "total") 'B'))^iN
def JW:ISs:=(.ret 'e')^iN
def JX:ISs:=(.fset "Side" 'a' "sight" (.call 1 (.fld "Side" 'a' "sight") #v['e']))^JW
def JY:ISs:=(.fset "Side" 'a' "sign" (.call 3 (.fld "Side" 'a' "sign") #v[.call 0 (.bin .Mod (.fld "Side" 'a' "total") (.fld "Side" 'a' "turn")) .nil,'b']))^JX
def JZ:ISs:=(.set 4 (.call 2 'd' #v[.mcall 4 "Side" "ring_ahead" 'a' .nil,'c']))^JY
def K0:ISs:=(.fset "Ferry" 'a' "taker" (.make 2 "Side" (.call 1 (.bin .Add 'b' 'B') .nil) #v['c']))^iN
def K1:ISs:=(.fset "Ferry" 'a' "giver" (.make 2 "Side" (.call 1 (.bin .Add 'b' 'B') .nil) #v['c']))^K0
def K4:ISs:=(.fset "Ferry" 'a' "places" (.bin .Mult (.lst #v[.call 0 'A' .nil]) (.call 1 'b' .nil)))^K1
def K6:ISs:=(.ret (.tup #v['f',.mcall 3 "Side" "show_and_see" (.fld "Ferry" 'a' "giver") #v['b','c',.fld "Side" (.fld "Ferry" 'a' "taker") "sign"]]))^iN
def E9:ISs:=(.fset "Ferry" 'a' "places" (.comp ["k"] [1,4,0] (.rng (.bi .len 'e' .nil)) (.nm 0) .none (.call 0 (.ix (.fld "Ferry" 'd' "places") 'a') #v[.ix 'c' 'a','b'])))^K6
def K7:ISs:=(.expr (.mcall 1 "Side" "grow" (.fld "Ferry" 'a' "giver") .nil))^iN
def K8:ISs:=(.put 'e' (.bin .Mod (.fld "Side" (.fld "Ferry" 'a' "giver") "total") (.bi .len 'e' .nil)) 'd')^K7
def Ea:ISs:=(.ite 'f' K8 iN)^E9
def K9:ISs:=(.set 5 (.and (.cmp .IsNot 'd' .non) (.cmp .Lt (.mcall 2 "Side" "less_the_seen" (.fld "Ferry" 'a' "giver") .nil) (.bi .len 'e' .nil))))^Ea
def Ka:ISs:=(.set 4 (.comp ["place"] [] (.seq (.fld "Ferry" 'a' "places")) (.nm 0) .none (.ix 'a' 'A')))^K9
def Eb:ISs:=(.ret (.tup #v['e',.mcall 4 "Side" "show_and_see" (.fld "Ferry" 'a' "taker") #v['b','c',.fld "Side" (.fld "Ferry" 'a' "giver") "sign"]]))^iN
def Kb:ISs:=(.expr (.mcall 1 "Side" "grow" (.fld "Ferry" 'a' "taker") .nil))^iN
def Kc:ISs:=(.set 4 (.call 0 'f' #v[.mcall 3 "Side" "ring_ahead" (.fld "Ferry" 'a' "taker") .nil,'c']))^Kb
def Kd:ISs:=(.set 5 (.ix (.fld "Ferry" 'a' "places") (.bin .Mod (.fld "Side" (.fld "Ferry" 'a' "taker") "total") (.bi .len (.fld "Ferry" 'a' "places") .nil))))^Kc
def Ke:ISs:=(.ite (.and 'd' (.cmp .NotEq (.mcall 2 "Side" "less_the_seen" (.fld "Ferry" 'a' "taker") .nil) 'A')) Kd iN)^Eb
def Kf:ISs:=(.set 4 .non)^Ke
def Ec:ISs:=(.ret (.bi .list (.sl 'a' (.some 'B') .none) .nil))^iN
def Ed:ISs:=(.ret (.lst .nil))^iN
def Kg:ISs:=(.ite (.or (.cmp .Eq (.ix 'a' 'A') (.str "num")) (.cmp .Eq (.ix 'a' 'A') (.str "var"))) Ed iN)^Ec
def Kh:ISs:=(.ret (.tup #v['b',.bin .Add 'c' 'B']))^iN
def Ki:ISs:=(.set 2 (.bi .max 'c' #v[.ix 'e' 'B']))^iN
def Kj:ISs:=(.set 1 (.bin .Add 'b' (.ix 'e' 'A')))^Ki
def Kk:ISs:=(.set 4 (.call 1 'd' .nil))^Kj
def Kl:ISs:=(.for_ (.nm 3) (.seq (.call 0 'a' .nil)) Kk)^Kh
def Km:ISs:=(.set 2 'A')^Kl
def Ee:ISs:=(.set 1 'B')^Km
def Zjo:GI:=⟨GB,GL,["parts_within","size_of"],[],[],GC⟩
def _gz:chkSs Zjo (XV C9) ["T","parts","deepest","part","size"] Ee (Yu C9)=wf/\scB ["T","parts","deepest","part","size"] 1 (XV C9):=by decide+kernel
def Ko:ISs:=(.ret 'b')^iN
def Kq:ISs:=(.expr (.mt .extend 'b' #v[.call 0 'c' .nil]))^iN
def Kr:ISs:=(.for_ (.nm 2) (.seq (.call 1 'a' .nil)) Kq)^Ko
def Ef:ISs:=(.set 1 (.lst .nil))^Kr
def Ks:ISs:=(.ret (.lst #v[.ix 'a' 'B']))^iN
def Eg:ISs:=(.ite (.cmp .Eq (.ix 'a' 'A') (.str "var")) Ks iN)^Ef
def ZdW:GI:=⟨GB,GL,["names_read","parts_within"],[],[],GC⟩
def _cE:chkSs ZdW (XV Ca) ["T","names","part"] Eg (Yu Ca)=wf/\scB ["T","names","part"] 1 (XV Ca):=by decide+kernel
def Kt:ISs:=(.ret (.b2 .ssrt (.call 0 'a' .nil)))^iN
def Ku:ISs:=(.ret (.ife (.cmp .Eq 'b' 'c') 'B' 'A'))^iN
def Kv:ISs:=(.ret (.ife (.cmp .Lt 'b' 'c') 'B' 'A'))^iN
def Eh:ISs:=(.ite (.cmp .Eq 'a' (.str "less")) Kv iN)^Ku
def Kw:ISs:=(.ret (.call 0 'd' #v[.bin .Mult 'b' 'c']))^iN
def Cd:ISs:=(.ite (.cmp .Eq 'a' (.str "times")) Kw iN)^Eh
def Kx:ISs:=(.ret (.call 0 'd' #v[.bin .Sub 'b' 'c']))^iN
def Ah:ISs:=(.ite (.cmp .Eq 'a' (.str "minus")) Kx iN)^Cd
def Ky:ISs:=(.ret (.call 0 'd' #v[.bin .Add 'b' 'c']))^iN
def Kz:ISs:=(.ite (.cmp .Eq 'a' (.str "plus")) Ky iN)^Ah
def KA:ISs:=(.ret (.call 2 (.ix 'a' 'A') #v['d',.call 1 (.ix 'a' 'C') #v['b','c'],'b']))^iN
def KB:ISs:=(.ret (.call 1 (.ife (.cmp .NotEq 'd' 'A') (.ix 'a' 'C') (.ix 'a' 'D')) #v['b','c']))^iN
def Ei:ISs:=(.ite (.cmp .Eq (.ix 'a' 'A') (.str "pick")) KB iN)^KA
def Ej:ISs:=(.set 3 (.call 1 (.ix 'a' 'B') #v['b','c']))^Ei
def KC:ISs:=(.ret (.ix 'c' (.ix 'a' 'B')))^iN
def Ce:ISs:=(.ite (.cmp .Eq (.ix 'a' 'A') (.str "var")) KC iN)^Ej
def KD:ISs:=(.ret (.call 0 'b' #v[.ix 'a' 'B']))^iN
def Ek:ISs:=(.ite (.cmp .Eq (.ix 'a' 'A') (.str "num")) KD iN)^Ce
def ZnN:GI:=⟨GB,GL,["cut","worth","worth_of_two"],[],[],GC⟩
def _kA:chkSs ZnN (XV Cb) ["T","width","words","first"] Ek (Yu Cb)=wf/\scB ["T","width","words","first"] 3 (XV Cb):=by decide+kernel
def El:ISs:=(.ret (.tup #v[.str "own"]))^iN
def KE:ISs:=(.ret (.tup #v[.str "give",.ix 'e' 'B',.call 0 (.ix 'e' 'C') #v['a','d']]))^iN
def Cf:ISs:=(.ite (.cmp .Eq (.ix 'e' 'A') (.str "give")) KE iN)^El
def KF:ISs:=(.ret (.tup #v[.str "take",.ix 'e' 'B']))^iN
def Em:ISs:=(.ite (.cmp .Eq (.ix 'e' 'A') (.str "take")) KF iN)^Cf
def Eo:ISs:=(.set 4 (.ix 'b' 'c'))^Em
def Ep:ISs:=(.ret .non)^iN
def KG:ISs:=(.ite (.cmp .Eq 'c' (.bi .len 'b' .nil)) Ep iN)^Eo
def Ai:ISs:=(.ret (.bin .Add 'c' 'B'))^iN
def KH:ISs:=(.ret (.ix 'e' 'C'))^iN
def KI:ISs:=(.ite (.and (.cmp .Eq (.ix 'e' 'A') (.str "jump")) (.cmp .NotEq (.call 0 (.ix 'e' 'B') #v['a','d']) 'A')) KH iN)^Ai
def KJ:ISs:=(.set 4 (.ix 'b' 'c'))^KI
def Aj:ISs:=(.ret 'e')^iN
def KL:ISs:=(.put 'e' (.ix 'b' 'B') (.call 0 (.ix 'b' 'C') #v['a','c']))^iN
def Ak:ISs:=(.ite (.cmp .Eq (.ix 'b' 'A') (.str "put")) KL iN)^Aj
def KM:ISs:=(.put 'e' (.ix 'b' 'C') 'd')^iN
def KN:ISs:=(.ite (.cmp .Eq (.ix 'b' 'A') (.str "take")) KM iN)^Ak
def KO:ISs:=(.set 4 (.bi .dict 'c' .nil))^KN
def KP:ISs:=(.ret (.tup #v[.call 0 'a' #v['b','c','d'],.call 1 'a' #v[.ix 'b' 'c','d','e']]))^iN
def KQ:ISs:=(.ret (.and (.chn .LtE .LtE 'B' (.bi .len 'a' .nil) (.glb "MOST_LETTERS" 8)) (.bi .all (.comp ["sign"] [] (.seq 'a') (.nm 0) .none (.chn .LtE .LtE (.str "a") 'a' (.str "z"))) .nil)))^iN
def ZaV:ISs:=(.never)^iN
def KR:ISs:=(.ite (.cmp .In 'a' 'b') ZaV iN)^iN
def ZaW:ISs:=(.never)^iN
def KS:ISs:=(.ite (.not (.call 0 'a' .nil)) ZaW iN)^KR
def Z7w:ISs:=(.never)^iN
def Cg:ISs:=(.ite (.cmp .NotIn 'a' 'b') Z7w iN)^iN
def KU:ISs:=(.expr (.mt .append 'b' #v[.ix 'c' 'A']))^iN
def KW:ISs:=(.expr (.call 0 (.ix 'c' 'A') #v['b']))^KU
def KY:ISs:=(.for_ (.nm 2) (.seq 'a') KW)^iN
def KZ:ISs:=(.set 1 (.lst .nil))^KY
def Z6b:ISs:=(.never)^iN
def L0:ISs:=(.ite (.not (.call 0 'a' #v[.ix 'd' 'B'])) Z6b iN)^iN
def L1:ISs:=(.expr (.mt .append 'c' #v['e']))^L0
def L3:ISs:=(.expr (.call 1 'e' #v['c']))^L1
def L4:ISs:=(.set 4 (.ix 'd' 'A'))^L3
def L5:ISs:=(.for_ (.nm 3) (.seq 'b') L4)^iN
def L6:ISs:=(.set 2 (.lst .nil))^L5
def L7:ISs:=(.expr (.call 0 'd' #v['b']))^iN
def L8:ISs:=(.for_ (.nm 3) (.seq (.call 2 'a' .nil)) L7)^iN
def ZaU:ISs:=(.never)^iN
def L9:ISs:=(.ite (.or (.cmp .Gt (.ix 'c' 'A') (.glb "MOST_PARTS" 30)) (.cmp .Gt (.ix 'c' 'B') (.glb "MOST_DEPTH" 8))) ZaU iN)^L8
def La:ISs:=(.set 2 (.call 1 'a' .nil))^L9
def Lb:ISs:=(.expr (.call 1 (.ix 'a' 'C') #v['b']))^iN
def Lc:ISs:=(.expr (.call 1 (.ix 'a' 'B') #v['d']))^Lb
def Ld:ISs:=(.expr (.call 0 (.ix 'a' 'C') #v['b']))^iN
def Lf:ISs:=(.expr (.call 1 (.ix 'a' 'B') #v['d']))^Ld
def Lg:ISs:=(.expr (.call 0 (.ix 'a' 'C') #v['b']))^iN
def Lh:ISs:=(.expr (.call 1 (.ix 'a' 'B') #v['b']))^Lg
def Z9W:ISs:=(.never)^iN
def Li:ISs:=(.ite (.not (.chn .LtE .LtE 'A' (.ix 'a' 'C') 'c')) Z9W iN)^iN
def Lj:ISs:=(.expr (.call 0 (.ix 'a' 'B') #v['b']))^Li
def Er:ISs:=(.ite (.cmp .Eq (.ix 'a' 'A') (.str "put")) Lh Lj)^iN
def Ch:ISs:=(.ite (.cmp .Eq (.ix 'a' 'A') (.str "give")) Lf Er)^iN
def Lk:ISs:=(.ite (.cmp .Eq (.ix 'a' 'A') (.str "take")) Lc Ch)^iN
def Ll:ISs:=(.expr (.call 0 'e' #v['d',.bi .len (.ix 'b' 'C') .nil,'c']))^iN
def Lm:ISs:=(.for_ (.nm 4) (.seq (.ix 'b' 'C')) Ll)^iN
def Ln:ISs:=(.set 3 (.comp ["pair"] [] (.seq (.ix 'b' 'B')) (.nm 0) .none (.ix 'a' 'A')))^Lm
def Lo:ISs:=(.expr (.call 1 'a' #v[.ix 'b' 'B']))^Ln
def Z94:ISs:=(.never)^iN
def Lp:ISs:=(.ite (.cmp .Gt (.bi .len (.ix 'b' 'C') .nil) (.glb "MOST_STEPS" 12)) Z94 iN)^Lo
def Z95:ISs:=(.never)^iN
def Lq:ISs:=(.ite (.cmp .Gt (.bi .len (.ix 'b' 'B') .nil) (.glb "MOST_VARS" 6)) Z95 iN)^Lp
def Lr:ISs:=(.expr (.call 0 'a' #v['e','c']))^iN
def Ls:ISs:=(.expr (.mt .append 'd' #v[.ix 'e' 'A']))^Lr
def Lu:ISs:=(.expr (.call 1 (.ix 'e' 'A') #v['d']))^Ls
def Lv:ISs:=(.for_ (.nm 4) (.seq 'b') Lu)^iN
def Lw:ISs:=(.set 3 (.bi .list 'c' .nil))^Lv
def Z9X:ISs:=(.never)^iN
def Lx:ISs:=(.ite (.not (.chn .LtE .LtE 'B' (.ix 'a' 'E') (.glb "MOST_STAGES" 3))) Z9X iN)^iN
def Z9Y:ISs:=(.never)^iN
def Ly:ISs:=(.ite (.not (.chn .LtE .LtE 'A' (.ix 'a' 'D') (.glb "MOST_K" 3))) Z9Y iN)^Lx
def Z9Z:ISs:=(.never)^iN
def Lz:ISs:=(.ite (.cmp .Eq (.ix 'a' 'B') (.ix 'a' 'C')) Z9Z iN)^Ly
def LA:ISs:=(.expr (.call 0 (.ix 'a' 'C') #v['b']))^Lz
def LB:ISs:=(.expr (.call 0 (.ix 'a' 'B') #v['b']))^LA
def Z69:ISs:=(.never)^iN
def Al:ISs:=(.ite (.and (.cmp .Eq (.ix 'b' 'A') (.str "give")) (.cmp .NotEq (.ix 'c' (.ix 'b' 'B')) 'a')) Z69 iN)^iN
def Z6a:ISs:=(.never)^iN
def LC:ISs:=(.ite (.and (.cmp .Eq (.ix 'b' 'A') (.str "take")) (.cmp .NotEq (.ix 'd' (.ix 'b' 'B')) 'a')) Z6a iN)^Al
def LD:ISs:=(.expr (.call 0 (.ix 'e' 'A') #v['f','c','d']))^iN
def LF:ISs:=(.for_ (.nm 5) (.seq (.ix 'e' 'C')) LD)^iN
def LG:ISs:=(.for_ (.nm 4) (.seq 'a') LF)^iN
def LH:ISs:=(.set 3 (.bi .dictL (.comp ["ferry"] [] (.seq 'b') (.nm 0) .none (.tup #v[.ix 'a' 'A',.ix 'a' 'C'])) .nil))^LG
def LI:ISs:=(.set 2 (.bi .dictL (.comp ["ferry"] [] (.seq 'b') (.nm 0) .none (.tup #v[.ix 'a' 'A',.ix 'a' 'B'])) .nil))^LH
def We:ISs:=(.ret 'a')^iN
def Es:ISs:=(.ret (.bi .tuple (.comp ["part"] [] (.seq 'a') (.nm 0) .none (.call 0 'a' .nil)) .nil))^iN
def Wf:ISs:=(.ite (.bi .isinst 'a' #v[.tup #v[.ty .list,.ty .tuple]]) Es iN)^We
def ZkO:GI:=⟨GB,GL,["frozen"],[],[],GC⟩
def _iZ:chkSs ZkO (XV Cc) ["value"] Wf (Yu Cc)=wf/\scB ["value"] 1 (XV Cc):=by decide+kernel
def LJ:ISs:=(.ret (.call 0 (.tup #v['a','b','c']) .nil))^iN
def LK:ISs:=(.expr (.call 5 'b' #v['c']))^LJ
def LL:ISs:=(.expr (.call 2 'e' #v['d']))^iN
def LM:ISs:=(.for_ (.nm 4) (.seq 'c') LL)^LK
def LN:ISs:=(.set 3 (.comp ["island"] [] (.seq 'b') (.nm 0) .none (.ix 'a' 'A')))^LM
def LO:ISs:=(.expr (.call 4 'a' #v['b',.comp ["ferry"] [] (.seq 'c') (.nm 0) .none (.ix 'a' 'A')]))^LN
def LP:ISs:=(.expr (.call 3 'c' .nil))^LO
def Zng:ISs:=(.never)^iN
def LQ:ISs:=(.ite (.cmp .Gt (.bi .len 'c' .nil) (.glb "MOST_FERRIES" 6)) Zng iN)^LP
def Znh:ISs:=(.never)^iN
def LR:ISs:=(.ite (.cmp .Gt (.bi .len 'b' .nil) (.glb "MOST_ISLANDS" 5)) Znh iN)^LQ
def Zni:ISs:=(.never)^iN
def LS:ISs:=(.ite (.not (.call 1 'a' .nil)) Zni iN)^LR
def Zcu:ISs:=(.never)^iN
def LU:ISs:=(.ret 'c')^iN
def LV:ISs:=(.ite (.cmp .Eq (.ix 'c' 'A') 'b') LU iN)^iN
def LW:ISs:=(.for_ (.nm 2) (.seq 'a') LV)^Zcu
def LX:ISs:=(.ret (.call 0 (.ix 'a' 'B') #v['b']))^iN
def LY:ISs:=(.ret (.call 0 (.ix 'a' 'C') #v['b']))^iN
def LZ:ISs:=(.ret (.tup #v[.str "wait",.ix 'a' 'B']))^iN
def M6:ISs:=(.ret (.tup #v[.str "own"]))^iN
def Ma:ISs:=(.ite (.cmp .Eq (.ix 'a' 'A') (.str "own")) M6 iN)^LZ
def Mb:ISs:=(.ret (.tup #v[.str "done"]))^iN
def Mc:ISs:=(.ite (.cmp .Is 'a' .non) Mb iN)^Ma
def Md:ISs:=(.ret (.and (.cmp .IsNot 'a' .non) (.and (.cmp .NotEq (.ix 'a' 'A') (.str "own")) (.cmp .Eq (.ix 'a' 'B') 'b'))))^iN
def Me:ISs:=(.ret (.ix 'a' 'b'))^iN
def Mf:ISs:=(.expr (.call 0 'b' #v['a']))^Me
def Zal:ISs:=(.fset "Run" 'a' "taken_so_far" (.bi .dictL (.comp ["ferry"] [] (.seq (.ix 'b' 'C')) (.nm 0) .none (.tup #v[.ix 'a' 'A',.lst .nil])) .nil))^iN
def Zam:ISs:=(.fset "Run" 'a' "given_so_far" (.bi .dictL (.comp ["ferry"] [] (.seq (.ix 'b' 'C')) (.nm 0) .none (.tup #v[.ix 'a' 'A',.lst .nil])) .nil))^Zal
def Zan:ISs:=(.fset "Run" 'a' "boats" (.bi .dictL (.comp ["ferry"] [] (.seq (.ix 'b' 'C')) (.nm 0) .none (.tup #v[.ix 'a' 'A',.make 0 "Ferry" (.ix 'a' 'D') #v[.ix 'a' 'E']])) .nil))^Zam
def Zao:ISs:=(.fset "Run" 'a' "steps_so_far" (.bi .dictL (.comp ["island"] [] (.seq (.ix 'b' 'B')) (.nm 0) .none (.tup #v[.ix 'a' 'A','A'])) .nil))^Zan
def Zap:ISs:=(.fset "Run" 'a' "words_now" (.bi .dictL (.comp ["island"] [] (.seq (.ix 'b' 'B')) (.nm 0) .none (.tup #v[.ix 'a' 'A',.bi .dict (.ix 'a' 'B') .nil])) .nil))^Zao
def Zaq:ISs:=(.fset "Run" 'a' "next_numbers" (.bi .dictL (.comp ["island"] [] (.seq (.ix 'b' 'B')) (.nm 0) .none (.tup #v[.ix 'a' 'A','A'])) .nil))^Zap
def Mg:ISs:=(.fset "Run" 'a' "moment" 'A')^Zaq
def Mh:ISs:=(.fset "Run" 'a' "world" 'b')^Mg
def Am:ISs:=(.ret (.tup #v['b','e','g','h']))^iN
def Et:ISs:=(.expr (.mcall 4 "Run" "go_on" 'a' #v['b','d',.ife (.cmp .Eq (.ix 'g' 'A') (.str "take")) (.ix 'g' 'C') .non]))^iN
def Mi:ISs:=(.ite (.cmp .NotIn (.ix 'g' 'A') (.tup #v[.str "done",.str "wait"])) Et iN)^Am
def Mj:ISs:=(.fset "Run" 'a' "moment" (.bin .Add (.fld "Run" 'a' "moment") 'B'))^Mi
def Ml:ISs:=(.set 6 (.ix 'k' 'A'))^iN
def Mm:ISs:=(.ite (.cmp .IsNot (.ix 'k' 'A') .non) Ml iN)^iN
def Mn:ISs:=(.expr (.mt .append 'h' #v[.tup #v[.ix 'j' 'A',.ix 'k' 'B']]))^Mm
def Mo:ISs:=(.set 10 (.mcall 5 "Run" "ring_ferry" 'a' #v['j','b',.bin .FloorDiv 'c' (.call 1 (.bin .Mult (.glb "BITS_A_FERRY" 8) 'i') .nil),'f']))^Mn
def Mp:ISs:=(.ite (.cmp .In 'b' (.tup #v[.ix 'j' 'B',.ix 'j' 'C'])) Mo iN)^iN
def Eu:ISs:=(.set 9 (.ix (.ix (.fld "Run" 'a' "world") 'C') 'i'))^Mp
def Mq:ISs:=(.for_ (.nm 8) (.rng (.bi .len (.ix (.fld "Run" 'a' "world") 'C') .nil)) Eu)^Mj
def Mr:ISs:=(.set 7 (.lst .nil))^Mq
def Ms:ISs:=(.set 6 (.call 2 'f' .nil))^Mr
def Mt:ISs:=(.set 5 (.call 3 (.ix (.fld "Run" 'a' "world") 'A') #v['d','e',.ix (.fld "Run" 'a' "words_now") 'b']))^Ms
def Mu:ISs:=(.set 4 (.ix (.fld "Run" 'a' "next_numbers") 'b'))^Mt
def Mv:ISs:=(.set 3 (.ix (.call 0 (.fld "Run" 'a' "world") #v['b']) 'C'))^Mu
def Mw:ISs:=(.ret (.tup #v[.tup #v[.str "take",.ix 'b' 'A',.ix 'h' 'A'],.ix 'h' 'B']))^iN
def Mz:ISs:=(.expr (.mt .append (.ix (.fld "Run" 'a' "taken_so_far") (.ix 'b' 'A')) #v[.ix 'h' 'A']))^Mw
def MA:ISs:=(.ret 'h')^iN
def MC:ISs:=(.ite (.cmp .Is (.ix 'h' 'A') .non) MA iN)^Mz
def Ev:ISs:=(.set 7 (.mcall 2 "Ferry" "ring_taker" 'f' #v[.fld "Run" 'a' "moment",'d','g']))^MC
def MD:ISs:=(.ret (.tup #v['e',.ix 'h' 'B']))^iN
def ME:ISs:=(.expr (.mt .append (.ix (.fld "Run" 'a' "given_so_far") (.ix 'b' 'A')) #v[.ix 'e' 'C']))^MD
def MF:ISs:=(.ret (.tup #v[.non,.ix 'h' 'B']))^iN
def Ew:ISs:=(.ite (.not (.ix 'h' 'A')) MF iN)^ME
def MG:ISs:=(.set 7 (.mcall 1 "Ferry" "ring_giver" 'f' #v[.fld "Run" 'a' "moment",'d',.ife 'g' (.ix 'e' 'C') .non]))^Ew
def MI:ISs:=(.ite (.cmp .Eq (.ix 'b' 'B') 'c') MG iN)^Ev
def MJ:ISs:=(.set 6 (.call 0 'e' #v[.ix 'b' 'A']))^MI
def MK:ISs:=(.set 5 (.ix (.fld "Run" 'a' "boats") (.ix 'b' 'A')))^MJ
def ML:ISs:=(.put (.fld "Run" 'a' "steps_so_far") 'b' (.bin .Add (.ix (.fld "Run" 'a' "steps_so_far") 'b') 'B'))^iN
def MM:ISs:=(.put (.fld "Run" 'a' "words_now") 'b' (.ix 'e' 'B'))^ML
def MN:ISs:=(.put (.fld "Run" 'a' "next_numbers") 'b' (.ix 'e' 'A'))^MM
def MP:ISs:=(.set 4 (.call 0 (.ix (.fld "Run" 'a' "world") 'A') #v['c',.ix (.fld "Run" 'a' "next_numbers") 'b',.ix (.fld "Run" 'a' "words_now") 'b','d']))^MN
def MQ:ISs:=(.ret (.call 0 (.fld "Run" 'a' "next_numbers") #v['b']))^iN
def MR:ISs:=(.ret (.bi .dict (.call 0 (.fld "Run" 'a' "words_now") #v['b']) .nil))^iN
def MS:ISs:=(.ret (.bi .list (.call 0 (.fld "Run" 'a' "given_so_far") #v['b']) .nil))^iN
def MU:ISs:=(.ret (.bi .list (.call 0 (.fld "Run" 'a' "taken_so_far") #v['b']) .nil))^iN
def Ex:ISs:=(.ret (.tup #v['b','c','d','e']))^iN
def Ey:ISs:=(.set 4 (.bi .dictL (.comp ["ferry"] [] (.seq (.ix 'a' 'C')) (.nm 0) .none (.tup #v[.ix 'a' 'A','A'])) .nil))^Ex
def Ez:ISs:=(.set 3 (.bi .dictL (.comp ["ferry"] [] (.seq (.ix 'a' 'C')) (.nm 0) .none (.tup #v[.ix 'a' 'A',.lst .nil])) .nil))^Ey
def EA:ISs:=(.set 2 (.bi .dictL (.comp ["island"] [] (.seq (.ix 'a' 'B')) (.nm 0) .none (.tup #v[.ix 'a' 'A',.bi .dict (.ix 'a' 'B') .nil])) .nil))^Ez
def MW:ISs:=(.set 1 (.bi .dictL (.comp ["island"] [] (.seq (.ix 'a' 'B')) (.nm 0) .none (.tup #v[.ix 'a' 'A','A'])) .nil))^EA
def EB:ISs:=(.ret (.tup #v[.bi .dict (.ix 'a' 'A') .nil,'b','c',.bi .dict (.ix 'a' 'D') .nil]))^iN
def EC:ISs:=(.set 2 (.bi .dictL (.comp ["name"] [0] (.seq (.ix 'a' 'C')) (.nm 0) .none (.tup #v['a',.bi .list (.ix (.ix 'b' 'C') 'a') .nil])) .nil))^EB
def MX:ISs:=(.set 1 (.bi .dictL (.comp ["name"] [0] (.seq (.ix 'a' 'B')) (.nm 0) .none (.tup #v['a',.bi .dict (.ix (.ix 'b' 'B') 'a') .nil])) .nil))^EC
def MY:ISs:=(.ret (.call 1 (.ix 'a' 'A') #v[.ix (.call 0 'a' #v['c']) 'C',.ix (.ix 'b' 'A') 'c',.ix (.ix 'b' 'B') 'c']))^iN
def MZ:ISs:=(.ret (.cmp .Lt 'd' (.call 1 (.ix (.call 0 'a' #v[.ix 'c' 'B']) 'D') .nil)))^iN
def N0:ISs:=(.ret (.cmp .Gt 'd' 'A'))^iN
def ED:ISs:=(.ite (.cmp .Eq (.ix 'c' 'A') (.str "take")) N0 iN)^MZ
def EE:ISs:=(.set 3 (.bin .Sub (.bi .len (.ix (.ix 'b' 'C') (.ix 'c' 'B')) .nil) (.ix (.ix 'b' 'D') (.ix 'c' 'B'))))^ED
def EF:ISs:=(.ret (.bl wf))^iN
def N2:ISs:=(.ite (.cmp .Eq (.ix 'c' 'A') (.str "own")) EF iN)^EE
def N3:ISs:=(.put (.ix 'e' 'B') 'c' (.ix 'i' 'B'))^iN
def N5:ISs:=(.put (.ix 'e' 'A') 'c' (.ix 'i' 'A'))^N3
def N6:ISs:=(.set 8 (.call 0 (.ix 'a' 'A') #v['h',.ix (.ix 'b' 'A') 'c',.ix (.ix 'b' 'B') 'c','f']))^N5
def EG:ISs:=(.set 7 (.ix (.call 1 'a' #v['c']) 'C'))^N6
def N7:ISs:=(.expr (.mt .append (.ix (.ix 'e' 'C') (.ix 'd' 'B')) #v[.ix 'd' 'C']))^iN
def An:ISs:=(.ite (.cmp .Eq (.ix 'd' 'A') (.str "give")) N7 iN)^EG
def N8:ISs:=(.put (.ix 'e' 'D') 'g' (.bin .Add (.ix (.ix 'b' 'D') 'g') 'B'))^iN
def N9:ISs:=(.set 5 (.ix (.ix (.ix 'b' 'C') 'g') (.ix (.ix 'b' 'D') 'g')))^N8
def Na:ISs:=(.set 6 (.ix 'd' 'B'))^N9
def Nb:ISs:=(.ite (.cmp .Eq (.ix 'd' 'A') (.str "take")) Na iN)^An
def Nc:ISs:=(.set 5 .non)^Nb
def Nd:ISs:=(.ret (.tup #v['c','d']))^iN
def Nf:ISs:=(.expr (.mt .append 'd' #v[.ix 'e' 'A']))^iN
def Ng:ISs:=(.expr (.call 2 'a' #v['b',.ix 'e' 'A','f','c']))^Nf
def Nh:ISs:=(.ite (.and (.cmp .IsNot 'f' .non) (.call 0 'a' #v['b','f'])) Ng iN)^iN
def Ni:ISs:=(.set 5 (.call 3 'a' #v['b',.ix 'e' 'A']))^Nh
def Nj:ISs:=(.for_ (.nm 4) (.seq (.ix 'a' 'B')) Ni)^Nd
def Nk:ISs:=(.set 3 (.lst .nil))^Nj
def Nl:ISs:=(.set 2 (.call 1 'b' .nil))^Nk
def EH:ISs:=(.ret (.ife (.cmp .Eq (.ix 'd' 'A') (.str "take")) (.ix 'e' 'B') (.ix 'e' 'C')))^iN
def Nm:ISs:=(.set 4 (.call 1 'a' #v[.ix 'd' 'B']))^EH
def EI:ISs:=(.ret .non)^iN
def Nn:ISs:=(.ite (.or (.cmp .Is 'd' .non) (.call 0 'a' #v['b','d'])) EI iN)^Nm
def No:ISs:=(.set 3 (.call 2 'a' #v['b','c']))^Nn
def Np:ISs:=(.ret 'd')^iN
def Nq:ISs:=(.set 4 (.call 0 'a' #v['b','e']))^iN
def Nr:ISs:=(.ret 'd')^iN
def Nt:ISs:=(.ite 'f' Nr iN)^Nq
def Nu:ISs:=(.expr (.mt .append 'd' #v['e']))^Nt
def Nv:ISs:=(.set 5 (.cmp .In 'e' 'd'))^Nu
def Nw:ISs:=(.while_ (.cmp .IsNot 'e' .non) Nv)^Np
def Ny:ISs:=(.set 4 (.call 0 'a' #v['b','c']))^Nw
def Nz:ISs:=(.set 3 (.lst #v['c']))^Ny
def NA:ISs:=(.ret 'A')^iN
def NB:ISs:=(.ret (.ix 'a' 'b'))^iN
def NC:ISs:=(.ite (.cmp .Lt 'b' (.bi .len 'a' .nil)) NB iN)^NA
def ND:ISs:=(.ret (.bin .Add (.bin .Add (.bin .Mult (.ix 'c' 'd') 'g') 'h') (.bin .Mult (.ix 'c' 'd') (.bin .Sub (.bin .Sub 'f' 'B') 'g'))))^iN
def NE:ISs:=(.set 7 (.ix 'c' (.bin .Mod (.bin .Add (.bin .FloorDiv 'a' (.int 4992)) (.bin .Mult 'H' 'b')) (.int 26))))^ND
def NF:ISs:=(.set 6 (.bin .Mod (.bin .Mod (.bin .FloorDiv 'a' 'Y') 'I') 'f'))^NE
def NG:ISs:=(.set 5 (.bin .Add 'B' (.bin .Mod (.bin .FloorDiv 'a' 'D') 'I')))^NF
def NH:ISs:=(.ret (.bin .Add (.bin .Mult (.ix 'c' 'd') (.bin .Add 'B' (.bin .Mod (.bin .Add (.bin .Mult 'D' 'b') (.bin .FloorDiv 'a' (.int 192))) 'H'))) (.bin .Mult 'e' (.bin .FloorDiv 'b' 'H'))))^iN
def NI:ISs:=(.set 4 (.ix 'c' (.bin .Mod (.bin .Add (.bin .Add 'd' 'B') (.bin .Mod (.bin .FloorDiv 'a' (.int 4992)) 'Z')) (.int 26))))^NH
def NJ:ISs:=(.ite (.cmp .Eq (.bin .Mod 'a' 'D') 'C') NI iN)^NG
def NK:ISs:=(.set 3 (.bin .Mod (.bin .FloorDiv 'a' (.int 192)) (.int 26)))^NJ
def NL:ISs:=(.set 2 (.str "abcdefghijklmnopqrstuvwxyz"))^NK
def NM:ISs:=(.ret (.tup #v[.str "plus",'c',.tup #v[.str "var",.ix 'b' (.bin .Mod (.bin .FloorDiv 'a' (.int 224)) 'C')]]))^iN
def NN:ISs:=(.ret (.tup #v[.str "pick",.tup #v[.str "less",'c','d'],'d','c']))^iN
def NO:ISs:=(.ite (.cmp .Eq (.bin .Mod 'a' 'I') 'F') NN iN)^NM
def NP:ISs:=(.ret (.tup #v[.ix (.lst #v[.str "plus",.str "minus",.str "times"]) (.bin .Sub (.bin .Mod 'a' 'I') 'C'),'c','d']))^iN
def NQ:ISs:=(.ite (.cmp .Lt (.bin .Mod 'a' 'I') 'F') NP iN)^NO
def NR:ISs:=(.ret (.ix (.lst #v['c','d']) (.bin .Mod 'a' 'C')))^iN
def NS:ISs:=(.ite (.cmp .Lt (.bin .Mod 'a' 'I') 'C') NR iN)^NQ
def NT:ISs:=(.set 3 (.tup #v[.str "num",.ix (.lst #v[.bin .Sub (.bin .Mod (.bin .FloorDiv 'a' 'Q') 'H') 'D',.bin .Mod (.bin .Mult (.bin .FloorDiv 'a' 'Q') (.int 1000000007)) (.bin .Pow 'K' 'U')]) (.bin .Mod (.bin .FloorDiv 'a' (.int 112)) 'C')]))^NS
def NU:ISs:=(.set 2 (.tup #v[.str "var",.ix 'b' (.bin .Mod (.bin .FloorDiv 'a' 'I') 'C')]))^NT
def NV:ISs:=(.ret (.tup #v[.str "put",.ix 'c' (.bin .Mod (.bin .FloorDiv 'a' 'I') 'C'),.call 0 'h' #v['c']]))^iN
def NW:ISs:=(.ret (.tup #v[.str "jump",.call 0 'h' #v['c'],.bin .Mod (.bin .FloorDiv 'a' 'I') (.bin .Add 'e' 'B')]))^iN
def EJ:ISs:=(.ite (.cmp .Eq (.bin .Mod 'a' 'I') 'H') NW iN)^NV
def NX:ISs:=(.ret (.tup #v[.str "give",.ix 'g' (.bin .Mod (.bin .FloorDiv 'a' 'I') (.bi .len 'g' .nil)),.call 0 'h' #v['c']]))^iN
def EK:ISs:=(.ite (.and (.cmp .Lt (.bin .Mod 'a' 'I') 'G') (.cmp .NotEq 'g' (.lst .nil))) NX iN)^EJ
def NY:ISs:=(.ret (.tup #v[.str "take",.ix 'f' (.bin .Mod (.bin .FloorDiv 'a' 'I') (.bi .len 'f' .nil)),.ix 'c' (.bin .Mod 'h' 'C')]))^iN
def NZ:ISs:=(.ite (.and (.cmp .Lt (.bin .Mod 'a' 'I') 'D') (.cmp .NotEq 'f' (.lst .nil))) NY iN)^EK
def O0:ISs:=(.set 7 (.bin .FloorDiv 'a' (.int 128)))^NZ
def O1:ISs:=(.set 6 (.comp ["ferry"] [1] (.seq 'd') (.nm 0) (.some (.cmp .Eq (.ix 'a' 'B') 'b')) (.ix 'a' 'A')))^O0
def O2:ISs:=(.set 5 (.comp ["ferry"] [1] (.seq 'd') (.nm 0) (.some (.cmp .Eq (.ix 'a' 'C') 'b')) (.ix 'a' 'A')))^O1
def EL:ISs:=(.ret (.tup #v['f','h','k']))^iN
def O4:ISs:=(.expr (.mt .append 'k' #v[.tup #v[.str "jump",.tup #v[.str "num",'B'],'A']]))^iN
def O5:ISs:=(.ite (.cmp .Eq 'j' 'B') O4 iN)^EL
def O6:ISs:=(.set 0 (.bin .FloorDiv 'a' (.bin .Pow 'K' 'I')))^iN
def EM:ISs:=(.expr (.mt .append 'k' #v[.call 1 (.bin .Mod 'a' (.bin .Pow 'K' 'I')) #v['f','g','d',.bin .Add 'i' 'j']]))^O6
def O7:ISs:=(.for_ (.nm 11) (.rng 'i') EM)^O5
def O8:ISs:=(.set 10 (.lst .nil))^O7
def O9:ISs:=(.set 0 (.bin .FloorDiv 'a' (.int 112)))^O8
def Oa:ISs:=(.set 9 (.bi .int (.cmp .Lt (.bin .Mod (.bin .FloorDiv 'a' (.int 28)) 'E') 'e') .nil))^O9
def Ob:ISs:=(.set 8 (.bin .Mod (.bin .FloorDiv 'a' 'E') 'H'))^Oa
def Oc:ISs:=(.set 7 (.lst #v[.tup #v[.ix 'g' 'A',.bin .Mod 'a' 'C'],.tup #v[.ix 'g' 'B',.bin .Mod (.bin .FloorDiv 'a' 'C') 'C']]))^Ob
def Od:ISs:=(.set 6 (.lst #v[.call 0 'c' #v['J'],.call 0 'c' #v['K']]))^Oc
def Oe:ISs:=(.set 5 (.call 0 'c' #v['b']))^Od
def Of:ISs:=(.ret (.tup #v['e','m','g']))^iN
def EN:ISs:=(.expr (.mt .append 'm' #v[.call 1 (.bin .Mod (.call 0 'a' #v[.bin .Add 'G' 'h']) (.bin .Pow 'K' (.int 60))) #v['h','d','g','b']]))^iN
def Og:ISs:=(.for_ (.nm 7) (.rng 'f') EN)^Of
def Oh:ISs:=(.set 12 (.lst .nil))^Og
def Oi:ISs:=(.expr (.mt .append 'g' #v[.tup #v[.call 2 'd' #v[.bin .Add 'F' 'h'],.ix 'l' 'A',.ix 'l' 'B',.bin .Mod (.bin .FloorDiv 'i' 'U') 'E',.bin .Add 'B' (.bin .Mod (.bin .FloorDiv 'i' (.int 80)) 'D')]]))^iN
def Oj:ISs:=(.set 11 (.tup #v[.call 2 'd' #v['j'],.call 2 'd' #v['k']]))^Oi
def Ol:ISs:=(.set 10 (.bin .Mod (.bin .Add (.bin .Add 'j' 'B') (.bin .Mod (.bin .FloorDiv 'i' 'F') (.bin .Sub 'f' 'B'))) 'f'))^Oj
def Om:ISs:=(.set 9 (.bin .Mod 'i' 'f'))^Ol
def EO:ISs:=(.set 8 (.bin .FloorDiv (.bin .Mod (.call 0 'a' #v[.bin .Add 'C' (.bin .Mod 'h' 'E')]) (.bin .Pow 'K' 'P')) (.ix (.lst #v['B',.int 1000000]) (.bin .FloorDiv 'h' 'E'))))^Om
def On:ISs:=(.for_ (.nm 7) (.rng (.bi .min (.bin .Sub (.bin .Mult 'G' 'f') 'G') #v[.bin .Mod (.bin .FloorDiv 'c' (.int 2048)) 'H'])) EO)^Oh
def Oo:ISs:=(.set 6 (.lst .nil))^On
def Op:ISs:=(.set 5 (.bin .Add 'B' (.bin .Mod 'c' 'F')))^Oo
def Oq:ISs:=(.set 4 (.ix (.lst #v[.bin .Add 'B' (.bin .Mod (.bin .FloorDiv 'c' 'Q') (.int 64)),.bin .Add 'B' (.bin .Mod (.bin .FloorDiv 'c' 'Q') 'F')]) (.bin .Mod (.bin .FloorDiv 'c' (.int 1024)) 'C')))^Op
def Os:ISs:=(.set 3 (.bin .Mod (.call 0 'a' #v['B']) (.bin .Pow 'K' 'J')))^Oq
def Ot:ISs:=(.set 2 (.bin .Mod (.call 0 'a' #v['A']) (.bin .Pow 'K' 'J')))^Os
def Ou:ISs:=(.ret 'c')^iN
def Ov:ISs:=(.expr (.mt .append 'c' #v[.tup #v[.ix (.ix 'b' (.bin .Mod 'd' (.bi .len 'b' .nil))) 'A',.bin .Mod (.bin .FloorDiv 'd' (.bi .len 'b' .nil)) (.bin .Pow 'K' (.int 30))]]))^iN
def Ow:ISs:=(.for_ (.nm 3) (.seq 'a') Ov)^Ou
def Ox:ISs:=(.set 2 (.lst .nil))^Ow
def Oy:ISs:=(.ret 'd')^iN
def Oz:ISs:=(.expr (.mt .append 'd' #v[.mt .popAt 'c' #v['e']]))^iN
def OA:ISs:=(.set 1 (.bin .FloorDiv 'b' (.bi .len 'c' .nil)))^Oz
def OB:ISs:=(.set 4 (.bin .Mod 'b' (.bi .len 'c' .nil)))^OA
def OC:ISs:=(.while_ (.cmp .NotEq 'c' (.lst .nil)) OB)^Oy
def OD:ISs:=(.set 3 (.lst .nil))^OC
def OE:ISs:=(.set 2 (.bi .list 'a' .nil))^OD
def OF:ISs:=(.ret (.bl wf))^iN
def Zcw:ISs:=(.ret (.bl wg))^iN
def OG:ISs:=(.ite (.or (.cmp .NotEq 'h' (.ix (.ix 'b' 'C') (.ix 'g' 'A'))) (.cmp .NotEq (.mcall 2 "Run" "taken" 'a' #v[.ix 'g' 'A']) (.sl 'h' .none (.some (.ix (.ix 'b' 'D') (.ix 'g' 'A')))))) Zcw iN)^iN
def OH:ISs:=(.set 7 (.mcall 0 "Run" "given" 'a' #v[.ix 'g' 'A']))^OG
def OI:ISs:=(.for_ (.nm 6) (.seq 'd') OH)^OF
def Zcx:ISs:=(.ret (.bl wg))^iN
def OJ:ISs:=(.ite (.cmp .NotEq (.tup #v[.mcall 1 "Run" "number" 'a' #v['f'],.mcall 3 "Run" "words" 'a' #v['f']]) (.tup #v[.ix (.ix 'b' 'A') 'f',.ix (.ix 'b' 'B') 'f'])) Zcx iN)^iN
def OK:ISs:=(.set 5 (.ix 'e' 'A'))^OJ
def OL:ISs:=(.for_ (.nm 4) (.seq 'c') OK)^OI
def Zcv:ISs:=(.ret (.tup #v[.non,.non]))^iN
def OM:ISs:=(.ret (.tup #v[.tup #v[.str "wait",.ix 'd' 'A'],.ix (.lst #v[.ix 'd' 'B',.ix 'd' 'C']) (.bi .int (.cmp .Eq (.ix 'd' 'B') (.ix 'a' 'A')) .nil)]))^iN
def ON:ISs:=(.ite (.cmp .Eq (.ix 'd' 'A') (.ix (.ix (.ix 'a' 'C') 'b') 'B')) OM iN)^iN
def OO:ISs:=(.for_ (.nm 3) (.seq 'c') ON)^Zcv
def OP:ISs:=(.ret (.tup #v[.tup #v[.str "done"],.non]))^iN
def OQ:ISs:=(.ite (.cmp .Eq 'b' (.bi .len (.ix 'a' 'C') .nil)) OP iN)^OO
def EQ:ISs:=(.ret (.and (.bi .isinst 'a' #v[.ty .list]) (.cmp .Eq 'a' 'd')))^iN
def OR:ISs:=(.expr (.mt .append 'd' #v[.ix (.ix 'c' (.ix 'd' (.neg 'B'))) 'B']))^iN
def OS:ISs:=(.while_ (.and (.cmp .NotIn (.ix 'd' (.neg 'B')) (.sl 'd' .none (.some (.neg 'B')))) (.cmp .IsNot (.ix (.ix 'c' (.ix 'd' (.neg 'B'))) 'B') .non)) OR)^EQ
def OT:ISs:=(.set 3 (.lst #v['b']))^OS
def OU:ISs:=(.ret (.call 0 'n' #v['f','c','d']))^iN
def Znj:ISs:=(.ret (.bl wg))^iN
def OV:ISs:=(.ite (.cmp .NotEq (.comp ["name"] [17,4,5] (.seq 'm') (.nm 0) (.some (.not (.call 1 (.call 6 'c' #v['d','a']) #v['a','b']))) 'a') (.lst .nil)) Znj iN)^OU
def Znk:ISs:=(.ret (.bl wg))^iN
def OW:ISs:=(.ite (.cmp .NotEq (.ix (.mcall 11 "Run" "ring" 'n' #v['q','t']) 'C') (.ix (.ix 'r' 'q') 'A')) Znk iN)^iN
def OX:ISs:=(.for_ (.tup #v[.nm 16,.nm 19]) (.seq (.call 2 (.sl (.bin .Mult 'l' 'K') .none (.some 'K')) #v['c'])) OW)^OV
def OY:ISs:=(.put 'r' (.ix 's' 'A') (.call 5 's' #v[.ix (.ix 'f' 'A') (.ix 's' 'A'),'d']))^iN
def OZ:ISs:=(.for_ (.nm 18) (.seq 'c') OY)^OX
def P0:ISs:=(.set 17 .dic)^OZ
def Znl:ISs:=(.ret (.bl wg))^iN
def P1:ISs:=(.ite (.not (.call 0 'n' #v['f','c','d'])) Znl iN)^P0
def P2:ISs:=(.expr (.mcall 11 "Run" "ring" 'n' #v['q',.bin .Mod (.bin .FloorDiv 'p' 'Y') (.bin .Pow 'K' (.int 30))]))^iN
def P3:ISs:=(.for_ (.nm 16) (.seq (.call 3 'm' #v[.bin .Mod 'p' (.bin .Pow 'K' 'G')])) P2)^iN
def P4:ISs:=(.set 15 (.ix 'l' (.bin .Mod 'o' (.bi .len 'l' .nil))))^P3
def P5:ISs:=(.for_ (.nm 14) (.rng (.bin .Mult 'j' 'g')) P4)^P1
def P6:ISs:=(.set 13 (.make 10 "Run" 'e' .nil))^P5
def P7:ISs:=(.set 12 (.comp ["island"] [] (.seq 'c') (.nm 0) .none (.ix 'a' 'A')))^P6
def P8:ISs:=(.set 11 (.bin .Add (.sl 'a' (.some 'K') (.some (.int 90))) (.lst #v['A'])))^P7
def P9:ISs:=(.set 9 (.bi .max 'j' #v[.bin .Add 'C' (.ix 'k' 'E')]))^iN
def Pa:ISs:=(.for_ (.nm 10) (.seq 'd') P9)^P8
def Pb:ISs:=(.set 9 'C')^Pa
def Pc:ISs:=(.ret (.bl wf))^iN
def ER:ISs:=(.ite (.cmp .NotEq 'i' (.lst .nil)) Pc iN)^Pb
def Pd:ISs:=(.asg #v[.nm 7,.nm 8] (.call 9 'e' #v['f']))^iN
def Pe:ISs:=(.set 5 'h')^Pd
def Pf:ISs:=(.set 6 (.bin .Add 'g' 'B'))^Pe
def Pg:ISs:=(.while_ (.and (.cmp .Lt 'g' 'M') (.cmp .NotEq 'i' (.lst .nil))) Pf)^ER
def Ph:ISs:=(.asg #v[.nm 7,.nm 8] (.call 9 'e' #v['f']))^Pg
def Pi:ISs:=(.set 6 'A')^Ph
def Pj:ISs:=(.set 5 (.call 7 'e' .nil))^Pi
def Pk:ISs:=(.set 4 (.call 8 'b' #v[.bi .list 'c' .nil,.bi .list 'd' .nil]))^Pj
def Pl:ISs:=(.asg #v[.nm 1,.nm 2,.nm 3] (.call 4 'a' #v['B']))^Pk
def szl:sizeLine=16777216:=by decide
def na10:Int.natAbs 10=10:=rfl
def at0{j:Type}{x:j}{l:List j}:atI (x::l) 0=wc x:=by unfold atI ixN;simp
def at1{l:Type}{x y:l}{u:List l}:atI (x::y::u) 1=wc y:=Yn (j:=1) (by rfl)
def at2{l:Type}{x y z:l}{u:List l}:atI (x::y::z::u) 2=wc z:=Yn (j:=2) (by rfl)
def at3{l:Type}{x y z u:l}{w:List l}:atI (x::y::z::u::w) 3=wc u:=Yn (j:=3) (by rfl)
def at4{l:Type}{x y z u v:l}{w:List l}:atI (x::y::z::u::v::w) 4=wc v:=Yn (j:=4) (by rfl)
def _p{a b:String}:(VQ a=VQ b)↔a=b:=by
 constructor
 .intro h;rw[Str.ofString_eq_toList,Str.ofString_eq_toList]at h;have u:a.toList.map BO=b.toList.map BO:=by
   have:=congrArg (λs:Str=>s.cps.toList) h
   simpa using this
  have inj:∀(l j:List Char),l.map BO=j.map BO->l=j:=by
   intro l
   induction l with
   |nil=>
    intro j e;cases j with
    |nil=>rfl
    |cons _ _=>cases e
   |cons x r w=>
    intro j e;cases j with
    |nil=>cases e
    |cons y s=>
     rw[Xz,Xz]at e;injection e with e1 e2;rw[w s e2,Char.toNat_inj.mp e1]
  erw[String.toList_inj.mp (inj _ _ u)]
 .intro h;rw[h]
def XY{c A B:Prop} [Decidable c] (j:c->A)(l:¬c->B):if c then A else B:=by
 split
 .erw[j ‹_›]
 .erw[l ‹_›]
def _nq{a:Str}{b:SpM}{R:SpM->Prop}:(∃f j,(a=f/\b=j)/\R j)↔R b:=⟨λl=>by have⟨_,_,⟨_,e⟩,h⟩:=l;erw[e▸h],λh=>⟨a,b,⟨rfl,rfl⟩,h⟩⟩
def isN0:ZJ .non=wf:=rfl
def isN2{b:Int}:ZJ (.int b)=wg:=rfl
def isN3{b:Str}:ZJ (.str b)=wg:=rfl
def isN4{b:List MV}:ZJ (.tup b)=wg:=rfl
local macro_rules|`(tactic|walk_at "s")=>do
 let a<-("seval szl na10 Nat.zero_add Nat.reduceAdd Nat.zero_le at0 at1 at2 at3 at4 _p _nq X9 _qe US _qc Vq _qi _qd Jp _oc _qf _qg _lS v_s b_0 f_s _rn _ru _rp e_bl _rr _rw e_ty _rB _rs _rq _rz _rA _rC e_or _rv _ro _rt _ry e_ix e_sl _pS e_bi e_b2 e_mt _rx _ns _pR _pQ _nr _pk _pj _qx _qu _qw _qv isN0 isN2 isN3 isN4 isTy _r5 _qy _qS _oL _qT _qJ _r3 _qm _oP _oy _oO _ox _oQ q_lt q_le _qU q_gt _r1 _qR _qZ _qP q_is _m8 _oz _oJ _m7 _qA _r0 _qQ _qO q_in _qN Jk Jl _m6 _m5 Jn _qW _qV _qD _os _qE _qC _oC _oF _oD _oE _m4 _qX _oI _qq _qo _qn _qp _oo _m2 _m3 _op _oM _m9 _ma _r4 _r2 _oN _qY _ow _ov _ou _qI _ot _m1 _qF _qB _oq _or _qt _qs _qr _qM _qL _qK _qz _qG _qH _oB _oA _oK WT CMul CPow List.getElem?_cons_zero List.getElem?_cons_succ Option.some.injEq MV.int.injEq MV.bl.injEq MV.tup.injEq MV.ref.injEq MO.lst.injEq MO.dic.injEq MO.ins.injEq Prod.mk.injEq exists_eq_left' exists_eq_left exists_and_left true_and and_true false_and and_false true_or or_true false_or or_false reduceCtorEq ne_eq not_false_eq_true not_true_eq_false List.set_cons_zero List.set_cons_succ decide_eq_true_eq Bool.not_eq_true' decide_eq_false_iff_not if_true if_false Bool.false_eq_true reduceIte List.length_cons List.length_nil and_self String.reduceEq String.reduceNe Int.reduceLT Int.reduceLE Int.reducePow Int.reduceNeg Int.reduceToNat Int.reduceSub Int.reduceAdd Int.reduceMul Nat.reduceLT Nat.reducePow Nat.reduceLeDiff".splitOn " ").toArray.mapM λs=>`(Lean.Parser.Tactic.simpLemma|$(Lean.mkIdent s.toName):term)
 `(tactic|simp only[$[$a:simpLemma],*])
local macro_rules|`(tactic|simp!)=>`(tactic|walk_at "s")
local macro_rules|`(tactic|simp! [$l,*])=>do
 let some s<-Lean.Macro.expandMacro? (<-`(tactic|walk_at "s"))|Lean.Macro.throwUnsupported
 match s with
 |`(tactic|simp only[$a,*])=>`(tactic|simp only[$a,*,$l,*])
 |_=>Lean.Macro.throwUnsupported
def _np{j:Sort _}{p q:j->Prop}(h:∀a,p a->q a):(∃a,p a)->∃a,q a:=fun⟨a,x⟩=>⟨a,h a x⟩
def _kJ{a b c:Prop}(h:b->c):a/\b->a/\c:=λx=>⟨x.1,h x.2⟩
def _jj{a b c d:Prop}(h:a->c)(g:b->d):a/\b->c/\d:=λx=>⟨h x.1,g x.2⟩
def _ms{a b c d:Prop}(h:a->c)(g:b->d):a\/b->c\/d:=λx=>x.elim (λy=>.inl (h y)) λy=>.inr (g y)
def _kL{j:Sort _}{p q:j->Prop}(h:∀a,p a->q a):(∀a,p a)->∀a,q a:=λx a=>h a (x a)
local macro_rules | `(tactic| walk_at "m") => `(tactic| (intro vs M Q Q' hq; repeat (first | exact hq _ _ | exact id | refine _np fun _ => ?_ | refine _kJ ?_ | refine _jj ?_ ?_ | refine _kL fun _ => ?_ | refine _ms ?_ ?_)))
def SameM(M j:MH):Prop:=∀a o,M a=wc o->j a=wc o
def SameM.refl(M:MH):SameM M M:=λ_ _ h=>h
def SameM.trans{M M1 M2:MH}(a:SameM M M1)(b:SameM M1 M2):SameM M M2:=λc o h=>b c o (a c o h)
def neM{M:MH}{a p:Addr}{o:MO}(h:M a=wc o)(j:M p=we):a≠p:=by intro e;subst e;rw[h]at j;cases j
def SameM.new{M:MH}{p:Addr}(h:M p=we)(o:MO):SameM M (updM M p o):=λa u e=>by rw[X7 (neM e h)];erw[e]
def SameM.free{M M':MH}(s:SameM M M'){p:Addr}(h:M' p=we):M p=we:=by
 cases e:M p with
 |none=>rfl
 |some o=>rw[s _ _ e]at h;cases h
def SameM.upd{M M':MH}(s:SameM M M'){p:Addr}(h:M p=we)(o:MO):SameM M (updM M' p o):=λa u e=>by rw[X7 (neM e h)];erw[s a u e]
def Wg{lo:Int}{n i:Nat}{x:MV}(h:(Src.rng lo n).items[i]?=wc x):i<n/\x=.int (lo+(i:Nat)):=by
 have j:=(Xo.mp h).1;rw[Src.items_len]at j;erw[⟨j,?_⟩];have l:((Xq n).map λi=>MV.int (lo+(i:Nat)))[i]?=wc x:=h;rw[Xe,X6 (by simpa using(show i<n from j))]at l
 simpa using l.symm
def Yj{u:Type}{f:u->MV}{l:List u}{i:Nat}{x:MV}(h:(l.map f)[i]?=wc x):∃j:i<l.length,x=f l[i]:=by
 have j:=(Xo.mp h).1;rw[X5]at j;erw[⟨j,?_⟩];rw[Xe,X6 j]at h;erw[(Y2 h).symm]
def U1{u:List (Str×SpM)}(w:∀p∈u,MonW p.2):∀(j:Nat)f l,u[j]?=wc (f,l)->MonW l:=λj f l h=>w (f,l) (Xb h)
def Pm(j:List MV)(k:Nat):cutM j we (wc (k:Int))=j.take k:=by
 unfold cutM;rw[HT.sIx_none,HT.sIx_nat];simp
def _gw(j:List MV)(k:Nat):cutM j (wc (k:Int)) we=j.drop k:=by
 unfold cutM;rw[HT.sIx_none,HT.sIx_nat];by_cases h:k<=j.length
 .rw[Nat.min_eq_left h,V7 (by rw[B7];erw[Xa _])]
 .rw[Nat.min_eq_right (by lia),FV (Xa _),FV (by lia)]
  simp
theorem Ci{w:Type} [DecidableEq w] (k:w)(v:MV)(j:w):∀l:List (w×MV),valM (putM l k v) j=if j=k then wc v else valM l j
 |[]=>by
  unfold putM valM;by_cases e:k=j
  .rw[if_pos e,if_pos e.symm]
  .rw[if_neg e,if_neg (λz=>e z.symm)]
   rfl
 |(i,u)::r=>by
  unfold putM;by_cases e:i=k
  .rw[if_pos e];subst e;unfold valM;by_cases f:i=j
   .rw[if_pos f,if_pos f.symm]
   .rw[if_neg f,if_neg (λz=>f z.symm),if_neg f]
  .rw[if_neg e];unfold valM;by_cases f:i=j
   .rw[if_pos f,if_neg (λz=>e (f.trans z)),if_pos f]
   .rw[if_neg f,Ci k v j r,if_neg f]
inductive Form where|plus|minus|times|less|same
noncomputable def Form.str:Form->Str
 |.plus=>"plus"|.minus=>"minus"|.times=>"times"|.less=>"less"|.same=>"same"
inductive Tm where
 |num (n:Int)|var (x:Str)|two (f:Form)(a b:Tm)|pick (c a b:Tm)
noncomputable def Tm.depth:Tm->Nat
 |.num _=>1|.var _=>1|.two _ a b=>1+max a.depth b.depth|.pick c a b=>1+max c.depth (max a.depth b.depth)
noncomputable def Tm.size:Tm->Nat
 |.num _=>1|.var _=>1|.two _ a b=>1+(a.size+b.size)|.pick c a b=>1+(c.size+(a.size+b.size))
noncomputable def Tm.reads:Tm->List Str
 |.num _=>[]|.var x=>[x]|.two _ a b=>a.reads++b.reads|.pick c a b=>c.reads++(a.reads++b.reads)
noncomputable def twoV(w:Nat)(l r:Int):Form->Int
 |.plus=>(l+r)%2^w
 |.minus=>(l - r)%2^w
 |.times=>(l*r)%2^w
 |.less=>if l<r then 1 else 0
 |.same=>if l=r then 1 else 0
def Tm.val(ρ:Str->Int)(w:Nat):Tm->Int
 |.num n=>n%2^w
 |.var x=>ρ x
 |.two f a b=>twoV w (a.val ρ w) (b.val ρ w) f
 |.pick c a b=>if c.val ρ w≠0 then a.val ρ w else b.val ρ w
def Ao(w:Nat):(0:Int)<2^w:=Int.pow_pos (by decide)
def Pn{w:Nat}(h:1<=w):(2:Int)<=2^w:=by
 obtain⟨k,rfl⟩:∃k,w=k+1:=⟨w - 1,by lia⟩
 rw[Int.pow_succ];have:=Ao k;lia
def Po{w:Nat}(h:w<=64):(2:Int)^w<=2^64:=by
 have:=Bk (n:=2) (by decide) h
 have j:(2:Int)^w=((2^w:Nat):Int):=by rw[Vi];rfl
 have l:(2:Int)^64=((2^64:Nat):Int):=by decide
 rw[j,l];erw[WG.mpr this]
def Cj(x:Int)(w:Nat):0<=x%2^w/\x%2^w<2^w:=⟨Z9 _ (Int.ne_of_gt (Ao w)),ZW _ (Ao w)⟩
def twoV_in{w:Nat}(hw:1<=w)(l r:Int)(f:Form):0<=twoV w l r f/\twoV w l r f<2^w:=by
 have:=Pn hw;cases f
 .erw[Cj _ _]
 .erw[Cj _ _]
 .erw[Cj _ _]
 .unfold twoV;split<;>lia
 .unfold twoV;split<;>lia
theorem Tm.val_in{j:Str->Int}{w:Nat}(hw:1<=w):∀{T:Tm},(∀x∈T.reads,0<=j x/\j x<2^w)->0<=T.val j w/\T.val j w<2^w
 |.num n,_=>Cj _ _
 |.var x,h=>h x (by simp[Tm.reads])
 |.two f a b,_=>twoV_in hw _ _ f
 |.pick c a b,h=>by
  unfold Tm.val;split
  .erw[a.val_in hw λx l=>h x (by simp[Tm.reads,l])]
  .erw[b.val_in hw λx l=>h x (by simp[Tm.reads,l])]
def Tm.depth_pos:∀T:Tm,1<=T.depth
 |.num _=>Xa _
 |.var _=>Xa _
 |.two _ _ _=>UJ _ _
 |.pick _ _ _=>UJ _ _
noncomputable def Tm.mv:Tm->MV
 |.num n=>.tup [.str "num",.int n]
 |.var x=>.tup [.str "var",.str x]
 |.two f a b=>.tup [.str f.str,a.mv,b.mv]
 |.pick c a b=>.tup [.str "pick",c.mv,a.mv,b.mv]
def Pp(f:Form):¬f.str="num":=by cases f<;>decide+kernel
def ES(f:Form):¬f.str="var":=by cases f<;>decide+kernel
def _iK(f:Form):¬f.str="pick":=by cases f<;>decide+kernel
inductive Stp where
 |take (f x:Str)|give (f:Str)(T:Tm)|put (x:Str)(T:Tm)|jump (T:Tm)(i:Int)
noncomputable def Stp.mv:Stp->MV
 |.take f x=>.tup [.str "take",.str f,.str x]
 |.give f T=>.tup [.str "give",.str f,T.mv]
 |.put x T=>.tup [.str "put",.str x,T.mv]
 |.jump T i=>.tup [.str "jump",T.mv,.int i]
def tmOk(j:List Str)(T:Tm):Prop:=T.depth<=8/\T.size<=30/\∀x∈T.reads,x∈j
def Stp.ok(j:List Str)(n:Nat):Stp->Prop
 |.take _ x=>x∈j
 |.give _ T=>tmOk j T
 |.put x T=>x∈j/\tmOk j T
 |.jump T i=>tmOk j T/\0<=i/\i<=n
def Ck(M:MH)(x:MV)(j:List MV):Prop:=x=.tup j\/∃a,x=.ref a/\M a=wc (.lst j)
def readsOk(u:List Str)(j:List (Key×MV))(l:Str->Int)(w:Nat):Prop:=∀x∈u,valM j (Xn x)=wc (.int (l x))/\0<=l x/\l x<2^w
def readsOk.tm{u:List Str}{j:List (Key×MV)}{l:Str->Int}{w:Nat}(h:readsOk u j l w){T:Tm}(o:tmOk u T):∀x∈T.reads,valM j (Xn x)=wc (.int (l x))/\0<=l x/\l x<2^w:=λx y=>h x (o.2.2 x y)
section
variable{E:En}
abbrev UT:SpM:=λj M Q=>∃k:Nat,j=[.int k]/\k<=64/\Q (.int (2^k)) M
def _cn:MonW UT:=by walk_at "m"
def Ap(T:Txt E):FO E 1 "two_to" UT:=by
 erw[T.aJ.ok T.g _cn 1 ["exponent","answer","k"] (fC T f0) Jw (fun w M Q h=>?_)];have⟨k,rfl,y,q⟩:=h;erw[⟨rfl,?_⟩];show wSs _ _ _ [wc (.int k),we,we] M;delta Jw;simp!;delta Jv;simp!;erw[⟨by lia,by lia,λi j l=>l=M/\∃v,j=[wc (.int k),wc (.int (2^i)),v],⟨rfl,_,rfl⟩,λ_ _ _ _=>trivial,?_,?_⟩]
 .rintro i x j l u ⟨rfl,v,rfl⟩;have⟨z,rfl⟩:=Wg u;delta Ju;simp!;erw[⟨_,by rw[Int.pow_succ]⟩]
 .rintro j l ⟨rfl,v,rfl⟩;delta Jt;simp!;erw[q]
abbrev Pq:SpM:=λj M Q=>∃(w:Nat) (n:Int),j=[.int w,.int n]/\w<=64/\Q (.int (n%2^w)) M
def _ga:MonW Pq:=by walk_at "m"
def Pr(T:Txt E):FO E 2 "cut" Pq:=by
 erw[T.bB.ok T.g _ga 2 ["width","number"] (fC T (fc (Ap T) f0)) Jy (fun l M Q h=>?_)];have⟨w,n,rfl,j,q⟩:=h;erw[⟨rfl,?_⟩];show wSs _ _ _ [wc (.int w),wc (.int n)] M;delta Jy;simp!;erw[⟨w,rfl,j,Ao w,q⟩]
abbrev Ps:SpM:=λj M Q=>∃(f:Form) (l r:Int) (w:Nat),j=[.str f.str,.int l,.int r,.int w]/\w<=64/\(-(2^64)<l/\l<2^64)/\Q (.int (twoV w l r f)) M
def _65:MonW Ps:=by walk_at "m"
def _9w(T:Txt E):FO E 3 "worth_of_two" Ps:=by
 erw[T.aX.ok T.g _65 4 ["form","left","right","width"] (fC T (fc (Pr T) f0)) Kz (fun y M Q h=>?_)];have⟨f,l,r,w,rfl,j,u,q⟩:=h;erw[⟨rfl,?_⟩];show wSs _ _ _ [wc (.str f.str),wc (.int l),wc (.int r),wc (.int w)] M;delta Kz;simp!;cases f with
 |plus=>
  rw[if_pos (by rfl),Ky]
  simp!;erw[⟨w,_,rfl,j,q⟩]
 |minus=>
  rw[if_neg (by decide+kernel),Ah]
  simp!;rw[if_pos (by rfl),Kx]
  simp!;erw[⟨w,_,rfl,j,q⟩]
 |times=>
  rw[if_neg (by decide+kernel),Ah]
  simp!;rw[if_neg (by decide+kernel),Cd]
  simp!;rw[if_pos (by rfl),Kw]
  simp!;erw[⟨.inl u,w,_,rfl,j,q⟩]
 |less=>
  rw[if_neg (by decide+kernel),Ah]
  simp!;rw[if_neg (by decide+kernel),Cd]
  simp!;rw[if_neg (by decide+kernel),Eh]
  simp!;rw[if_pos (by rfl),Kv]
  simp!;unfold twoV at q;split<;>simp_all
 |same=>
  rw[if_neg (by decide+kernel),Ah]
  simp!;rw[if_neg (by decide+kernel),Cd]
  simp!;rw[if_neg (by decide+kernel),Eh]
  simp!;rw[if_neg (by decide+kernel),Ku]
  simp!;unfold twoV at q;split<;>simp_all
abbrev Cm(n:Nat):SpM:=λu M Q=>∃(T:Tm) (w:Nat) (d:Addr) (j:List (Key×MV)) (l:Str->Int),u=[T.mv,.int w,.ref d]/\T.depth<=n/\1<=w/\w<=64/\M d=wc (.dic j)/\
 (∀x∈T.reads,valM j (Xn x)=wc (.int (l x))/\0<=l x/\l x<2^w)/\Q (.int (T.val l w)) M
def _dn(n:Nat):MonW (Cm n):=by walk_at "m"
theorem Cn(T:Txt E):∀n:Nat,FO E (n+3) "worth" (Cm n)
 |0=>by
  have B:∀Y M Q,¬Cm 0 Y M Q:=λY M Q h=>by
   have⟨T,w,d,u,j,_,W,_⟩:=h;have:=T.depth_pos;lia
  erw[T.aw.nn T.g ["T","width","words"] B]
 |n+1=>by
  have C:=Cn T n;erw[T.aw.ok T.g (_dn _) 3 ["T","width","words","first"] (fC T (fc (Pr T) (fc C (fc (_9w T) f0 (by lia)) (Xa _)) (by lia))) Ek (fun Y M Q h=>?_) (hc:=_kA)]
  have⟨U,w,d,u,j,rfl,R,y,p,hd,P,q⟩:=h;erw[⟨rfl,?_⟩];show wSs _ _ _ [wc U.mv,wc (.int w),wc (.ref d),we] M;have D:=Po p;delta Ek;cases U with
  |num m=>
   simp only[Tm.mv];simp!;delta KD;simp!;erw[⟨w,m,rfl,p,q⟩]
  |var x=>
   have F:=(P x (by simp[Tm.reads])).1
   simp only[Tm.mv];simp!;delta Ce;simp!;delta KC;simp!;simp only[hd];simp!;erw[⟨_,F,q⟩]
  |two f l r=>
   have L:l.depth<=n:=by unfold Tm.depth at R;lia
   have N:r.depth<=n:=by unfold Tm.depth at R;lia
   have g:∀x∈l.reads,valM u (Xn x)=wc (.int (j x))/\0<=j x/\j x<2^w:=λx z=>P x (by simp[Tm.reads,z])
   have O:∀x∈r.reads,valM u (Xn x)=wc (.int (j x))/\0<=j x/\j x<2^w:=λx z=>P x (by simp[Tm.reads,z])
   have G:=l.val_in y λx z=>(g x z).2;simp only[Tm.mv];simp!;rw[if_neg (Pp f),Ce];simp!;rw[if_neg (ES f),Ej];simp!;erw[ex5 l w d u j ⟨rfl,L,y,p,hd,g,?_⟩];delta Ei;simp!;rw[if_neg (_iK f),KA];simp!;erw[ex5 r w d u j ⟨rfl,N,y,p,hd,O,f,_,_,w,rfl,p,⟨by lia,by lia⟩,q⟩]
  |pick c l r=>
   have Z:c.depth<=n:=by unfold Tm.depth at R;lia
   have L:l.depth<=n:=by unfold Tm.depth at R;lia
   have N:r.depth<=n:=by unfold Tm.depth at R;lia
   have A:∀x∈c.reads,valM u (Xn x)=wc (.int (j x))/\0<=j x/\j x<2^w:=λx z=>P x (by simp[Tm.reads,z])
   have g:∀x∈l.reads,valM u (Xn x)=wc (.int (j x))/\0<=j x/\j x<2^w:=λx z=>P x (by simp[Tm.reads,z])
   have O:∀x∈r.reads,valM u (Xn x)=wc (.int (j x))/\0<=j x/\j x<2^w:=λx z=>P x (by simp[Tm.reads,z])
   simp only[Tm.mv];simp!;delta Ce;simp!;delta Ej;simp!;erw[ex5 c w d u j ⟨rfl,Z,y,p,hd,A,?_⟩];delta Ei;simp!;delta KB;simp!;erw[XY (λW=>?_) (λW=>?_)]
   .have e:Tm.val j w (.pick c l r)=l.val j w:=if_pos W;rw[e]at q;erw[ex5 l w d u j ⟨rfl,L,y,p,hd,g,q⟩]
   .have e:Tm.val j w (.pick c l r)=r.val j w:=if_neg W;rw[e]at q;erw[ex5 r w d u j ⟨rfl,N,y,p,hd,O,q⟩]
noncomputable def dueM(j:List Stp)(l:Str->Int)(w:Nat)(i:Nat):MV:=match j[i]? with
 |we=>.non
 |wc (.take f _)=>.tup [.str "take",.str f]
 |wc (.give f T)=>.tup [.str "give",.str f,.int (T.val l w)]
 |wc _=>.tup [.str "own"]
abbrev Vr:SpM:=λm M Q=>∃(x:MV) (u:Addr) (j:List Stp) (i w:Nat) (l:List (Key×MV)) (y:Str->Int) (z:List Str),m=[.int w,x,.int i,.ref u]/\Ck M x (j.map Stp.mv)/\(∀s∈j,s.ok z j.length)/\i<=j.length/\1<=w/\w<=64/\M u=wc (.dic l)/\readsOk z l y w/\
 Q (dueM j y w i) M
def _ep:MonW Vr:=by walk_at "m"
def Pt(T:Txt E):FO E 50 "wish" Vr:=by
 erw[T.aY.ok T.g _ep 4 ["width","steps","number","words","step"] (fC T (fc (Cn T 40) f0)) KG (fun Z M Q h=>?_)];have⟨x,m,u,i,w,g,z,A,rfl,O,d,B,r,p,e,P,q⟩:=h;erw[⟨rfl,?_⟩];show wSs _ _ _ [wc (.int w),wc x,wc (.int i),wc (.ref m),we] M;delta KG;have len:∀R:Prop,R->R:=λ_ h=>h;have rest:∀l:i<u.length,wSs [("worth",Cm 40)] Em {nx:=fun x W=>Q MV.non W,rt:=Q} [wc (.int w),wc x,wc (.int i),wc (.ref m),wc u[i].mv] M:=by
  intro l;have ok:=d u[i] (XS _);have Y:dueM u z w i=dueM [u[i]] z w 0:=by unfold dueM;rw[X6 l];rfl
  rw[Y]at q;obtain⟨s,L⟩:∃s,u[i]=s:=⟨_,rfl⟩;rw[L]at ok q;rw[L];delta Em;cases s with
  |take f x=>
   simp only[Stp.mv];simp!;delta KF;simp!;erw[q]
  |give f U=>
   simp only[Stp.mv];simp!;delta Cf;simp!;delta KE;simp!;erw[ex5 U w m g z ⟨rfl,Xy ok.1 (by decide),r,p,e,P.tm ok,q⟩]
  |put x U=>
   simp only[Stp.mv];simp!;delta Cf;simp!;delta El;simp!;erw[q]
  |jump U j=>
   simp only[Stp.mv];simp!;delta Cf;simp!;delta El;simp!;erw[q]
 have N:¬i<u.length->dueM u z w i=.non:=λc=>by unfold dueM;rw[CZ.mpr (by lia)]
 rcases O with rfl|⟨C,rfl,y⟩
 .simp!;rw[X5];erw[XY (λc=>?_) (λc=>?_)]
  .delta Ep;simp!;rw[<-N (by lia)]
   erw[q]
  have l:i<u.length:=by lia
  delta Eo;simp!;erw[⟨_,Yn (by rw[Xe,X6 l];rfl),rest l⟩]
 .simp![y]
  rw[X5];erw[XY (λc=>?_) (λc=>?_)]
  .delta Ep;simp!;rw[<-N (by lia)]
   erw[q]
  have l:i<u.length:=by lia
  delta Eo
  simp![y]
  erw[⟨_,Yn (by rw[Xe,X6 l];rfl),rest l⟩]
noncomputable def XZ(s:Stp)(l:Str->Int)(w i:Nat):Int:=match s with
 |.jump T j=>if T.val l w≠0 then j else(i:Int)+1
 |_=>(i:Int)+1
def YD(s:Stp)(j:List (Key×MV))(l:Str->Int)(w:Nat)(u:MV):List (Key×MV):=match s with
 |.take _ x=>putM j (Xn x) u
 |.put x T=>putM j (Xn x) (.int (T.val l w))
 |_=>j
abbrev Pu:SpM:=λm M Q=>∃(x:MV) (u:Addr) (l:List Stp) (i w:Nat) (j:List (Key×MV)) (y:Str->Int) (z:List Str) (s:Stp),m=[.int w,x,.int i,.ref u]/\Ck M x (l.map Stp.mv)/\l[i]?=wc s/\s.ok z l.length/\1<=w/\w<=64/\M u=wc (.dic j)/\readsOk z j y w/\
 Q (.int (XZ s y w i)) M
def _67:MonW Pu:=by walk_at "m"
def Pv{M:MH}{x:MV}{l:List Stp}{i:Nat}{s:Stp}{Q:QM}(u:Ck M x (l.map Stp.mv))(w:l[i]?=wc s)(q:Q s.mv M):wIx x (.int i) M Q:=by
 have j:atI (l.map Stp.mv) (i:Int)=wc s.mv:=Yn (by rw[Xe,w];rfl)
 rcases u with rfl|⟨a,rfl,h⟩
 .rw[Jn];erw[⟨_,j,q⟩]
 .rw[Jk,h,Jl];erw[⟨_,j,q⟩]
def _9y(T:Txt E):FO E 50 "number_after" Pu:=by
 erw[T.bV.ok T.g _67 4 ["width","steps","number","words","step"] (fC T (fc (Cn T 40) f0)) KJ (fun L M Q h=>?_)];have⟨x,g,N,i,w,l,u,O,s,rfl,d,r,ok,y,z,m,p,q⟩:=h;erw[⟨rfl,?_⟩];show wSs _ _ _ [wc (.int w),wc x,wc (.int i),wc (.ref g),we] M;delta KJ;simp!;erw[Pv d r ?_];delta KI;cases s with
 |take f x=>
  simp only[Stp.mv];simp!;delta Ai;simp!;erw[q]
 |give f U=>
  simp only[Stp.mv];simp!;delta Ai;simp!;erw[q]
 |put x U=>
  simp only[Stp.mv];simp!;delta Ai;simp!;erw[q]
 |jump U j=>
  simp only[Stp.mv];simp!;erw[ex5 U w g l u ⟨rfl,Xy ok.1.1 (by decide),y,z,m,p.tm ok.1,?_⟩]
  simp!;erw[XY (λc=>?_) (λc=>?_)]
  .have e:XZ (.jump U j) u w i=j:=if_pos c;rw[e]at q;delta KH;simp!;erw[q]
  .have e:XZ (.jump U j) u w i=(i:Int)+1:=if_neg c;rw[e]at q;delta Ai;simp!;erw[q]
abbrev Pw:SpM:=λm M Q=>∃(l:Addr) (w:Nat) (j:List (Key×MV)) (u:Str->Int) (y:List Str) (s:Stp) (k:Nat) (z:MV),m=[.int w,s.mv,.ref l,z]/\s.ok y k/\1<=w/\w<=64/\M l=wc (.dic j)/\j.length<=1000/\readsOk y j u w/\
 ∀p,M p=we->Q (.ref p) (updM M p (.dic (YD s j u w z)))
def _6w:MonW Pw:=by walk_at "m"
def _aD(T:Txt E):FO E 50 "words_after" Pw:=by
 erw[T.bp.ok T.g _6w 4 ["width","step","words","word","behind"] (fC T (fc (Cn T 40) f0)) KO (fun O M Q h=>?_)];have⟨g,w,l,c,P,s,k,r,rfl,ok,z,m,u,e,L,q⟩:=h;erw[⟨rfl,?_⟩];show wSs _ _ _ [wc (.int w),wc s.mv,wc (.ref g),wc r,we] M;delta KO
 simp![u]
 intro p d;have y:=SameM.new d (.dic l) _ _ u;have N:updM M p (.dic l) p=wc (.dic l):=X9;have q:=q p d;delta KN;cases s with
 |take f x=>
  simp only[Stp.mv];simp!;delta KM;simp!;erw[⟨by lia,?_⟩]
  rw[YI];delta Ak;simp!;delta Aj;simp!;erw[q]
 |give f U=>
  simp only[Stp.mv];simp!;delta Ak;simp!;delta Aj;simp!;erw[q]
 |put x U=>
  simp only[Stp.mv];simp!;delta Ak;simp!;delta KL;simp!;erw[ex5 U w g l c ⟨rfl,Xy ok.2.1 (by decide),z,m,y,L.tm ok.2,?_⟩]
  simp!;erw[⟨by lia,?_⟩]
  rw[YI];delta Aj;simp!;erw[q]
 |jump U j=>
  simp only[Stp.mv];simp!;delta Ak;simp!;delta Aj;simp!;erw[q]
abbrev ET:SpM:=λg M Q=>∃(x:MV) (y:Addr) (l:List Stp) (i w:Nat) (j:List (Key×MV)) (u:Str->Int) (z:List Str) (s:Stp) (m:MV),g=[.int w,x,.int i,.ref y,m]/\Ck M x (l.map Stp.mv)/\l[i]?=wc s/\s.ok z l.length/\1<=w/\w<=64/\M y=wc (.dic j)/\j.length<=1000/\readsOk z j u w/\
 ∀p,M p=we->Q (.tup [.int (XZ s u w i),.ref p]) (updM M p (.dic (YD s j u w m)))
def _dp:MonW ET:=by walk_at "m"
def Px(T:Txt E):FO E 51 "after" ET:=by
 erw[T.bh.ok T.g _dp 5 ["width","steps","number","words","word"] (fC T (fc (_9y T) (fc (_aD T) f0))) KP (fun O M Q h=>?_)];have⟨x,z,L,i,w,j,g,d,s,c,rfl,f,r,ok,l,u,y,m,e,q⟩:=h;erw[⟨rfl,?_⟩];show wSs _ _ _ [wc (.int w),wc x,wc (.int i),wc (.ref z),wc c] M;delta KP;simp!;erw[ex9 x z L i w j g d s ⟨rfl,f,r,ok,l,u,y,e,?_⟩];erw[Pv f r ?_];erw[ex8 z w j g d s _ c ⟨rfl,ok,l,u,y,m,e,λp N=>?_⟩];erw[q p N]
def szs(j:List Tm):Nat:=(j.map Tm.size).sum
def Py(a b:List Tm):szs (a++b)=szs a+szs b:=by unfold szs;rw[XI,List.sum_append]
def _lN(a:Tm):szs [a]=a.size:=by simp[szs]
theorem Pz{T:Tm}:∀{j:List Tm},T∈j->T.size<=szs j
 |U::j,h=>by
  have e:szs (U::j)=U.size+szs j:=by simp[szs]
  rcases Xk.mp h with z|z
  .subst z;lia
  .have:=Pz z;lia
noncomputable def Tm.kids:Tm->List Tm
 |.num _=>[]
 |.var _=>[]
 |.two _ a b=>[a,b]
 |.pick c a b=>[c,a,b]
def Tm.size_kids:∀T:Tm,T.size=1+szs T.kids
 |.num _=>rfl
 |.var _=>rfl
 |.two _ a b=>by simp[Tm.size,Tm.kids,szs]
 |.pick c a b=>by simp[Tm.size,Tm.kids,szs]
noncomputable def mxd(j:List Tm):Nat:=j.foldl (λa T=>max a T.depth) 0
def _mK(j:List Tm)(T:Tm):mxd (j++[T])=max (mxd j) T.depth:=by unfold mxd;rw[B5];rfl
def Tm.depth_kids:∀T:Tm,T.depth=mxd T.kids+1
 |.num _=>rfl
 |.var _=>rfl
 |.two _ a b=>by simp[Tm.depth,Tm.kids,mxd];lia
 |.pick c a b=>by simp[Tm.depth,Tm.kids,mxd];lia
def Tm.kid_depth{T U:Tm}(h:U∈T.kids):U.depth<T.depth:=by
 cases T<;>simp[Tm.kids]at h
 .rcases h with rfl|rfl<;>(simp only[Tm.depth];lia)
 .rcases h with rfl|rfl|rfl<;>(simp only[Tm.depth];lia)
def Tm.kid_size{T U:Tm}(h:U∈T.kids):U.size<T.size:=by
 rw[T.size_kids];have:=Pz h;lia
def rds(j:List Tm):List Str:=(j.map Tm.reads).flatten
def _lX(j:List Tm)(T:Tm):rds (j++[T])=rds j++T.reads:=by simp[rds]
def Tm.reads_kids:∀T:Tm,(∀x,T≠.var x)->T.reads=rds T.kids
 |.num _,_=>rfl
 |.var x,h=>absurd rfl (h x)
 |.two _ a b,_=>by simp[Tm.reads,Tm.kids,rds]
 |.pick c a b,_=>by simp[Tm.reads,Tm.kids,rds]
theorem Tm.reads_len:∀T:Tm,T.reads.length<=T.size
 |.num _=>by simp[Tm.reads]
 |.var _=>by simp[Tm.reads,Tm.size]
 |.two _ a b=>by
  have:=a.reads_len;have:=b.reads_len;simp[Tm.reads,Tm.size];lia
 |.pick c a b=>by
  have:=a.reads_len;have:=b.reads_len;have:=c.reads_len;simp[Tm.reads,Tm.size];lia
theorem PB:∀j:List Tm,(rds j).length<=szs j
 |[]=>Xa _
 |T::j=>by
  have:=PB j;have:=T.reads_len;have e:szs (T::j)=T.size+szs j:=by simp[szs]
  have l:rds (T::j)=T.reads++rds j:=by simp[rds]
  rw[e,l,XR];lia
def _jB(j:List Tm)(i:Nat):szs (j.take i)<=szs j:=by
 have l:=Py (j.take i) (j.drop i);rw[List.take_append_drop]at l;lia
def PC(x:MV)(j:List MV):cutM (x::j) (wc 1) we=j:=by
 have:=_gw (x::j) 1
 simpa using this
abbrev EU:SpM:=λj M Q=>∃T:Tm,j=[T.mv]/\∀p,M p=we->Q (.ref p) (updM M p (.lst (T.kids.map Tm.mv)))
def _66:MonW EU:=by walk_at "m"
def PD(T:Txt E):FO E 1 "parts_within" EU:=by
 erw[T.bD.ok T.g _66 1 ["T"] (fC T f0) Kg (fun j M Q h=>?_)];have⟨U,rfl,q⟩:=h;erw[⟨rfl,?_⟩];show wSs _ _ _ [wc U.mv] M;delta Kg;cases U with
 |num m=>
  simp only[Tm.mv];simp!;delta Ed;simp!;erw[q]
 |var x=>
  simp only[Tm.mv];simp!;delta Ed;simp!;erw[q]
 |two f a b=>
  simp only[Tm.mv];simp!;rw[if_neg (Pp f),if_neg (ES f),Ec];simp!;rw[PC];erw[q]
 |pick c a b=>
  simp only[Tm.mv];simp!;delta Ec;simp!;rw[PC];erw[q]
abbrev EV(n:Nat):SpM:=λl M Q=>∃T:Tm,l=[T.mv]/\T.depth<=n/\∀j,SameM M j->Q (.tup [.int (T.size:Nat),.int (T.depth:Nat)]) j
def _aM(n:Nat):MonW (EV n):=by walk_at "m"
theorem PF(T:Txt E):∀n:Nat,FO E (n+8) "size_of" (EV n)
 |0=>by
  have p:∀z M Q,¬EV 0 z M Q:=λz M Q h=>by
   have⟨T,_,Y,_⟩:=h;have:=T.depth_pos;lia
  erw[T.ao.nn T.g ["T"] p]
 |n+1=>by
  have L:=PF T n;erw[T.ao.ok T.g (_aM _) 1 ["T","parts","deepest","part","size"] (fC T (fc (PD T) (fc L f0 (Xa _)) (by lia))) Ee (fun z M Q h=>?_) (hc:=_gz)]
  have⟨U,rfl,Z,q⟩:=h;erw[⟨rfl,?_⟩];show wSs _ _ _ [wc U.mv,we,we,we,we] M;delta Ee;simp!;delta Km;simp!;delta Kl;simp!;erw[⟨U,rfl,λy m=>?_⟩];have N:=SameM.new m (.lst (U.kids.map Tm.mv));have c:updM M y (.lst (U.kids.map Tm.mv)) y=wc (.lst (U.kids.map Tm.mv)):=X9;generalize updM M y (.lst (U.kids.map Tm.mv))=M1 at*
  simp![c]
  obtain⟨J,j⟩:∃J:Nat->Sm->MH->Prop,∀i l M2,J i l M2↔∃(g d:Option MV),SameM M1 M2/\l=[wc U.mv,wc (.int ((1+szs (U.kids.take i):Nat):Int)),wc (.int ((mxd (U.kids.take i):Nat):Int)),g,d]:=⟨_,λ_ _ _=>XX⟩;erw[⟨J,(j _ _ _).2 ⟨_,_,SameM.refl _,rfl⟩,λi l M2 u=>?_,λi x l M2 O u=>?_,λl M2 u=>?_⟩]
  .have⟨_,_,w,_⟩:=(j _ _ _).1 u;erw[w _ _ c]
  .have⟨g,d,w,rfl⟩:=(j _ _ _).1 u;have⟨f,rfl⟩:=Yj O;have A:=U.kid_depth (XS f);delta Kk;simp!;erw[⟨U.kids[i],rfl,by lia,λB P=>?_⟩]
   delta Kj;simp!;delta Ki;simp!;have r:U.kids.take (i+1)=U.kids.take i++[U.kids[i]]:=by rw[Z7,X6 f];rfl
   have R:((1+szs (U.kids.take i):Nat):Int)+(U.kids[i].size:Nat)=((1+szs (U.kids.take (i+1)):Nat):Int):=by rw[r,Py,_lN];lia
   have W:(if((U.kids[i].depth:Nat):Int)>(mxd (U.kids.take i):Nat)then((U.kids[i].depth:Nat):Int)else(mxd (U.kids.take i):Nat))=((mxd (U.kids.take (i+1)):Nat):Int):=by
    rw[r,_mK];split<;>lia
   rw[R,W];erw[(j _ _ _).2 ⟨_,_,w.trans P,rfl⟩]
  .have⟨g,d,w,rfl⟩:=(j _ _ _).1 u;have e:U.kids.take (Src.lst y (U.kids.map Tm.mv)).len=U.kids:=by simp[Src.len]
   rw[e];delta Kh;simp!;have:=q M2 (N.trans w);rw[U.size_kids,U.depth_kids]at this;erw[this]
abbrev Co(n:Nat):SpM:=λl M Q=>∃T:Tm,l=[T.mv]/\T.depth<=n/\T.size<=4000/\∀p j,SameM M j->M p=we->j p=wc (.lst (T.reads.map MV.str))->Q (.ref p) j
def _7q(n:Nat):MonW (Co n):=by walk_at "m"
theorem PH(T:Txt E):∀n:Nat,FO E (n+8) "names_read" (Co n)
 |0=>by
  have G:∀N M Q,¬Co 0 N M Q:=λN M Q h=>by
   have⟨T,_,r,_⟩:=h;have:=T.depth_pos;lia
  erw[T.ak.nn T.g ["T"] G]
 |n+1=>by
  have I:=PH T n;erw[T.ak.ok T.g (_7q _) 1 ["T","names","part"] (fC T (fc I (fc (PD T) f0 (by lia)) (Xa _))) Eg (fun N M Q h=>?_) (hc:=_cE)]
  have⟨U,rfl,hn,hz,q⟩:=h;erw[⟨rfl,?_⟩];show wSs _ _ _ [wc U.mv,we,we] M;have rest:(∀x,U≠.var x)->wSs [("names_read",Co n),("parts_within",EU)] Ef {nx:=fun x S=>Q MV.non S,rt:=Q} [wc U.mv,we,we] M:=by
   intro X;delta Ef;simp!;intro l u;have B:=SameM.new u (.lst []);have r:updM M l (.lst []) l=wc (.lst ([]:List MV)):=X9;generalize updM M l (.lst [])=M0 at*;delta Kr;simp!;erw[⟨U,rfl,λw j=>?_⟩];have C:=SameM.new j (.lst (U.kids.map Tm.mv));have D:updM M0 w (.lst (U.kids.map Tm.mv)) w=wc (.lst (U.kids.map Tm.mv)):=X9;have O:=C _ _ r;have H:=B.trans C;have nk:M w=we:=B.free j;generalize updM M0 w (.lst (U.kids.map Tm.mv))=M1 at*
   simp![D]
   have v:l≠w:=by
    intro e;rw[e]at r;rw[r]at j;cases j
   obtain⟨J,y⟩:∃J:Nat->Sm->MH->Prop,∀i z M2,J i z M2↔∃(P:Option MV),SameM M M2/\M2 w=wc (.lst (U.kids.map Tm.mv))/\M2 l=wc (.lst ((rds (U.kids.take i)).map MV.str))/\z=[wc U.mv,wc (.ref l),P]:=⟨_,λ_ _ _=>XX⟩;erw[⟨J,(y _ _ _).2 ⟨_,H,D,O,rfl⟩,λi z M2 g=>?_,λi x z M2 o g=>?_,λz M2 g=>?_⟩]
   .have⟨_,_,L,_⟩:=(y _ _ _).1 g;erw[L]
   .have⟨P,R,L,d,rfl⟩:=(y _ _ _).1 g;have⟨W,rfl⟩:=Yj o;have hk:=U.kid_depth (XS W);have s:=U.kid_size (XS W);delta Kq;simp!;simp only[d];simp!;erw[⟨⟨_,rfl⟩,?_⟩];erw[⟨U.kids[i],rfl,by lia,by lia,λp3 M3 Y n3 g3=>?_⟩]
    have Z:=Y _ _ L;have A:=Y _ _ d;simp!;have l1:=PB (U.kids.take i);have l2:=_jB U.kids i;have l3:=U.size_kids;have l4:=U.kids[i].reads_len;erw[⟨_,A,_,g3,by simp only[X5];lia,(y _ _ _).2 ⟨_,(R.trans Y).upd u _,by rw[X7 v.symm];erw[Z],?_,rfl⟩⟩]
    rw[X9,Z7,X6 W,Option.toList_some,_lX,XI]
   .have⟨P,R,L,d,rfl⟩:=(y _ _ _).1 g;have e:U.kids.take (Src.lst w (U.kids.map Tm.mv)).len=U.kids:=by simp[Src.len]
    rw[e,<-U.reads_kids X]at d;delta Ko;simp!;erw[q l M2 R u d]
  delta Eg;cases U with
  |num m=>
   simp only[Tm.mv];simp!;erw[rest (λ_ e=>by cases e)]
  |var x=>
   simp only[Tm.mv];simp!;delta Ks;simp!;erw[λp F=>q p _ (SameM.new F _) F X9]
  |two f a b=>
   simp only[Tm.mv];simp!;rw[if_neg (ES f)];erw[rest (λ_ e=>by cases e)]
  |pick c a b=>
   simp only[Tm.mv];simp!;erw[rest (λ_ e=>by cases e)]
abbrev PJ:SpM:=λu M Q=>∃(T:Tm) (N:List Str),u=[T.mv]/\T.depth<=40/\T.size<=4000/\(∀x∈T.reads,x∈N)/\N.length<64/\
 ∀p l (j:List Str),SameM M l->M p=we->l p=wc (.lst (j.map MV.str))->j.Nodup->(∀y,y∈j↔y∈T.reads)->PyProof.Rows.sortedS j=wf->Q (.ref p) l
def _aL:MonW PJ:=by walk_at "m"
def _g6(T:Txt E):FO E 50 "vars_in" PJ:=by
 erw[T.aI.ok T.g _aL 1 ["T"] (fC T (fc (PH T 40) f0)) Kt (fun e M Q h=>?_)];have⟨U,N,rfl,u,w,y,z,q⟩:=h;erw[⟨rfl,?_⟩];show wSs _ _ _ [wc U.mv] M;delta Kt;simp!;erw[⟨U,rfl,u,w,λm M1 j L g=>?_⟩];have O:scanBound=4096:=rfl;have:=U.reads_len;erw[⟨m,U.reads,N,rfl,g,by lia,y,z,λp d l c f r=>q p _ d (j.trans (SameM.new l _)) (j.free l) X9 c f r⟩]
abbrev Zo4:SpM:=λ_ _ _=>False
def Zq(z:Str):Prop:=1<=z.length/\z.length<=8/\∀c∈z.cps.toList,97<=c/\c<=122
def PK{a b:Nat}:([a]:List Nat)<[b]↔a<b:=by
 rw[List.cons_lt_cons_iff];constructor
 .rintro(h|⟨_,h⟩)
  .erw[h]
  .erw[absurd h (by simp)]
 .erw[.inl]
def _rG:(("a":Str)).cps.toList=[97]:=by decide+kernel
def _rF:(("z":Str)).cps.toList=[122]:=by decide+kernel
def le_a{c:Nat}(h:97<=c):(!decide ((⟨#[c]⟩:Str).cps.toList<(("a":Str)).cps.toList))=wf:=by
 rw[_rG];have:¬((⟨#[c]⟩:Str).cps.toList<[97]):=λz=>by
  have z:([c]:List Nat)<[97]:=z;rw[PK]at z;lia
 simpa using this
def le_z{c:Nat}(h:c<=122):(!decide ((("z":Str)).cps.toList<(⟨#[c]⟩:Str).cps.toList))=wf:=by
 rw[_rF];have:¬([122]<(⟨#[c]⟩:Str).cps.toList):=λz=>by
  have z:([122]:List Nat)<[c]:=z;rw[PK]at z;lia
 simpa using this
abbrev PL:SpM:=λl M Q=>∃z:Str,l=[.str z]/\Zq z/\∀j,SameM M j->Q (.bl wf) j
def _aO:MonW PL:=by walk_at "m"
def _g7(T:Txt E):FO E 1 "is_name" PL:=by
 erw[T.c9.ok T.g _aO 1 ["text"] (fC T f0) KQ (fun g M Q h=>?_)];have⟨z,rfl,⟨d,r,l⟩,q⟩:=h;erw[⟨rfl,?_⟩];show wSs _ _ _ [wc (.str z)] M;delta KQ;simp!;erw[⟨by lia,?_⟩]
 rw[if_pos (by lia:(1:Int)<=(z.length:Int))]
 rw[if_pos (by lia:(z.length:Int)<=8)]
 erw[Ur z.cps.toList (λc=>.str ⟨#[c]⟩) (λ_=>.bl wf) ?_ ?_ (λj f p h=>by simp at h) λD u=>?_]
 .simp!;have:z.cps.toList.length=z.length:=Yt;erw[⟨rfl,by lia,trivial⟩]
 .intro c w L s;have⟨y,m⟩:=l c w;simp only[sCm,Xz,Ys,Z6,YQ,YR,Yr];simp!;rw[if_pos (by simpa using le_a y)]
  simpa using le_z m
 simp!;erw[⟨z.cps.toList.map λ_=>wf,by rw[Y9];rfl,?_⟩]
 have e:((z.cps.toList.map λ_=>wf).all id)=wf:=by simp
 rw[e];erw[q _ (SameM.new u _)]
def Aq{z:Str}{j:List Str}:inV (toV (.str z)) ((j.map MV.str).map toV)=decide (z∈j):=by
 unfold inV
 induction j with
 |nil=>simp
 |cons a r l=>
  rw[Xz,Xz,ZU,l];have e:eqV (toV (.str a)) (toV (.str z))=decide (a=z):=by
   show(a==z)=decide (a=z);by_cases h:a=z
   .subst h;simp
   .simp[h]
  rw[e];by_cases h:a=z
  .simp[h]
  .have u:¬z=a:=λw=>h w.symm;simp[h,u]
def Ar(j:List Str):(j.map MV.str).all Yb=wf:=by
 rw[VD];intro v l;have⟨x,_,rfl⟩:=XA.mp l
 rfl
abbrev PM:SpM:=λu M Q=>∃(z:Str) (e:Addr) (j:List Str),u=[.str z,.ref e]/\M e=wc (.lst (j.map MV.str))/\Zq z/\z∉j/\∀l,SameM M l->Q .non l
def _6y:MonW PM:=by walk_at "m"
def EW(T:Txt E):FO E 2 "refuse_name" PM:=by
 erw[T.bP.ok T.g _6y 2 ["text","earlier"] (fC T (fc (_g7 T) f0)) KS (fun m M Q h=>?_)];have⟨z,a,l,rfl,u,w,y,q⟩:=h;erw[⟨rfl,?_⟩];show wSs _ _ _ [wc (.str z),wc (.ref a)] M;delta KS;simp!;erw[⟨z,rfl,w,λM1 j=>?_⟩];simp!;delta KR;simp!;erw[.inl ⟨_,j _ _ u,rfl,Ar l,?_⟩];rw[Aq,decide_eq_false y];simp!;erw[q M1 j]
def Leaf(v:MV):Prop:=(∃i,v=.int i)\/∃z,v=.str z
def FroD:Nat->MH->MV->MV->Prop
 |0,_,v,v'=>Leaf v/\v'=v
 |n+1,M,v,v'=>(Leaf v/\v'=v)\/∃j:List (MV×MV),(v=.tup (j.map (·.1))\/∃a,v=.ref a/\M a=wc (.lst (j.map (·.1))))/\v'=.tup (j.map (·.2))/\j.length<=1000/\∀p∈j,FroD n M p.1 p.2
theorem FroD.keep{M M':MH}(s:SameM M M'):∀{n:Nat} {v l:MV},FroD n M v l->FroD n M' v l
 |0,_,_,h=>h
 |n+1,v,l,h=>by
  rcases h with h|⟨u,j,w,y,z⟩
  .erw[.inl h]
  .erw[.inr ⟨u,?_,w,y,λp m=>(z p m).keep s⟩];rcases j with j|⟨a,e,j⟩
   .erw[.inl j]
   .erw[.inr ⟨a,e,s _ _ j⟩]
abbrev UU(n:Nat):SpM:=λu M Q=>∃v j,u=[v]/\FroD n M v j/\∀l,SameM M l->Q j l
def Cp(n:Nat):MonW (UU n):=by walk_at "m"
def _eI{n:Nat}(y:∀(j:Nat)f m,([("frozen",UU n)]:List (Str×SpM))[j]?=wc (f,m)->MonW m){g:List MV} {M:MH} {Q:QM} (h:UU (n+1) g M Q):wSs [("frozen",UU n)] Wf {nx:=fun _ u=>Q .non u,rt:=Q} (Wc 1 g) M:=by
 have⟨v,P,rfl,c,q⟩:=h;show wSs _ _ _ [wc v] M;delta Wf;rcases c with⟨l,rfl⟩|⟨r,d,rfl,R,e⟩
 .rcases l with⟨i,rfl⟩|⟨z,rfl⟩
  .simp!;simp only[decide_false,Bv,YZ,if_false,reduceCtorEq,ne_eq,not_false_eq_true,true_and];delta We;simp!;erw[q M (SameM.refl _)]
  .simp!;simp only[decide_false,Bv,YZ,if_false,reduceCtorEq,ne_eq,not_false_eq_true,true_and];delta We;simp!;erw[q M (SameM.refl _)]
 .have go:wSs [("frozen",UU n)] Es {nx:=fun L M=>wSs [("frozen",UU n)] We {nx:=fun _ u=>Q .non u,rt:=Q} L M,rt:=Q} [wc v] M:=by
   delta Es;simp!;erw[_iX r (·.1) (·.2) ?_ ?_ y λD u T s hd=>?_]
   .rcases d with rfl|⟨a,rfl,w⟩
    .simp!;erw[⟨rfl,by lia,trivial,λ_ _ h=>h⟩]
    .simp![w]
     erw[⟨rfl,by lia,w,λ_ _ h=>h⟩]
   .intro p N u s;simp only[sCm,Xz,Ys,Z6,YQ,YR,Yr];simp!;erw[⟨p.1,p.2,rfl,(e p N).keep s,λM2 O=>⟨rfl,O⟩⟩]
   simp![hd]
   erw[q u s]
  rcases d with rfl|⟨a,rfl,w⟩
  .simp!;simp only[decide_true,Bool.or_true,Bool.true_or,if_true,reduceCtorEq,ne_eq,not_false_eq_true,true_and];erw[go]
  .simp![w]
   simp only[decide_true,Bool.or_true,Bool.true_or,if_true,reduceCtorEq,ne_eq,not_false_eq_true,true_and];erw[go]
theorem PN(T:Txt E):∀n:Nat,FO E (n+8) "frozen" (UU n)
 |0=>by
  erw[T.aj.ok T.g (Cp _) 1 ["value"] (fC T (fc (T.aj.nn (k:=0) (sp:=Zo4) T.g ["value"] fun _ _ _ h=>h) f0)) Wf (fun u M Q h=>?_)];have⟨v,j,rfl,⟨l,rfl⟩,q⟩:=h;erw[⟨rfl,?_⟩];show wSs _ _ _ [wc j] M;delta Wf;rcases l with⟨i,rfl⟩|⟨z,rfl⟩
  .simp!;simp only[decide_false,Bv,YZ,if_false,reduceCtorEq,ne_eq,not_false_eq_true,true_and];delta We;simp!;erw[q M (SameM.refl _)]
  .simp!;simp only[decide_false,Bv,YZ,if_false,reduceCtorEq,ne_eq,not_false_eq_true,true_and];delta We;simp!;erw[q M (SameM.refl _)]
 |n+1=>by
  have w:=PN T n;erw[T.aj.ok T.g (Cp _) 1 ["value"] (fC T (fc w f0 (Xa _))) Wf (fun u M Q h=>⟨?_,?_⟩) (hc:=_iZ)]
  .have⟨v,j,rfl,_⟩:=h;rfl
  erw[_eI (U1 (fMc (Cp n) nl0)) h]
structure Isl where
 name:Str
 prs:List (Str×Int)
 stps:List Stp
structure Fer where
 name:Str
 giver:Str
 taker:Str
 k:Nat
 st:Nat
structure Wld where
 w:Nat
 isl:List Isl
 fer:List Fer
noncomputable def prV(p:Str×Int):MV:=.tup [.str p.1,.int p.2]
noncomputable def Fer.mv(f:Fer):MV:=.tup [.str f.name,.str f.giver,.str f.taker,.int f.k,.int f.st]
def Isl.mv(I:Isl):MV:=.tup [.str I.name,.tup (I.prs.map prV),.tup (I.stps.map Stp.mv)]
def Wld.mv(W:Wld):MV:=.tup [.int W.w,.tup (W.isl.map Isl.mv),.tup (W.fer.map Fer.mv)]
noncomputable def Isl.vars(I:Isl):List Str:=I.prs.map (·.1)
noncomputable def Wld.fns(W:Wld):List Str:=W.fer.map (·.name)
noncomputable def Wld.ins(W:Wld):List Str:=W.isl.map (·.name)
def TmIn(j:List Str)(T:Tm):Prop:=T.depth<=8/\T.size<=30/\∀x∈T.reads,x∈j
def Za(fs:List Str)(j:List Str)(n:Nat):Stp->Prop
 |.take f x=>f∈fs/\x∈j
 |.give f T=>f∈fs/\TmIn j T
 |.put x T=>x∈j/\TmIn j T
 |.jump T i=>TmIn j T/\0<=i/\i<=(n:Int)
structure IslOk (w:Nat)(fs:List Str)(I:Isl):Prop where
 nv:I.prs.length<=6
 ns:I.stps.length<=12
 nd:I.vars.Nodup
 gd:∀x∈I.vars,Zq x
 wd:∀p∈I.prs,0<=p.2/\p.2<2^w
 st:∀s∈I.stps,Za fs I.vars I.stps.length s
structure FerOk (is:List Str)(f:Fer):Prop where
 g:f.giver∈is
 t:f.taker∈is
 ne:f.giver≠f.taker
 k3:f.k<=3
 s1:1<=f.st
 s3:f.st<=3
def U2(F:List Fer)(z:Str):Stp->Prop
 |.take f _=>∀x∈F,x.name=f->x.taker=z
 |.give f _=>∀x∈F,x.name=f->x.giver=z
 |_=>True
structure Wld.Good (W:Wld):Prop where
 w1:1<=W.w
 w2:W.w<=64
 i5:W.isl.length<=5
 f6:W.fer.length<=6
 fg:∀z∈W.fns,Zq z
 ig:∀z∈W.ins,Zq z
 nd:(W.fns++W.ins).Nodup
 io:∀I∈W.isl,IslOk W.w W.fns I
 fo:∀f∈W.fer,FerOk W.ins f
 en:∀I∈W.isl,∀s∈I.stps,U2 W.fer I.name s
def IslIn(M:MH)(I:Isl)(y:MV):Prop:=∃a b,y=.tup [.str I.name,.ref a,.ref b]/\M a=wc (.lst (I.prs.map prV))/\M b=wc (.lst (I.stps.map Stp.mv))
def IslIn.keep{M M':MH}(s:SameM M M'){I:Isl}{y:MV}(h:IslIn M I y):IslIn M' I y:=by
 have⟨a,b,e,j,l⟩:=h;erw[⟨a,b,e,s _ _ j,s _ _ l⟩]
def IslsIn(M:MH)(Is:List Isl)(j:List MV):Prop:=j.length=Is.length/\∀(i:Nat)(I:Isl)(y:MV),Is[i]?=wc I->j[i]?=wc y->IslIn M I y
theorem IslsIn.keep{M M':MH}(s:SameM M M'){Is:List Isl}{j:List MV}(h:IslsIn M Is j):IslsIn M' Is j:=⟨h.1,λi z y a b=>(h.2 i z y a b).keep s⟩
def IslsIn.mem{M:MH}{Is:List Isl}{l:List MV}(h:IslsIn M Is l){y:MV}(w:y∈l):∃I∈Is,IslIn M I y:=by
 have⟨i,u,rfl⟩:=Yq w;have j:i<Is.length:=by rw[<-h.1];erw[u]
 erw[⟨Is[i],XS j,h.2 i _ _ (X6 j) (X6 u)⟩]
def IslsIn.fst{M:MH}{Is:List Isl}{l:List MV}(h:IslsIn M Is l){f:MV->MV}(u:∀z r,f (.tup (.str z::r))=.str z):l.map f=(Is.map (·.name)).map MV.str:=by
 apply Ww;intro i;rw[Xe,Xe,Xe];by_cases hi:i<l.length
 .have j:i<Is.length:=by rw[<-h.1];erw[hi]
  have⟨a,b,e,_⟩:=h.2 i _ _ (X6 j) (X6 hi);rw[X6 j,X6 hi,e];show wc (f _)=_;rw[u];rfl
 .have j:¬i<Is.length:=by rw[<-h.1];erw[hi]
  rw[Zj (by lia),Zj (by lia)];rfl
abbrev PP:SpM:=λj M Q=>∃i:Int,j=[.int i]/\Q (.bl wf) M
def _9H:MonW PP:=by walk_at "m"
def PQ(T:Txt E):FO E 1 "is_whole" PP:=by
 erw[T.aC.ok T.g _9H 1 ["value"] (fC T f0) Jr (fun j M Q h=>?_)];have⟨i,rfl,q⟩:=h;erw[⟨rfl,?_⟩];show wSs _ _ _ [wc (.int i)] M;delta Jr;simp!
 simpa using q
abbrev EX:SpM:=λj M Q=>∃i:Int,j=[.int i]/\1<=i/\i<=64/\Q (.bl wf) M
def PR:MonW EX:=by walk_at "m"
def _ek(T:Txt E):FO E 2 "is_width" EX:=by
 erw[T.cw.ok T.g PR 1 ["number"] (fC T (fc (PQ T) f0)) Js (fun u M Q h=>?_)];have⟨i,rfl,j,l,q⟩:=h;erw[⟨rfl,?_⟩];show wSs _ _ _ [wc (.int i)] M;delta Js;simp!;erw[⟨i,rfl,?_⟩];simp!;rw[if_pos j,decide_eq_true l];erw[q]
abbrev PU:SpM:=λj M Q=>∃(k:Nat) (i:Int),j=[.int k,.int i]/\k<=64/\0<=i/\i<2^k/\Q (.bl wf) M
def _er:MonW PU:=by walk_at "m"
def _mC(T:Txt E):FO E 2 "fits" PU:=by
 erw[T.bL.ok T.g _er 2 ["width","number"] (fC T (fc (PQ T) (fc (Ap T) f0))) Jx (fun w M Q h=>?_)];have⟨k,i,rfl,j,l,u,q⟩:=h;erw[⟨rfl,?_⟩];show wSs _ _ _ [wc (.int k),wc (.int i)] M;delta Jx;simp!;erw[⟨i,rfl,?_⟩];simp!;rw[if_pos l];erw[⟨k,rfl,j,?_⟩];simp!;rw[decide_eq_true u];erw[q]
abbrev PV:SpM:=λl M Q=>∃(z:Str) (e:Addr) (j:List Str),l=[.str z,.ref e]/\M e=wc (.lst (j.map MV.str))/\z∈j/\Q .non M
def _4a:MonW PV:=by walk_at "m"
def EY(T:Txt E):FO E 1 "refuse_unknown" PV:=by
 erw[T.aq.ok T.g _4a 2 ["name","known"] (fC T f0) Cg (fun w M Q h=>?_)];have⟨z,a,j,rfl,l,u,q⟩:=h;erw[⟨rfl,?_⟩];show wSs _ _ _ [wc (.str z),wc (.ref a)] M;delta Cg;simp!;erw[.inl ⟨_,l,rfl,Ar j,?_⟩];rw[Aq,decide_eq_true u];simp!;erw[q]
def Cq{l:Type} [DecidableEq l] {u:List l}(y:u.Nodup){j:Nat}{z:l}(m:u[j]?=wc z):z∉u.take j:=λg=>by
 have⟨f,rfl⟩:=Xo.mp m;have⟨k,d,w⟩:=Yq g;have c:k<j:=by rw[Yl]at d;lia
 rw[List.getElem_take]at w;have:=(B6 y).mp w;lia
def EZ{l w:Type}{f:l->w}{u:List l}{j:Nat}{z:l}(y:u[j]?=wc z):(u.take j).map f++[f z]=(u.take (j+1)).map f:=by
 rw[Z7,y,XI];rfl
abbrev F0:SpM:=λl M Q=>∃(f:Addr) (F:List Fer),l=[.ref f]/\M f=wc (.lst (F.map Fer.mv))/\F.length<=6/\(F.map (·.name)).Nodup/\(∀x∈F,Zq x.name)/\∀j,SameM M j->Q .non j
def PX:MonW F0:=by walk_at "m"
def _46(T:Txt E):FO E 3 "refuse_ferry_names" F0:=by
 erw[T.bH.ok T.g PX 1 ["ferries","earlier","ferry"] (fC T (fc (EW T) f0)) KZ (fun Z M Q h=>?_)];have⟨f,F,rfl,L,A,U,W,q⟩:=h;erw[⟨rfl,?_⟩];show wSs _ _ _ [wc (.ref f),we,we] M;delta KZ;simp!;intro p N;have O:=SameM.new N (.lst []);have g:=O _ _ L;have d:updM M p (.lst []) p=wc (.lst []):=X9;have c:∀a o,M a=wc o->a≠p:=λa o h=>neM h N;generalize updM M p _=M1 at*;delta KY
 simp![g]
 obtain⟨J,u⟩:∃J:Nat->Sm->MH->Prop,∀j w l,J j w l↔SameM M l/\l p=wc (.lst (((F.map (·.name)).take j).map MV.str))/\∃v,w=[wc (.ref f),wc (.ref p),v]:=⟨_,λ_ _ _=>XX⟩;erw[⟨J,(u _ _ _).mpr ⟨O,by simpa using d,_,rfl⟩,λj w l h=>((u _ _ _).mp h).1 _ _ L,?_,?_⟩]
 .rintro j y w l Y h;have⟨r,z,v,rfl⟩:=(u _ _ _).mp h;have⟨m,rfl⟩:=Yj Y;have m:j<F.length:=m;have P:(F.map (·.name))[j]?=wc F[j].name:=by rw[Xe,X6 m];rfl
  delta KW
  simp![Fer.mv]
  erw[ex3 (F[j].name) p ((F.map (·.name)).take j) ⟨rfl,z,W _ (XS m),Cq U P,λB R=>?_⟩];have e:=R _ _ z;simp!;delta KU
  simp![Fer.mv,e,X5,Yl]
  erw[⟨⟨_,rfl⟩,by lia,(u _ _ _).mpr ⟨λa o h=>by rw[X7 (c a o h)];erw[R _ _ (r _ _ h)],?_,_,rfl⟩⟩]
  rw[X9,EZ P]
 .rintro w l h;have⟨r,_⟩:=(u _ _ _).mp h;erw[q _ r]
abbrev F1:SpM:=λu M Q=>∃(k:Nat) (f:Addr) (j:List (Str×Int)),u=[.int k,.ref f]/\M f=wc (.lst (j.map prV))/\k<=64/\j.length<=6/\(j.map (·.1)).Nodup/\(∀x∈j,Zq x.1/\0<=x.2/\x.2<2^k)/\∀l,SameM M l->Q .non l
def PY:MonW F1:=by walk_at "m"
def _62(T:Txt E):FO E 3 "refuse_variables" F1:=by
 erw[T.bZ.ok T.g PY 2 ["width","pairs","earlier","pair","name"] (fC T (fc (_mC T) (fc (EW T) f0))) L6 (fun G M Q h=>?_)];have⟨k,f,F,rfl,L,W,I,Y,Z,q⟩:=h;erw[⟨rfl,?_⟩];show wSs _ _ _ [wc (.int k),wc (.ref f),we,we,we] M;delta L6;simp!;intro p N;have O:=SameM.new N (.lst []);have g:=O _ _ L;have d:updM M p (.lst []) p=wc (.lst []):=X9;have c:∀a o,M a=wc o->a≠p:=λa o h=>neM h N;generalize updM M p _=M1 at*;delta L5
 simp![g]
 obtain⟨J,u⟩:∃J:Nat->Sm->MH->Prop,∀j w l,J j w l↔SameM M l/\l p=wc (.lst (((F.map (·.1)).take j).map MV.str))/\∃v P,w=[wc (.int k),wc (.ref f),wc (.ref p),v,P]:=⟨_,λ_ _ _=>XX⟩;erw[⟨J,(u _ _ _).mpr ⟨O,by simpa using d,_,_,rfl⟩,λj w l h=>((u _ _ _).mp h).1 _ _ L,?_,?_⟩]
 .rintro j y w l A h;have⟨r,z,v,P,rfl⟩:=(u _ _ _).mp h;have⟨m,rfl⟩:=Yj A;have m:j<F.length:=m;have R:(F.map (·.1))[j]?=wc F[j].1:=by rw[Xe,X6 m];rfl
  have⟨B,C,D⟩:=Z _ (XS m);delta L4
  simp![prV]
  delta L3;simp!;erw[ex3 (F[j].1) p ((F.map (·.1)).take j) ⟨rfl,z,B,Cq Y R,λS U=>?_⟩];have e:=U _ _ z;simp!;delta L1
  simp![e,X5,Yl]
  erw[⟨⟨_,rfl⟩,by lia,?_⟩]
  delta L0
  simp![prV]
  erw[⟨k,F[j].2,rfl,W,C,D,?_⟩];simp!;erw[(u _ _ _).mpr ⟨λa o h=>by rw[X7 (c a o h)];erw[U _ _ (r _ _ h)],?_,_,_,rfl⟩]
  rw[X9,EZ R]
 .rintro w l h;have⟨r,_⟩:=(u _ _ _).mp h;erw[q _ r]
abbrev PZ:SpM:=λu M Q=>∃(U:Tm) (e:Addr) (j:List Str),u=[U.mv,.ref e]/\M e=wc (.lst (j.map MV.str))/\j.length<=6/\TmIn j U/\∀l,SameM M l->Q .non l
def _6x:MonW PZ:=by walk_at "m"
def _aE(T:Txt E):FO E 51 "refuse_term" PZ:=by
 erw[T.aA.ok T.g _6x 2 ["T","known","size","name"] (fC T (fc (EY T) (fc (PF T 8) (fc (_g6 T) f0)))) La (fun P M Q h=>?_)];have⟨U,a,m,rfl,r,R,⟨hd,W,g⟩,q⟩:=h;erw[⟨rfl,?_⟩];show wSs _ _ _ [wc U.mv,wc (.ref a),we,we] M;delta La;simp!;erw[⟨U,rfl,hd,λM1 d=>?_⟩];simp!;delta L9;simp!;rw[if_neg (by lia:¬((U.size:Nat):Int)>30)]
 rw[if_neg (by lia:¬((U.depth:Nat):Int)>8)]
 delta L8;simp!;erw[⟨U,m,rfl,by lia,by lia,g,by lia,λp M2 e c Y l Z L _=>?_⟩]
 simp![l]
 obtain⟨J,u⟩:∃J:Nat->Sm->MH->Prop,∀j w z,J j w z↔z=M2/\∃v f,w=[wc U.mv,wc (.ref a),v,f]:=⟨_,λ_ _ _=>XX⟩;erw[⟨J,(u _ _ _).mpr ⟨rfl,_,_,rfl⟩,λj w z h=>by rw[((u _ _ _).mp h).1];erw[l],?_,?_⟩]
 .rintro j y w z N h;have⟨rfl,v,f,rfl⟩:=(u _ _ _).mp h;have⟨O,rfl⟩:=Yj N;delta L7;simp!;erw[ex3 (e[j]) a m ⟨rfl,c _ _ (d _ _ r),g _ ((L _).mp (XS O)),?_⟩];simp!;erw[(u _ _ _).mpr ⟨rfl,_,_,rfl⟩]
 .rintro w z h;have⟨rfl,_⟩:=(u _ _ _).mp h;erw[q _ (d.trans c)]
def F2{f x:Str}:(Stp.take f x).mv=.tup [.str "take",.str f,.str x]:=rfl
def F3{f:Str}{U:Tm}:(Stp.give f U).mv=.tup [.str "give",.str f,U.mv]:=rfl
def F4{f:Str}{U:Tm}:(Stp.put f U).mv=.tup [.str "put",.str f,U.mv]:=rfl
def F5{i:Int}{U:Tm}:(Stp.jump U i).mv=.tup [.str "jump",U.mv,.int i]:=rfl
abbrev F6:SpM:=λu M Q=>∃(S:Stp) (a b:Addr) (j fs:List Str) (n:Nat),u=[S.mv,.ref a,.int n,.ref b]/\M a=wc (.lst (j.map MV.str))/\M b=wc (.lst (fs.map MV.str))/\j.length<=6/\Za fs j n S/\∀l,SameM M l->Q .non l
def Q0:MonW F6:=by walk_at "m"
def _aF(T:Txt E):FO E 52 "refuse_step" F6:=by
 erw[T.bW.ok T.g Q0 4 ["step","known","count","ferry_names"] (fC T (fc (_aE T) (fc (EY T) f0))) Lk (fun d M Q h=>?_)];have⟨S,a,b,u,fs,n,rfl,w,g,m,z,q⟩:=h;erw[⟨rfl,?_⟩];show wSs _ _ _ [wc S.mv,wc (.ref a),wc (.int n),wc (.ref b)] M;delta Lk;cases S with
 |take f x=>
  have⟨j,l⟩:=z
  simp![F2]
  delta Lc;simp!;erw[ex3 f b fs ⟨rfl,g,j,?_⟩];simp!;delta Lb;simp!;erw[ex3 x a u ⟨rfl,w,l,?_⟩];simp!;erw[q _ (SameM.refl _)]
 |give f U=>
  have⟨j,l⟩:=z
  simp![F3]
  delta Ch;simp!;delta Lf;simp!;erw[ex3 f b fs ⟨rfl,g,j,?_⟩];simp!;delta Ld;simp!;erw[ex3 U a u ⟨rfl,w,m,l,λM1 y=>?_⟩];simp!;erw[q _ y]
 |put f U=>
  have⟨j,l⟩:=z
  simp![F4]
  delta Ch;simp!;delta Er;simp!;delta Lh;simp!;erw[ex3 f a u ⟨rfl,w,j,?_⟩];simp!;delta Lg;simp!;erw[ex3 U a u ⟨rfl,w,m,l,λM1 y=>?_⟩];simp!;erw[q _ y]
 |jump U i=>
  have⟨j,l,c⟩:=z
  simp![F5]
  delta Ch;simp!;delta Er;simp!;delta Lj;simp!;erw[ex3 U a u ⟨rfl,w,m,j,λM1 y=>?_⟩];simp!;delta Li;simp!;rw[if_pos l];rw[if_neg (by lia:¬¬i<=(n:Int))]
  erw[q _ y]
abbrev Q1:SpM:=λl M Q=>∃(k:Nat) (I:Isl) (y:MV) (b:Addr) (fs:List Str),l=[.int k,y,.ref b]/\k<=64/\IslIn M I y/\M b=wc (.lst (fs.map MV.str))/\IslOk k fs I/\∀j,SameM M j->Q .non j
def _5a:MonW Q1:=by walk_at "m"
def _8Q(T:Txt E):FO E 53 "refuse_island" Q1:=by
 erw[T.ca.ok T.g _5a 3 ["width","island","ferry_names","known","step"] (fC T (fc (_aF T) (fc (_62 T) f0))) Lq (fun F M Q h=>?_)];have⟨k,I,y,c,fs,rfl,Y,⟨a,b,rfl,f,P⟩,r,ok,q⟩:=h;erw[⟨rfl,?_⟩];show wSs _ _ _ [wc (.int k),wc (.tup [.str I.name,.ref a,.ref b]),wc (.ref c),we,we] M;have R:=ok.nv;have G:=ok.ns;delta Lq
 simp![f,X5]
 erw[XY (λz=>by lia) (λ_=>?_)]
 delta Lp
 simp![P,X5]
 erw[XY (λz=>by lia) (λ_=>?_)]
 delta Lo;simp!;erw[ex3 k a I.prs ⟨rfl,f,Y,R,ok.nd,λx U=>⟨ok.gd _ (XA.mpr ⟨x,U,rfl⟩),ok.wd _ U⟩,λM1 W=>?_⟩];simp!;have m:=W _ _ f;delta Ln;simp!;erw[Ur I.prs prV (fun p=>.str p.1) ?_ ?_ (U1 (u:=[("refuse_step",F6),("refuse_variables",F1)]) (fMc Q0 (fMc PY nl0))) fun D Z=>?_]
 .simp![m]
  erw[⟨rfl,by lia,m⟩]
 .intro p S u s;simp only[sCm,Xz,Ys,Z6,YQ,YR,Yr]
  simp![prV]
  try erw[⟨rfl,rfl⟩]
 have A:(I.prs.map λp=>MV.str p.1)=I.vars.map MV.str:=by unfold Isl.vars;rw[Y9];rfl
 rw[A];have e:=W.trans (SameM.new Z (.lst (I.vars.map MV.str)));have L:updM M1 D (.lst (I.vars.map MV.str)) D=wc (.lst (I.vars.map MV.str)):=X9;generalize updM M1 D _=M2 at*;have l:=e _ _ P;delta Lm
 simp![l]
 obtain⟨J,g⟩:∃J:Nat->Sm->MH->Prop,∀j d u,J j d u↔SameM M2 u/\∃v,d=[wc (.int k),wc (.tup [.str I.name,.ref a,.ref b]),wc (.ref c),wc (.ref D),v]:=⟨_,λ_ _ _=>XX⟩;erw[⟨J,(g _ _ _).mpr ⟨SameM.refl _,_,rfl⟩,λj d u h=>((g _ _ _).mp h).1 _ _ l,?_,?_⟩]
 .rintro j y d u B h;have⟨w,v,rfl⟩:=(g _ _ _).mp h;have⟨N,rfl⟩:=Yj B;have N:j<I.stps.length:=N;have O:=w _ _ l;delta Ll
  simp![O,X5]
  erw[ex6 (I.stps[j]) D c I.vars fs I.stps.length ⟨rfl,w _ _ L,w _ _ (e _ _ r),by unfold Isl.vars;rw[X5];erw[R],ok.st _ (XS N),λX C=>?_⟩]
  simp!;erw[(g _ _ _).mpr ⟨w.trans C,_,rfl⟩]
 .rintro d u h;have⟨w,_⟩:=(g _ _ _).mp h;erw[q _ (e.trans w)]
abbrev F7:SpM:=λw M Q=>∃(k:Nat) (p b:Addr) (j:List Isl) (l:List MV) (fs:List Str),w=[.int k,.ref p,.ref b]/\k<=64/\M p=wc (.lst l)/\IslsIn M j l/\j.length<=5/\fs.length<=6/\M b=wc (.lst (fs.map MV.str))/\(fs++j.map (·.name)).Nodup/\(∀I∈j,Zq I.name)/\(∀I∈j,IslOk k fs I)/\∀u,SameM M u->Q .non u
def Q2:MonW F7:=by walk_at "m"
def _7l(T:Txt E):FO E 54 "refuse_islands" F7:=by
 erw[T.bj.ok T.g Q2 3 ["width","islands","ferry_names","earlier","island"] (fC T (fc (_8Q T) (fc (EW T) f0))) Lw (fun vs M Q h=>?_)];have⟨k,p,f,l,s,fs,rfl,i,C,r,h5,n,D,L,x,ok,q⟩:=h;erw[⟨rfl,?_⟩];show wSs _ _ _ [wc (.int k),wc (.ref p),wc (.ref f),we,we] M;delta Lw
 simp![D]
 intro e F;have G:=SameM.new F (.lst (fs.map MV.str));have N:updM M e (.lst (fs.map MV.str)) e=wc (.lst (fs.map MV.str)):=X9;have O:=G _ _ C;have P:∀a o,M a=wc o->a≠e:=λa o h=>neM h F;generalize updM M e _=M1 at*;delta Lv
 simp![O]
 obtain⟨J,w⟩:∃J:Nat->Sm->MH->Prop,∀j m u,J j m u↔SameM M u/\u e=wc (.lst ((fs++(l.map (·.name)).take j).map MV.str))/\∃v,m=[wc (.int k),wc (.ref p),wc (.ref f),wc (.ref e),v]:=⟨_,λ_ _ _=>XX⟩;erw[⟨J,(w _ _ _).mpr ⟨G,by simpa using N,_,rfl⟩,λj m u h=>((w _ _ _).mp h).1 _ _ C,?_,?_⟩]
 .rintro j y m u g h;have⟨c,d,v,rfl⟩:=(w _ _ _).mp h;have g:s[j]?=wc y:=g;have I:j<l.length:=by rw[<-r.1];erw[(Xo.mp g).1]
  have R:l[j]?=wc l[j]:=X6 I;have S:(l.map (·.name))[j]?=wc l[j].name:=by rw[Xe,R];rfl
  have U:=XS I;have⟨a,b,rfl,_⟩:=(r.keep c).2 j l[j] y R g;have W:l[j].name∉fs++(l.map (·.name)).take j:=by
   rw[Yy]at L;intro z;rcases Ye.mp z with z|z
   .erw[L.2.2 _ z _ (XA.mpr ⟨_,U,rfl⟩) rfl]
   .erw[Cq L.2.1 S z]
  delta Lu;simp!;erw[ex3 (l[j].name) e (fs++(l.map (·.name)).take j) ⟨rfl,d,x _ U,W,λY X=>?_⟩];have Z:=X _ _ d;simp!;delta Ls
  simp![Z,X5,XR,Yl]
  erw[⟨⟨_,rfl⟩,by lia,?_⟩]
  have A:SameM M (updM Y e (.lst ((fs++(l.map (·.name)).take j).map MV.str++[.str l[j].name]))):=λa o h=>by rw[X7 (P a o h)];erw[X _ _ (c _ _ h)]
  have B:updM Y e (.lst ((fs++(l.map (·.name)).take j).map MV.str++[.str l[j].name])) e=wc (.lst ((fs++(l.map (·.name)).take (j+1)).map MV.str)):=by
   rw[X9,XI,XI,UE,EZ S]
  generalize updM Y e _=M4 at*;delta Lr;simp!;erw[ex5 k (l[j]) _ f fs ⟨rfl,i,(r.keep A).2 j _ _ R g,A _ _ D,ok _ U,λM5 H=>?_⟩];simp!;erw[(w _ _ _).mpr ⟨A.trans H,H _ _ B,_,rfl⟩]
 .rintro m u h;have⟨c,_⟩:=(w _ _ _).mp h;erw[q _ c]
abbrev F8:SpM:=λl M Q=>∃(x:Fer) (e:Addr) (j:List Str),l=[x.mv,.ref e]/\M e=wc (.lst (j.map MV.str))/\FerOk j x/\Q .non M
def Q3:MonW F8:=by walk_at "m"
def _9x(T:Txt E):FO E 2 "refuse_ferry" F8:=by
 erw[T.aT.ok T.g Q3 2 ["ferry","island_names"] (fC T (fc (EY T) f0)) LB (fun u M Q h=>?_)];have⟨x,a,j,rfl,l,ok,q⟩:=h;erw[⟨rfl,?_⟩];show wSs _ _ _ [wc (.tup [.str x.name,.str x.giver,.str x.taker,.int x.k,.int x.st]),wc (.ref a)] M;have w:=ok.k3;have y:=ok.s1;have z:=ok.s3;delta LB;simp!;erw[ex3 _ a j ⟨rfl,l,ok.g,?_⟩];simp!;delta LA;simp!;erw[ex3 _ a j ⟨rfl,l,ok.t,?_⟩];simp!;delta Lz;simp!;rw[if_neg ok.ne];delta Ly;simp!;rw[if_pos (by lia:(0:Int)<=(x.k:Int))]
 rw[if_neg (by lia:¬¬(x.k:Int)<=3)]
 delta Lx;simp!;rw[if_pos (by lia:(1:Int)<=(x.st:Int))]
 rw[if_neg (by lia:¬¬(x.st:Int)<=3)]
 erw[q]
def _g2{F:List Fer}{g:Fer->Str}:∀{c:List (Key×MV)},(F.map (·.name)).Nodup->(∀x∈F,valM c (Xn x.name)=we)->∀x∈F,valM ((F.map λy=>((Xn y.name:Key),MV.str (g y))).foldl (λc z=>putM c z.1 z.2) c) (Xn x.name)=wc (.str (g x)):=by
 have stay:∀(F:List Fer)(c:List (Key×MV))(z:Str),(∀y∈F,y.name≠z)->valM ((F.map λy=>((Xn y.name:Key),MV.str (g y))).foldl (λc z=>putM c z.1 z.2) c) (Xn z)=valM c (Xn z):=by
  intro F
  induction F with
  |nil=>intro c z _;rfl
  |cons y r w=>
   intro c z h;rw[Xz,Vc,w _ _ (λy m=>h y (XJ _ m)),Ci,if_neg (λe=>h y (Y3 ..) (Vk e).symm)]
 induction F with
 |nil=>intro c _ _ x j;cases j
 |cons y r w=>
  intro c l h x j;rw[Xz,Yf]at l;rw[Xz,Vc];rcases Xk.mp j with rfl|j
  .rw[stay _ _ _ (λz u e=>l.1 (XA.mpr ⟨z,u,e⟩)),Ci,if_pos rfl]
  .erw[w l.2 (λz u=>?_) x j];rw[Ci,if_neg (λe=>l.1 (XA.mpr ⟨z,u,Vk e⟩))];erw[h z (XJ _ u)]
def dirK(F:List Fer)(g:Fer->Str):List (Key×MV):=Ul (F.map λy=>((Xn y.name:Key),MV.str (g y)))
def Q4{F:List Fer}{g:Fer->Str}(j:(F.map (·.name)).Nodup){x:Fer}(l:x∈F):valM (dirK F g) (Xn x.name)=wc (.str (g x)):=_g2 j (λ_ _=>rfl) x l
abbrev F9:SpM:=λj M Q=>∃(z:Str) (S:Stp) (a b:Addr) (F:List Fer),j=[.str z,S.mv,.ref a,.ref b]/\M a=wc (.dic (dirK F (·.giver)))/\M b=wc (.dic (dirK F (·.taker)))/\(F.map (·.name)).Nodup/\U2 F z S/\(∀f,(∃x,S=.take f x)\/(∃U,S=.give f U)->f∈F.map (·.name))/\Q .non M
def Q5:MonW F9:=by walk_at "m"
def _61(T:Txt E):FO E 1 "refuse_wrong_end" F9:=by
 erw[T.bC.ok T.g Q5 4 ["name","step","givers","takers"] (fC T f0) LC (fun c M Q h=>?_)];have⟨z,S,a,b,F,rfl,m,d,l,u,w,q⟩:=h;erw[⟨rfl,?_⟩];show wSs _ _ _ [wc (.str z),wc S.mv,wc (.ref a),wc (.ref b)] M;delta LC;cases S with
 |take f x=>
  have⟨y,j,rfl⟩:=XA.mp (w f (.inl ⟨x,rfl⟩));have v:=Q4 (g:=(·.taker)) l j;have e:=u y j rfl
  simp![F2,d,v,e]
  delta Al
  simp![F2]
  erw[q]
 |give f U=>
  have⟨y,j,rfl⟩:=XA.mp (w f (.inr ⟨U,rfl⟩));have v:=Q4 (g:=(·.giver)) l j;have e:=u y j rfl
  simp![F3]
  delta Al
  simp![F3,m,v,e]
  erw[q]
 |put f U=>
  simp![F4]
  delta Al
  simp![F4]
  erw[q]
 |jump U i=>
  simp![F5]
  delta Al
  simp![F5]
  erw[q]
def _ck{fs j:List Str}{n:Nat}{S:Stp}(h:Za fs j n S):∀f,(∃x,S=.take f x)\/(∃U,S=.give f U)->f∈fs:=by
 rintro f (⟨x,rfl⟩|⟨U,rfl⟩)
 .erw[h.1]
 .erw[h.1]
abbrev Fa:SpM:=λw M Q=>∃(p f:Addr) (l:List MV) (j:List Isl) (F:List Fer),w=[.ref p,.ref f]/\M p=wc (.lst l)/\IslsIn M j l/\j.length<=5/\M f=wc (.lst (F.map Fer.mv))/\F.length<=6/\(F.map (·.name)).Nodup/\
 (∀I∈j,I.stps.length<=12/\∀s∈I.stps,U2 F I.name s/\∃y n,Za (F.map (·.name)) y n s)/\∀u,SameM M u->Q .non u
def Q6:MonW Fa:=by walk_at "m"
def Q7(F:List Fer)(g:Fer->Str):(F.map λx=>MV.tup [.str x.name,.str (g x)])=(F.map λy=>((Xn y.name:Key),MV.str (g y))).map prM:=by rw[Y9];rfl
def _59(T:Txt E):FO E 2 "refuse_wrong_ends" Fa:=by
 erw[T.bv.ok T.g Q6 2 ["islands","ferries","givers","takers","island","step"] (fC T (fc (_61 T) f0)) LI (fun vs M Q h=>?_)];have⟨p,f,ys,Is,F,rfl,H,o,h5,L,h6,nd,hE,q⟩:=h;erw[⟨rfl,?_⟩];show wSs _ _ _ [wc (.ref p),wc (.ref f),we,we,we,we] M;have m:=(U1 (u:=[("refuse_wrong_end",F9)]) (fMc Q5 nl0));delta LI;simp!;erw[Ur F Fer.mv (λx=>.tup [.str x.name,.str x.giver]) ?_ ?_ m λD hD=>?_]
 .simp![L]
  erw[⟨rfl,by lia,L⟩]
 .intro x N w s;simp only[sCm,Xz,Ys,Z6,YQ,YR,Yr]
  simp![Fer.mv]
  try erw[⟨rfl,rfl⟩]
 rw[Q7 F (·.giver)];have s1:=SameM.new hD (.lst ((F.map λy=>((Xn y.name:Key),MV.str y.giver)).map prM));have d1:updM M D (.lst ((F.map λy=>((Xn y.name:Key),MV.str y.giver)).map prM)) D=wc (.lst ((F.map λy=>((Xn y.name:Key),MV.str y.giver)).map prM)):=X9;generalize updM M D _=M1 at*;simp!;erw[⟨_,d1,λa ha=>?_⟩];have S:=s1.trans (SameM.new ha (.dic (dirK F (·.giver))));have O:updM M1 a (.dic (dirK F (·.giver))) a=wc (.dic (dirK F (·.giver))):=X9
 change wSs _ _ _ _ (updM M1 a (.dic (dirK F (·.giver))))
 generalize updM M1 a _=M2 at*;have g:=S _ _ L;delta LH;simp!;erw[Ur F Fer.mv (λx=>.tup [.str x.name,.str x.taker]) ?_ ?_ m λP R=>?_]
 .simp![g]
  erw[⟨rfl,by lia,g⟩]
 .intro x N w s;simp only[sCm,Xz,Ys,Z6,YQ,YR,Yr]
  simp![Fer.mv]
  try erw[⟨rfl,rfl⟩]
 rw[Q7 F (·.taker)];have s3:=SameM.new R (.lst ((F.map λy=>((Xn y.name:Key),MV.str y.taker)).map prM));have d3:updM M2 P (.lst ((F.map λy=>((Xn y.name:Key),MV.str y.taker)).map prM)) P=wc (.lst ((F.map λy=>((Xn y.name:Key),MV.str y.taker)).map prM)):=X9;generalize updM M2 P _=M3 at*;simp!;erw[⟨_,d3,λb hb=>?_⟩];have X:=s3.trans (SameM.new hb (.dic (dirK F (·.taker))));have U:updM M3 b (.dic (dirK F (·.taker))) b=wc (.dic (dirK F (·.taker))):=X9
 change wSs _ _ _ _ (updM M3 b (.dic (dirK F (·.taker))))
 generalize updM M3 b _=M4 at*;have W:=X _ _ O;have Y:=S.trans X;have r:=Y _ _ H;have Z:=o.keep Y;delta LG
 simp![r]
 obtain⟨J,e⟩:∃J:Nat->Sm->MH->Prop,∀j l w,J j l w↔w=M4/\∃v z,l=[wc (.ref p),wc (.ref f),wc (.ref a),wc (.ref b),v,z]:=⟨_,λ_ _ _=>XX⟩;erw[⟨J,(e _ _ _).mpr ⟨rfl,_,_,rfl⟩,λj l w h=>by rw[((e _ _ _).mp h).1];erw[r],?_,?_⟩]
 .rintro j y l w hy h;have⟨rfl,v,z,rfl⟩:=(e _ _ _).mp h;have⟨I,hm,c,d,rfl,hc,hd⟩:=Z.mem (Xb hy);have⟨l12,hS⟩:=hE I hm;delta LF
  simp![hd]
  obtain⟨A,u⟩:∃A:Nat->Sm->MH->Prop,∀j l M,A j l M↔M=w/\∃z,l=[wc (.ref p),wc (.ref f),wc (.ref a),wc (.ref b),wc (.tup [.str I.name,.ref c,.ref d]),z]:=⟨_,λ_ _ _=>XX⟩;erw[⟨A,(u _ _ _).mpr ⟨rfl,_,rfl⟩,λj l M h=>by rw[((u _ _ _).mp h).1];erw[hd],?_,?_⟩]
  .rintro i x l B N C;have⟨rfl,z,rfl⟩:=(u _ _ _).mp C;have⟨G,rfl⟩:=Yj N;have G:i<I.stps.length:=G;have⟨e1,ns,n,e2⟩:=hS _ (XS G);delta LD;simp!;erw[ex5 I.name (I.stps[i]) a b F ⟨rfl,W,U,nd,e1,_ck e2,?_⟩];simp!;erw[(u _ _ _).mpr ⟨rfl,_,rfl⟩]
  .rintro l B C;have⟨rfl,z,rfl⟩:=(u _ _ _).mp C
   try walk_at "s"
   erw[(e _ _ _).mpr ⟨rfl,_,_,rfl⟩]
 .rintro l w h;have⟨rfl,_⟩:=(e _ _ _).mp h;erw[q _ Y]
theorem FroD.up{M:MH}:∀{n:Nat} {v j:MV},FroD n M v j->FroD (n+1) M v j
 |0,_,_,h=>.inl h
 |n+1,v,j,h=>by
  rcases h with h|⟨l,u,w,y,z⟩
  .erw[.inl h]
  .erw[.inr ⟨l,u,w,y,λp m=>(z p m).up⟩]
def FroD.to{M:MH}{n m:Nat}{v j:MV}(h:FroD n M v j)(l:n<=m):FroD m M v j:=by
 obtain⟨d,rfl⟩:∃d,m=n+d:=⟨m - n,by lia⟩
 clear l
 induction d with
 |zero=>erw[h]
 |succ d u=>erw[u.up]
def fro_str{M:MH}{z:Str}:FroD 0 M (.str z) (.str z):=⟨.inr ⟨z,rfl⟩,rfl⟩
def fro_int{M:MH}{i:Int}:FroD 0 M (.int i) (.int i):=⟨.inl ⟨i,rfl⟩,rfl⟩
def U3{M:MH}{n:Nat}{j:List MV}(l:j.length<=1000)(h:∀x∈j,FroD n M x x):FroD (n+1) M (.tup j) (.tup j):=by
 have u:(j.map λx=>(x,x)).map (·.1)=j:=by rw[Y9];erw[Bb j]
 have w:(j.map λx=>(x,x)).map (·.2)=j:=by rw[Y9];erw[Bb j]
 erw[.inr ⟨j.map λx=>(x,x),.inl (by rw[u]),by rw[w],by rw[X5];erw[l],λp y=>?_⟩]
 have⟨x,z,rfl⟩:=XA.mp y;erw[h x z]
def Fc{M:MH}{n:Nat}{a:Addr}{j:List MV}(e:M a=wc (.lst j))(l:j.length<=1000)(h:∀x∈j,FroD n M x x):FroD (n+1) M (.ref a) (.tup j):=by
 have u:(j.map λx=>(x,x)).map (·.1)=j:=by rw[Y9];erw[Bb j]
 have w:(j.map λx=>(x,x)).map (·.2)=j:=by rw[Y9];erw[Bb j]
 erw[.inr ⟨j.map λx=>(x,x),.inr ⟨a,rfl,by rw[u];erw[e]⟩,by rw[w],by rw[X5];erw[l],λp y=>?_⟩]
 have⟨x,z,rfl⟩:=XA.mp y;erw[h x z]
theorem UV{M:MH}:∀U:Tm,FroD U.depth M U.mv U.mv
 |.num n=>U3 (j:=[.str "num",.int n]) (by simp) (by
   intro x j;simp only[Xk,XN,or_false]at j;rcases j with rfl|rfl
   .erw[fro_str]
   .erw[fro_int])
 |.var z=>U3 (j:=[.str "var",.str z]) (by simp) (by
   intro x j;simp only[Xk,XN,or_false]at j;rcases j with rfl|rfl
   .erw[fro_str]
   .erw[fro_str])
 |.two f a b=>by
  have l:=UV (M:=M) a;have u:=UV (M:=M) b;show FroD (1+max a.depth b.depth) M (.tup [.str f.str,a.mv,b.mv]) (.tup [.str f.str,a.mv,b.mv]);rw[UK];erw[U3 (by simp) λx j=>?_]
  simp only[Xk,XN,or_false]at j;rcases j with rfl|rfl|rfl
  .erw[fro_str.to (Yg _)]
  .erw[l.to (by lia)]
  .erw[u.to (by lia)]
 |.pick c a b=>by
  have w:=UV (M:=M) c;have l:=UV (M:=M) a;have u:=UV (M:=M) b;show FroD (1+max c.depth (max a.depth b.depth)) M (.tup [.str "pick",c.mv,a.mv,b.mv]) (.tup [.str "pick",c.mv,a.mv,b.mv]);rw[UK];erw[U3 (by simp) λx j=>?_]
  simp only[Xk,XN,or_false]at j;rcases j with rfl|rfl|rfl|rfl
  .erw[fro_str.to (Yg _)]
  .erw[w.to (by lia)]
  .erw[l.to (by lia)]
  .erw[u.to (by lia)]
def _lO{M:MH}{fs l:List Str}{n:Nat}{S:Stp}(h:Za fs l n S):FroD 9 M S.mv S.mv:=by
 cases S with
 |take f x=>
  erw[U3 (j:=[.str "take",.str f,.str x]) (by simp) fun v j=>?_]
  simp only[Xk,XN,or_false]at j;rcases j with rfl|rfl|rfl<;>erw[fro_str.to (by decide)]
 |give f U=>
  erw[U3 (j:=[.str "give",.str f,U.mv]) (by simp) fun v j=>?_]
  simp only[Xk,XN,or_false]at j;rcases j with rfl|rfl|rfl
  .erw[fro_str.to (by decide)]
  .erw[fro_str.to (by decide)]
  .erw[(UV U).to h.2.1]
 |put f U=>
  erw[U3 (j:=[.str "put",.str f,U.mv]) (by simp) fun v j=>?_]
  simp only[Xk,XN,or_false]at j;rcases j with rfl|rfl|rfl
  .erw[fro_str.to (by decide)]
  .erw[fro_str.to (by decide)]
  .erw[(UV U).to h.2.1]
 |jump U i=>
  erw[U3 (j:=[.str "jump",U.mv,.int i]) (by simp) fun v j=>?_]
  simp only[Xk,XN,or_false]at j;rcases j with rfl|rfl|rfl
  .erw[fro_str.to (by decide)]
  .erw[(UV U).to h.1.1]
  .erw[fro_int.to (by decide)]
def _mY{M:MH}{k:Nat}{fs:List Str}{I:Isl}{y:MV}(ok:IslOk k fs I)(h:IslIn M I y):FroD 11 M y I.mv:=by
 have⟨a,b,rfl,w,z⟩:=h;have g:=ok.nv;have d:=ok.ns;erw[.inr ⟨[(.str I.name,.str I.name),(.ref a,.tup (I.prs.map prV)),(.ref b,.tup (I.stps.map Stp.mv))],.inl rfl,rfl,by simp,λp l=>?_⟩]
 simp only[Xk,XN,or_false]at l;rcases l with rfl|rfl|rfl
 .erw[fro_str.to (by decide)]
 .erw[Fc w (by rw[X5];lia) λx j=>?_]
  have⟨q,_,rfl⟩:=XA.mp j;erw[(U3 (n:=0) (j:=[.str q.1,.int q.2]) (by simp) λv u=>?_).to (by decide)]
  simp only[Xk,XN,or_false]at u;rcases u with rfl|rfl
  .erw[fro_str]
  .erw[fro_int]
 .erw[Fc z (by rw[X5];lia) λx j=>?_]
  have⟨S,m,rfl⟩:=XA.mp j;erw[_lO (ok.st S m)]
def _no{M:MH}(f:Fer):FroD 1 M f.mv f.mv:=by
 erw[U3 (j:=[.str f.name,.str f.giver,.str f.taker,.int f.k,.int f.st]) (by simp) λv j=>?_]
 simp only[Xk,XN,or_false]at j;rcases j with rfl|rfl|rfl|rfl|rfl
 .erw[fro_str]
 .erw[fro_str]
 .erw[fro_str]
 .erw[fro_int]
 .erw[fro_int]
def _kk{M:MH}{k:Nat}{fs:List Str}{Is:List Isl}{j:List MV}{p:Addr}(y:M p=wc (.lst j))(h:IslsIn M Is j)(l:Is.length<=5)(ok:∀I∈Is,IslOk k fs I):FroD 12 M (.ref p) (.tup (Is.map Isl.mv)):=by
 have c:=h.1;have z:(j.zip (Is.map Isl.mv)).map (·.1)=j:=List.map_fst_zip (by rw[X5];lia)
 have m:(j.zip (Is.map Isl.mv)).map (·.2)=Is.map Isl.mv:=List.map_snd_zip (by rw[X5];lia)
 erw[.inr ⟨j.zip (Is.map Isl.mv),.inr ⟨p,rfl,by rw[z];erw[y]⟩,by rw[m],by rw[B9,X5];lia,λq g=>?_⟩]
 have⟨i,d,rfl⟩:=Yq g;rw[B9,X5]at d;have w:i<j.length:=by lia
 have u:i<Is.length:=by lia
 rw[List.getElem_zip,D8];erw[_mY (ok _ (XS u)) (h.2 i _ _ (X6 u) (X6 w))]
noncomputable def fstM:MV->MV
 |.tup (x::_)=>x
 |v=>v
abbrev As:SpM:=λu M Q=>∃(p f:Addr) (j:List MV) (W:Wld),u=[.int W.w,.ref p,.ref f]/\M p=wc (.lst j)/\IslsIn M W.isl j/\M f=wc (.lst (W.fer.map Fer.mv))/\W.Good/\∀l,SameM M l->Q W.mv l
def Q8:MonW As:=by walk_at "m"
def _mB(T:Txt E):FO E 56 "made" As:=by
 erw[T.bE.ok T.g Q8 3 ["width","islands","ferries","island_names","ferry"] (fC T (fc (PN T 13) (fc (_ek T) (fc (_9x T) (fc (_46 T) (fc (_7l T) (fc (_59 T) f0))))))) LS (fun vs M Q h=>?_)];have⟨p,f,P,W,rfl,g,w,m,G,q⟩:=h;erw[⟨rfl,?_⟩];have d:=U1 (u:=[("frozen",UU 13),("is_width",EX),("refuse_ferry",F8),("refuse_ferry_names",F0),("refuse_islands",F7),("refuse_wrong_ends",Fa)]) (fMc (Cp 13) (fMc PR (fMc Q3 (fMc PX (fMc Q2 (fMc Q6 (fun _ h=>nomatch h)))))));show wSs _ _ _ [wc (.int W.w),wc (.ref p),wc (.ref f),we,we] M;have w1:=G.w1;have w2:=G.w2;have A:=G.i5;have B:=G.f6;have hl:=w.1;have nd:=Yy.mp G.nd;delta LS;simp!;erw[⟨W.w,rfl,by lia,by lia,?_⟩]
 simp!;delta LR
 simp![g]
 erw[XY (λz=>by lia) (λ_=>?_)]
 delta LQ
 simp![m,X5]
 erw[XY (λz=>by lia) (λ_=>?_)]
 delta LP;simp!;erw[⟨f,W.fer,rfl,m,B,nd.1,λx R=>G.fg _ (XA.mpr ⟨x,R,rfl⟩),λM1 s1=>?_⟩];simp!;have c:=s1 _ _ m;delta LO;simp!;erw[Ur W.fer Fer.mv (λx=>.str x.name) ?_ ?_ d λD C=>?_]
 .simp![c]
  erw[⟨rfl,by lia,c⟩]
 .intro x R l s;simp only[sCm,Xz,Ys,Z6,YQ,YR,Yr]
  simp![Fer.mv]
  try erw[⟨rfl,rfl⟩]
 have eF:(W.fer.map λx=>MV.str x.name)=W.fns.map MV.str:=by unfold Wld.fns;rw[Y9];rfl
 rw[eF];have F:=s1.trans (SameM.new C (.lst (W.fns.map MV.str)));have X:updM M1 D (.lst (W.fns.map MV.str)) D=wc (.lst (W.fns.map MV.str)):=X9;generalize updM M1 D _=M2 at*
 try walk_at "s"
 erw[ex6 W.w p D W.isl P W.fns ⟨rfl,w2,F _ _ g,w.keep F,A,by unfold Wld.fns;rw[X5];erw[B],X,G.nd,λI e=>G.ig _ (XA.mpr ⟨I,e,rfl⟩),G.io,λM3 s3=>?_⟩]
 have U:=F.trans s3;have L:=U _ _ g;have hf3:=U _ _ m;have H:=w.keep U;simp!;delta LN;simp!;erw[Ur P (λy=>y) fstM ?_ ?_ d λD C=>?_]
 .simp![L]
  erw[⟨by simp[Src.items],by lia,L⟩]
 .intro y o l s;have⟨I,_,a,b,rfl,_⟩:=H.mem o;simp only[sCm,Xz,Ys,Z6,YQ,YR,Yr];simp!
  rfl
 have eI:P.map fstM=W.ins.map MV.str:=w.fst λz r=>rfl;rw[eI];have Y:=U.trans (SameM.new C (.lst (W.ins.map MV.str)));have i:updM M3 D (.lst (W.ins.map MV.str)) D=wc (.lst (W.ins.map MV.str)):=X9;generalize updM M3 D _=M5 at*;have u:=Y _ _ m;delta LM
 simp![u]
 obtain⟨J,N⟩:∃J:Nat->Sm->MH->Prop,∀j O l,J j O l↔l=M5/\∃v,O=[wc (.int W.w),wc (.ref p),wc (.ref f),wc (.ref D),v]:=⟨_,λ_ _ _=>XX⟩;erw[⟨J,(N _ _ _).mpr ⟨rfl,_,rfl⟩,λj O l h=>by rw[((N _ _ _).mp h).1];erw[u],?_,?_⟩]
 .rintro j y O l o h;have⟨rfl,v,rfl⟩:=(N _ _ _).mp h;have⟨hj,rfl⟩:=Yj o;have hj:j<W.fer.length:=hj;delta LL;simp!;erw[ex3 (W.fer[j]) D W.ins ⟨rfl,i,G.fo _ (XS hj),?_⟩];simp!;erw[(N _ _ _).mpr ⟨rfl,_,rfl⟩]
 .rintro O l h;have⟨rfl,v,rfl⟩:=(N _ _ _).mp h;delta LK;simp!;erw[ex5 p f P W.isl W.fer ⟨rfl,Y _ _ g,w.keep Y,A,u,B,nd.1,λI e=>⟨(G.io I e).ns,λS hS=>⟨G.en I e S hS,_,_,(G.io I e).st S hS⟩⟩,λM6 s6=>?_⟩];have Z:=Y.trans s6;simp!;delta LJ;simp!;erw[⟨_,W.mv,rfl,?_,λl s'=>q l (Z.trans s')⟩];erw[.inr ⟨[(.int W.w,.int W.w),(.ref p,.tup (W.isl.map Isl.mv)),(.ref f,.tup (W.fer.map Fer.mv))],.inl rfl,rfl,by simp,λz hz=>?_⟩]
  simp only[Xk,XN,or_false]at hz;rcases hz with rfl|rfl|rfl
  .erw[fro_int.to (by decide)]
  .erw[_kk (Z _ _ g) (w.keep Z) A G.io]
  .erw[(Fc (n:=1) (Z _ _ m) (by rw[X5];lia) λx R=>?_).to (by decide)]
   have⟨y,_,rfl⟩:=XA.mp R;erw[_no y]
def _en(m:Nat):∀n:Nat,(m^^^n)+2*(m&&& n)=m+n:=by
 induction m using Nat.strongRecOn with
 |ind m l=>
  intro n;by_cases h0:m=0
  .subst h0;simp
  .have j:=l (m/2) (by lia) (n/2)
   rw[<-Nat.xor_div_two,<-Nat.and_div_two]at j;have u:=@Nat.xor_mod_two_eq_one m n;have w:=@Nat.and_mod_two_eq_one m n;lia
noncomputable def seen(o n c:Nat):Nat:=o^^^((o^^^n)&&& c)
def Cr(m n:Nat):BM (m:Int) (n:Int)=((m^^^n:Nat):Int):=by
 rw[PyProof.Rows.bitXor_and,FZ (Uf m) (Uf n),Z0,Z0];have:=_en m n;lia
def _kB(m n:Nat):BL (m:Int) (n:Int)=((m&&& n:Nat):Int):=by
 rw[FZ (Uf m) (Uf n),Z0,Z0]
noncomputable def gray(n:Nat):Nat:=n^^^(n/2)
noncomputable def ugF:Nat->Nat->Nat->Nat
 |0,n,_=>n
 |k+1,n,a=>if a=0 then n else ugF k (n^^^a) (a/2)
def _js:∀k n,ugF k n 0=n
 |0,_=>rfl
 |k+1,n=>by simp[ugF]
def Wh(w:Nat):Nat:=ugF 64 w (w/2)
noncomputable def Cs(x:Nat):Bool:=x==1||x==2||x==4||x==8
def ZnY(m:Nat):Bool:=(Xq (2^(m+1))).all λn=>decide (gray n<16)&&decide (Wh (gray n)=n)&&Cs (gray n^^^gray ((n+1)%2^(m+1)))
def _jt:(Xq 4).all ZnY=wf:=by decide+kernel
def Q9{m n:Nat}(l:m<4)(u:n<2^(m+1)):gray n<16/\Wh (gray n)=n/\Cs (gray n^^^gray ((n+1)%2^(m+1)))=wf:=by
 have w:=VD.mp _jt m (Zl.mpr l);have j:=VD.mp w n (Zl.mpr u);simp only[XU,decide_eq_true_eq]at j;erw[⟨j.1.1,j.1.2,j.2⟩]
def _nB{x c:Nat}(h:Cs x=wf):x&&& c=0\/x&&& c=x:=by
 have l:∀i:Nat,(2^i&&& c)=0\/(2^i&&& c)=2^i:=λi=>by
  cases h:c.testBit i with
  |false=>
   left
   erw[Nat.eq_of_testBit_eq λj=>?_];rw[Nat.testBit_and,Nat.testBit_two_pow,Nat.zero_testBit];by_cases e:i=j
   .subst e;rw[h,Bs]
   .rw[decide_eq_false e,WF]
  |true=>
   right
   erw[Nat.eq_of_testBit_eq λj=>?_];rw[Nat.testBit_and,Nat.testBit_two_pow];by_cases e:i=j
   .subst e;rw[h,Bool.and_true]
   .rw[decide_eq_false e,WF]
 unfold Cs at h;simp only[Dp,beq_iff_eq]at h;rcases h with((rfl|rfl)|rfl)|rfl
 .erw[l 0]
 .erw[l 1]
 .erw[l 2]
 .erw[l 3]
set_option tactic.hygienic true in
def _hc{m a b c:Nat}(u:m<4)(h:a=b\/a=b+1):
  seen (gray (b%2^(m+1))) (gray (a%2^(m+1))) c=if c&&&(gray (a%2^(m+1))^^^gray (b%2^(m+1)))=0 then gray (b%2^(m+1))else gray (a%2^(m+1)):=by
 have l:0<2^(m+1):=ZD _;have w:=Q9 u (UL b l);have y:a=b+1->(b%2^(m+1)+1)%2^(m+1)=a%2^(m+1):=λe=>by rw[e,Nat.mod_add_mod]
 unfold seen;rcases h with rfl|h
 .rw[Nat.xor_self,Nat.and_zero,if_pos rfl,Nat.zero_and,Nat.xor_zero]
 .have j:=w.2.2;rw[y h]at j;rw[Nat.and_comm c,Nat.xor_comm (gray (a%2^(m+1)))];rcases _nB (c:=c) j with e|e
  .rw[e,if_pos rfl,Nat.xor_zero]
  .rw[e,<-Nat.xor_assoc,Nat.xor_self,Nat.zero_xor];split
   .rename_i z
    rw[z]at j;cases j
   .rfl
structure Ab where
 k:Nat
 ws:List Nat
 tn:Nat
 gp:Nat
 tp:Nat
 gm:Int
 tm:Int
 gx:List Nat
 tx:List Nat
 lg:Nat
 lt:Nat
def ZM(k n p:Nat)(fresh:Bool)(c:Nat):Nat:=if fresh=wf/\c&&&(gray (n%2^(k+1))^^^gray (p%2^(k+1)))=0 then p else n
noncomputable def XF(j:List Nat):Nat:=j.getLastD 0
def Ab.gSamp(A:Ab)(c:Nat):Nat:=ZM A.k A.tn A.tp (decide (A.gm<A.tm)) c
def Ab.tSamp(A:Ab)(c:Nat):Nat:=ZM A.k A.ws.length A.gp (decide (A.tm<A.gm)) c
def Ab.gives(A:Ab)(w:Option Nat):Bool:=w.isSome&&decide (A.ws.length<XF A.gx+2^A.k)
def Ab.takes(A:Ab)(w:Bool):Bool:=w&&decide (XF A.tx≠A.tn)
noncomputable def Ab.giver(A:Ab)(m:Int)(c:Nat)(w:Option Nat):Ab:=
 {A with ws:=if A.gives w=wf then A.ws++[w.getD 0]else A.ws,gp:=A.ws.length,gm:=m,gx:=A.gSamp c::A.gx.dropLast,lg:=A.tn}
noncomputable def Ab.taker(A:Ab)(m:Int)(c:Nat)(w:Bool):Ab:=
 {A with tn:=if A.takes w=wf then A.tn+1 else A.tn,tp:=A.tn,tm:=m,tx:=A.tSamp c::A.tx.dropLast,lt:=A.ws.length}
structure Ab.Ok (A:Ab):Prop where
 k4:A.k<4
 gl:1<=A.gx.length/\A.gx.length<=3
 tl:A.tx.length=A.gx.length
 g1:A.gp<=A.ws.length/\A.ws.length<=A.gp+1
 t1:A.tp<=A.tn/\A.tn<=A.tp+1
 gs:A.gx.Pairwise (·>= ·)
 ts:A.tx.Pairwise (·>= ·)
 gb:∀d∈A.gx,d<=A.lg/\A.ws.length<=d+2^A.k
 tb:∀c∈A.tx,c<=A.lt/\A.tn<=c
 lg1:A.lg<=A.tn
 lt1:A.lt<=A.ws.length
 lg2:A.gm<A.tm->A.lg<=A.tp
 lt2:A.tm<A.gm->A.lt<=A.gp
theorem Wi:∀{j:List Nat},1<=j.length->j=j.dropLast++[XF j]
 |[],h=>by simp at h
 |[a],_=>rfl
 |a::b::s,_=>by
  have l:=Wi (j:=b::s) (by simp)
  have e:XF (a::b::s)=XF (b::s):=by simp[XF]
  rw[e];show a::b::s=a::((b::s).dropLast++[XF (b::s)]);rw[<-l]
def _r{j:List Nat}(h:1<=j.length):XF j∈j:=by
 have e:=Wi h;rw[e];have l:XF (j.dropLast++[XF j])=XF j:=by rw[<-e]
 rw[l];simp
def _jm{k n p:Nat}{f:Bool}{c:Nat}:ZM k n p f c=p\/ZM k n p f c=n:=by
 unfold ZM;split
 .erw[.inl rfl]
 .erw[.inr rfl]
def _jl{k n p:Nat}{c:Nat}:ZM k n p wg c=n:=by simp[ZM]
def Qa{k n p l:Nat}{f:Bool}{c:Nat}(u:p<=n)(j:l<=n)(w:f=wf->l<=p):l<=ZM k n p f c/\ZM k n p f c<=n:=by
 cases f with
 |false=>rw[_jl];erw[⟨j,Xa _⟩]
 |true=>
  rcases @_jm k n p wf c with e|e
  all_goals first|erw[⟨by rw[e];erw[w rfl],by rw[e];erw[u]⟩]|erw[⟨by rw[e];erw[j],by rw[e];erw[Xa _]⟩]
theorem Ab.Ok.gSamp{A:Ab}(h:A.Ok)(c:Nat):A.lg<=A.gSamp c/\A.gSamp c<=A.tn:=Qa h.t1.1 h.lg1 (λf=>h.lg2 (of_decide_eq_true f))
theorem Ab.Ok.tSamp{A:Ab}(h:A.Ok)(c:Nat):A.lt<=A.tSamp c/\A.tSamp c<=A.ws.length:=Qa h.g1.1 h.lt1 (λf=>h.lt2 (of_decide_eq_true f))
def Ab.Ok.room{A:Ab}(h:A.Ok):A.tn<=A.ws.length/\A.ws.length<=A.tn+2^A.k:=by
 have a:=h.gb _ (_r h.gl.1);have b:=h.tb _ (_r (by rw[h.tl];erw[h.gl.1]))
 have:=h.lg1;have:=h.lt1;lia
set_option tactic.hygienic true in
theorem Ab.Ok.giver{A:Ab}(h:A.Ok){m:Int}{c:Nat}{w:Option Nat}(l:A.tm<m):(A.giver m c w).Ok:=by
 have y:=h.gSamp c;have g:=h.gb _ (_r h.gl.1);have r:=h.room;have f:∃n,(A.giver m c w).ws.length=n/\A.ws.length<=n/\n<=A.ws.length+1/\n<=XF A.gx+2^A.k:=by
  unfold Ab.giver;dsimp only;split
  .rename_i e
   unfold Ab.gives at e;simp only[XU,decide_eq_true_eq]at e;erw[⟨_,rfl,by simp,by simp,by simp;lia⟩]
  .erw[⟨_,rfl,by lia,by lia,by lia⟩]
 have⟨n,j,u,q,L⟩:=f;erw[⟨h.k4,?_,?_,?_,h.t1,?_,h.ts,?_,?_,Xa _,?_,λz=>?_,λz=>?_⟩]
 .show 1<=(A.gSamp c::A.gx.dropLast).length/\(A.gSamp c::A.gx.dropLast).length<=3;have:=h.gl;simp only[Yi,V8];lia
 .show A.tx.length=(A.gSamp c::A.gx.dropLast).length;have:=h.gl;have:=h.tl;simp[V8];lia
 .rw[j];erw[⟨u,q⟩]
 .show(A.gSamp c::A.gx.dropLast).Pairwise (·>= ·);rw[D5];erw[⟨λd hd=>?_,Gs (List.dropLast_sublist _) h.gs⟩];have:=(h.gb d (B4 _ hd)).1;show d<=A.gSamp c;lia
 .intro d hd;rw[j];show d<=A.tn/\n<=d+2^A.k;rcases Xk.mp hd with rfl|hd
  .have:=g.1;erw[⟨y.2,by lia⟩]
  .have l:=B4 _ hd;erw[⟨Xy (h.gb d l).1 h.lg1,?_⟩];have:XF A.gx<=d:=by
    have e:=Wi h.gl.1;have p:=h.gs;rw[e]at p;erw[(List.pairwise_append.mp p).2.2 d hd _ (Y1.mpr rfl)]
   lia
 .erw[h.tb]
 .rw[j];erw[Xy h.lt1 u]
 .erw[absurd z (by show¬m<A.tm;lia)]
 .erw[h.lt1]
set_option tactic.hygienic true in
theorem Ab.Ok.taker{A:Ab}(h:A.Ok){m:Int}{c:Nat}{w:Bool}(u:A.gm<m):(A.taker m c w).Ok:=by
 have g:=h.tSamp c;have j:1<=A.tx.length:=by rw[h.tl];erw[h.gl.1]
 have f:=h.tb _ (_r j);have L:=h.room;have q:∃n,(A.taker m c w).tn=n/\A.tn<=n/\n<=A.tn+1/\n<=XF A.tx:=by
  unfold Ab.taker;dsimp only;split
  .rename_i e
   unfold Ab.takes at e;simp only[XU,decide_eq_true_eq]at e;erw[⟨_,rfl,by simp,by simp,by lia⟩]
  .erw[⟨_,rfl,by lia,by lia,by lia⟩]
 have⟨n,l,y,r,N⟩:=q;erw[⟨h.k4,h.gl,?_,h.g1,?_,h.gs,?_,?_,?_,?_,Xa _,λz=>?_,λz=>?_⟩]
 .show(A.tSamp c::A.tx.dropLast).length=A.gx.length;have:=h.tl;simp[V8];lia
 .rw[l];erw[⟨y,r⟩]
 .show(A.tSamp c::A.tx.dropLast).Pairwise (·>= ·);rw[D5];erw[⟨λd hd=>?_,Gs (List.dropLast_sublist _) h.ts⟩];have:=(h.tb d (B4 _ hd)).1;show d<=A.tSamp c;lia
 .erw[h.gb]
 .intro d hd;rw[l];show d<=A.ws.length/\n<=d;rcases Xk.mp hd with rfl|hd
  .erw[⟨g.2,by have:=f.1;lia⟩]
  .have u:=B4 _ hd;erw[⟨Xy (h.tb d u).1 h.lt1,?_⟩];have:XF A.tx<=d:=by
    have e:=Wi j;have p:=h.ts;rw[e]at p;erw[(List.pairwise_append.mp p).2.2 d hd _ (Y1.mpr rfl)]
   lia
 .rw[l];erw[Xy h.lg1 y]
 .erw[h.lg1]
 .erw[absurd z (by show¬m<A.gm;lia)]
noncomputable def ab0(k st:Nat):Ab:=⟨k,[],0,0,0,-1,-1,Xj st 0,Xj st 0,0,0⟩
def Qb(n:Nat):(Xj n 0).Pairwise (·>= ·):=by
 induction n with
 |zero=>erw[.nil]
 |succ n j=>rw[Zk,D5];erw[⟨λd hd=>by rw[V6 hd];erw[Xa _],j⟩]
def _q3{k st:Nat}(j:k<4)(l:1<=st)(u:st<=3):(ab0 k st).Ok:=by
 erw[⟨j,by simpa [ab0]using⟨l,u⟩,by simp[ab0],by simp[ab0],by simp[ab0],Qb _,Qb _,?_,?_,Xa _,Xa _,λz=>Xa _,λz=>Xa _⟩]
 .intro d hd;rw[V6 hd];erw[⟨Xa _,Yg _⟩]
 .intro d hd;rw[V6 hd];erw[⟨Xa _,Xa _⟩]
def PlOk(A:Ab)(l:List (Nat×Nat×Int)):Prop:=l.length=2^A.k/\∀j (w:j<A.ws.length),A.ws.length<=j+2^A.k->∃u,l[j%2^A.k]?=wc (A.ws[j],u,A.gm)/\(j<A.gp->u=A.ws[j])
noncomputable def YV(A:Ab)(m:Int)(w:Option Nat)(j:List (Nat×Nat×Int)):List (Nat×Nat×Int):=
 (Xq j.length).map λi=>((if A.gives w=wf/\i=A.ws.length%2^A.k then w.getD 0 else(j.getD i (0,0,0)).1),(j.getD i (0,0,0)).1,m)
def _pp{a b n:Nat}(l:a<b)(u:b<a+n):a%n≠b%n:=by
 intro e;have j:(b - a)%n=0:=Nat.sub_mod_eq_zero_of_mod_eq e.symm;rw[Nat.mod_eq_of_lt (by lia)]at j
 lia
def _g4{A:Ab}{m:Int}{c:Nat}{w:Option Nat}{l:List (Nat×Nat×Int)}(h:PlOk A l):PlOk (A.giver m c w) (YV A m w l):=by
 have r:0<2^A.k:=ZD _;erw[⟨?_,?_⟩]
 .show(YV A m w l).length=2^A.k;simp[YV,h.1]
 .intro j p f;have f:(A.giver m c w).ws.length<=j+2^A.k:=f;show∃q,(YV A m w l)[j%2^A.k]?=wc ((A.giver m c w).ws[j],q,m)/\(j<A.ws.length->q=(A.giver m c w).ws[j]);have lt:j%2^A.k<l.length:=by rw[h.1];erw[UL _ r]
  have get:(YV A m w l)[j%2^A.k]?=wc ((if A.gives w=wf/\j%2^A.k=A.ws.length%2^A.k then w.getD 0 else(l.getD (j%2^A.k) (0,0,0)).1),(l.getD (j%2^A.k) (0,0,0)).1,m):=by
   unfold YV;rw[Xe,VC lt]
   rfl
  rw[get];by_cases g:A.gives w=wf
  .have d:(A.giver m c w).ws=A.ws++[w.getD 0]:=by unfold Ab.giver;rw[if_pos g]
   have O:j<A.ws.length+1:=by rw[d]at p;simpa using p
   have P:A.ws.length+1<=j+2^A.k:=by rw[d]at f;simpa using f
   by_cases e:j=A.ws.length
   .subst e;erw[⟨(l.getD (A.ws.length%2^A.k) (0,0,0)).1,?_,λz=>absurd z (ZE _)⟩];rw[if_pos ⟨g,rfl⟩];simp[d]
   .have u:j<A.ws.length:=by lia
    have⟨q,L,_⟩:=h.2 j u (by lia)
    have R:=_pp (n:=2^A.k) u (by lia)
    have N:l.getD (j%2^A.k) (0,0,0)=(A.ws[j],q,A.gm):=by rw[Y6,L];rfl
    have y:(A.giver m c w).ws[j]=A.ws[j]:=by simp[d,u]
    erw[⟨A.ws[j],?_,λ_=>y.symm⟩];rw[if_neg (λz=>R z.2),N,y]
  .have d:(A.giver m c w).ws=A.ws:=by unfold Ab.giver;rw[if_neg g]
   have u:j<A.ws.length:=by rw[d]at p;erw[p]
   have⟨q,L,_⟩:=h.2 j u (by rw[d]at f;erw[f])
   have N:l.getD (j%2^A.k) (0,0,0)=(A.ws[j],q,A.gm):=by rw[Y6,L];rfl
   have y:(A.giver m c w).ws[j]=A.ws[j]:=by simp[d]
   erw[⟨A.ws[j],?_,λ_=>y.symm⟩];rw[if_neg (λz=>g z.1),N,y]
def _gS{A:Ab}(h:A.Ok){w:List (Nat×Nat×Int)}(y:PlOk A w)(c:XF A.tx≠A.tn):∃(l:A.tn<A.ws.length) (j:Nat),w[A.tn%2^A.k]?=wc (A.ws[A.tn],j,A.gm)/\(A.tm<A.gm->j=A.ws[A.tn]):=by
 have u:1<=A.tx.length:=by rw[h.tl];erw[h.gl.1]
 have f:=h.tb _ (_r u);have m:=h.room;have q:=h.lt1;have l:A.tn<A.ws.length:=by lia
 have⟨j,g,d⟩:=y.2 A.tn l m.2;erw[⟨l,j,g,λz=>d (by have:=h.lt2 z;lia)⟩]
def _hb(a c:Nat):seen a a c=a:=by simp[seen]
def _jN{A:Ab}(h:A.Ok):(((A.ws.length:Int) - ((XF A.gx%2^(A.k+1):Nat):Int))%((2^(A.k+1):Nat):Int)<((2^A.k:Nat):Int))↔A.ws.length<XF A.gx+2^A.k:=by
 have a:=h.gb _ (_r h.gl.1);have j:=h.room;have l:=h.lg1;have e:((A.ws.length:Int) - ((XF A.gx%2^(A.k+1):Nat):Int))%((2^(A.k+1):Nat):Int)=((A.ws.length - XF A.gx:Nat):Int):=by
  rw[Du,Bz,Int.emod_emod,<-Bz];have:(A.ws.length:Int) - (XF A.gx:Int)=((A.ws.length - XF A.gx:Nat):Int):=by lia
  rw[this,<-Du,Nat.mod_eq_of_lt (by rw[Nat.pow_succ];have:=ZD A.k;lia)]
 rw[e];lia
def Qc{A:Ab}(h:A.Ok):(((A.tn:Int) - ((XF A.tx%2^(A.k+1):Nat):Int))%((2^(A.k+1):Nat):Int)=0)↔XF A.tx=A.tn:=by
 have j:1<=A.tx.length:=by rw[h.tl];erw[h.gl.1]
 have a:=h.tb _ (_r j);have w:=h.room;have y:=h.lt1;have p:=ZD A.k;rw[Du,Bz,Int.emod_emod,<-Bz];constructor
 .intro z;have d:=Int.dvd_of_emod_eq_zero z;have l:((2^(A.k+1):Nat):Int)∣((XF A.tx - A.tn:Nat):Int):=by
   have:((XF A.tx - A.tn:Nat):Int)= -((A.tn:Int) - (XF A.tx:Int)):=by lia
   rw[this];erw[Int.dvd_neg.mpr d]
  have u:=Int.natCast_dvd_natCast.mp l;have:=Nat.eq_zero_of_dvd_of_lt u (by rw[Nat.pow_succ];lia)
  lia
 .intro z;rw[z,Int.sub_self];rfl
abbrev Qd:SpM:=λj M Q=>∃(o n c:Nat),j=[.int o,.int n,.int c]/\Q (.int (seen o n c:Nat)) M
def _es:MonW Qd:=by walk_at "m"
def _mD(T:Txt E):FO E 1 "amid" Qd:=by
 erw[T.cc.ok T.g _es 3 ["old","new","choice"] (fC T f0) Jz (fun j M Q h=>?_)];have⟨o,n,c,rfl,q⟩:=h;erw[⟨rfl,?_⟩];show wSs _ _ _ [wc (.int o),wc (.int n),wc (.int c)] M;delta Jz;simp!;rw[Cr,_kB,Cr];erw[q]
abbrev Fe:SpM:=λj M Q=>∃w:Int,j=[.int w]/\Q (.tup [.int w,.int w,.int (-1)]) M
def _7s:MonW Fe:=by walk_at "m"
def Qe(T:Txt E):FO E 1 "first_sign" Fe:=by
 erw[T.aE.ok T.g _7s 1 ["word"] (fC T f0) JH (fun j M Q h=>?_)];have⟨n,rfl,q⟩:=h;erw[⟨rfl,?_⟩];show wSs _ _ _ [wc (.int n)] M;delta JH;simp!;erw[q]
abbrev Wj:SpM:=λj M Q=>∃a b c w m:Int,j=[.tup [.int a,.int b,.int c],.int w,.int m]/\Q (.tup [.int w,.int a,.int m]) M
def Qf:MonW Wj:=by walk_at "m"
def Qg(T:Txt E):FO E 1 "shown" Wj:=by
 erw[T.b9.ok T.g Qf 3 ["sign","word","moment"] (fC T f0) JI (fun j M Q h=>?_)];have⟨a,b,c,w,m,rfl,q⟩:=h;erw[⟨rfl,?_⟩];show wSs _ _ _ [wc (.tup [.int a,.int b,.int c]),wc (.int w),wc (.int m)] M;delta JI;simp!;erw[q]
abbrev At:SpM:=λj M Q=>∃(a b:Nat) (m s:Int) (c:Nat),j=[.tup [.int a,.int b,.int m],.int s,.int c]/\Q (.int ((if s<m then seen b a c else a:Nat):Int)) M
def _aN:MonW At:=by walk_at "m"
def Qh(T:Txt E):FO E 2 "sampled" At:=by
 erw[T.aF.ok T.g _aN 3 ["sign","since","choice"] (fC T (fc (_mD T) f0)) JM (fun j M Q h=>?_)];have⟨a,b,m,s,c,rfl,q⟩:=h;erw[⟨rfl,?_⟩];show wSs _ _ _ [wc (.tup [.int a,.int b,.int m]),wc (.int s),wc (.int c)] M;delta JM;simp!;erw[XY (λh=>?_) (λh=>?_)]
 .rw[if_pos h]at q;delta JL;simp!;erw[ex3 b a c ⟨rfl,q⟩]
 .rw[if_neg h]at q;delta JK;simp!;erw[q]
abbrev Qi:SpM:=λj M Q=>∃(w:Int) (k:Nat),j=[.int w,.int k]/\1<=k/\k<=3/\Q (.tup ((Xj k w).map MV.int)) M
def _6z:MonW Qi:=by walk_at "m"
theorem Ff{j:Type}(x:j):∀k:Nat,(Xj k [x]).flatten=Xj k x
 |0=>rfl
 |k+1=>by rw[Zk,Zx,Ff x k];rfl
def _aH(T:Txt E):FO E 1 "first_sight" Qi:=by
 erw[T.ay.ok T.g _6z 2 ["word","stages"] (fC T f0) JJ (fun j M Q h=>?_)];have⟨w,k,rfl,l,u,q⟩:=h;erw[⟨rfl,?_⟩];show wSs _ _ _ [wc (.int w),wc (.int k)] M;delta JJ;simp!;erw[⟨by lia,by lia,?_⟩]
 rw[Z0,Ff];rw[Wv]at q;erw[q]
abbrev Qj:SpM:=λj M Q=>∃(l:List Int) (a:Int),j=[.tup ((l++[a]).map MV.int)]/\Q (.int a) M
def _eq:MonW Qj:=by walk_at "m"
def _nD(j:List Int)(a:Int):atI ((j++[a]).map MV.int) (-1)=wc (.int a):=by
 unfold atI ixN;rw[if_neg (by decide),if_pos (by simp;lia)]
 have e:((-1:Int)+(((j++[a]).map MV.int).length:Int)).toNat=j.length:=by simp;lia
 rw[e];simp
def _mA(T:Txt E):FO E 1 "used" Qj:=by
 erw[T.bK.ok T.g _eq 1 ["sight"] (fC T f0) JO (fun l M Q h=>?_)];have⟨j,a,rfl,q⟩:=h;erw[⟨rfl,?_⟩];show wSs _ _ _ [wc (.tup ((j++[a]).map MV.int))] M;delta JO;simp!;erw[⟨_,_nD j a,q⟩]
abbrev Fg:SpM:=λl M Q=>∃(j:List Int) (a w:Int),l=[.tup ((j++[a]).map MV.int),.int w]/\j.length<=100/\Q (.tup ((w::j).map MV.int)) M
def _do:MonW Fg:=by walk_at "m"
def _k8(T:Txt E):FO E 1 "moved" Fg:=by
 erw[T.aO.ok T.g _do 2 ["sight","word"] (fC T f0) JN (fun u M Q h=>?_)];have⟨j,a,w,rfl,y,q⟩:=h;erw[⟨rfl,?_⟩];show wSs _ _ _ [wc (.tup ((j++[a]).map MV.int)),wc (.int w)] M;delta JN;simp!;have len:([MV.int w]++(j++[a]).map MV.int).length=j.length+2:=by simp
 have l:HT.sIx (j.length+2) (j.length+2) (wc (-1))=j.length+1:=by
  unfold HT.sIx;dsimp only;rw[if_pos (by decide)]
  lia
 have cut:cutM ([MV.int w]++(j++[a]).map MV.int) we (wc (-1))=(w::j).map MV.int:=by
  unfold cutM;rw[len,l,HT.sIx_none,Bo,De,XI,<-UE];rw[FS (by simp),V7 (by simp)]
  rfl
 erw[⟨by simp;lia,?_⟩]
 rw[cut];erw[q]
abbrev Fh:SpM:=λj M Q=>∃n:Nat,j=[.int n]/\Q (.int (gray n:Nat)) M
def _aR:MonW Fh:=by walk_at "m"
def Qk(T:Txt E):FO E 1 "code_of" Fh:=by
 erw[T.aH.ok T.g _aR 1 ["n"] (fC T f0) JA (fun j M Q h=>?_)];have⟨n,rfl,q⟩:=h;erw[⟨rfl,?_⟩];show wSs _ _ _ [wc (.int n)] M;delta JA;simp!;have e:(n:Int)/2=((n/2:Nat):Int):=by lia
 rw[e,Cr];erw[q]
abbrev Ql:SpM:=λl M Q=>∃j:Nat,l=[.int j]/\j<2^60/\Q (.int (Wh j:Nat)) M
def _8V:MonW Ql:=by walk_at "m"
def _db(T:Txt E):FO E 1 "number_of" Ql:=by
 erw[T.aL.ok T.g _8V 1 ["word","n","above"] (fC T f0) JG (fun f M Q h=>?_)];have⟨l,rfl,r,q⟩:=h;erw[⟨rfl,?_⟩];show wSs _ _ _ [wc (.int l),we,we] M;have j:∀a:Nat,(a:Int)/2=((a/2:Nat):Int):=λa=>by lia
 delta JG;simp!;delta JF;simp!;rw[j];delta JE;simp!;erw[⟨λm y z=>z=M/\∃n a k:Nat,a=m/\a<2^k/\ugF k n a=Wh l/\y=[wc (.int l),wc (.int n),wc (.int a)],⟨l/2,rfl,l,l/2,64,rfl,by lia,rfl,rfl⟩,?_⟩]
 rintro m y z ⟨rfl,n,a,k,rfl,g,u,rfl⟩;simp!;erw[XY (λc=>?_) (λc=>?_)]
 .delta JD;simp!;rw[Cr];delta JC;simp!;rw[j];obtain⟨w,rfl⟩:∃w,k=w+1:=⟨k - 1,by
   cases k with
   |zero=>simp at g;lia
   |succ k=>rfl⟩
  erw[⟨a/2,by lia,?_⟩]
  erw[⟨_,w,by rw[Nat.pow_succ]at g;lia,?_,rfl⟩]
  rw[ugF,if_neg (by lia)]at u
  erw[u]
 .have d:a=0:=by lia
  subst d;rw[_js]at u;rw[u];delta JB;simp!;erw[q]
noncomputable abbrev natM:Nat->MV:=λn=>.int n
noncomputable abbrev sgnM(s:Nat×Nat×Int):MV:=.tup [.int s.1,.int s.2.1,.int s.2.2]
def Xl(j n:Nat)(s:Nat×Nat×Int)(l:List Nat):MO:=.ins "Side" [("turn",.int j),("total",.int n),("sign",sgnM s),("sight",.tup (l.map natM))]
def Fi(j:List Nat):j.map natM=(j.map λn:Nat=>(n:Int)).map MV.int:=by rw[Y9];rfl
def Fj(a b:Nat):(a:Int)%(b:Int)=((a%b:Nat):Int):=by lia
def Qm{k n p:Nat}(j:k<4)(h:p<=n/\n<=p+1)(s m:Int)(c:Nat):(if s<m then seen (gray (p%2^(k+1))) (gray (n%2^(k+1))) c else gray (n%2^(k+1)))=gray (ZM k n p (decide (s<m)) c%2^(k+1)):=by
 unfold ZM;by_cases e:s<m
 .rw[if_pos e,_hc j (a:=n) (b:=p) (by lia)]
  by_cases f:c&&&(gray (n%2^(k+1))^^^gray (p%2^(k+1)))=0
  .rw[if_pos f,if_pos ⟨decide_eq_true e,f⟩]
  .rw[if_neg f,if_neg (λz=>f z.2)]
 .rw[if_neg e,if_neg (λz=>e (of_decide_eq_true z.1))]
abbrev Ct:SpM:=fun l M Q=>∃(a:Addr) (j st:Nat),l=[.ref a,.int j,.int st]/\M a=wc (.ins "Side" [])/\1<=st/\st<=3/\Q .non (updM M a (Xl j 0 (0,0,-1) (Xj st 0)))
def _5b:MonW Ct:=by walk_at "m"
def _8S(T:Txt E):FI E 2 "Side" Ct:=by
 erw[T.bU.oi T.ac T.ae T.g 3 ["self","turn","stages"] (fC T (fc (Qk T) (fc (_aH T) (fc (Qe T) f0)))) JS (fun z M Q h=>?_)];have⟨a,j,st,rfl,l,u,w,q⟩:=h;erw[⟨rfl,?_⟩];show wSs _ _ _ [wc (.ref a),wc (.int j),wc (.int st)] M;have y:gray 0=0:=by decide
 delta JS
 simp![l,putM]
 delta JR
 simp![putM,YI]
 delta JQ
 simp![putM,YI]
 erw[⟨0,rfl,?_⟩]
 simp![putM,YI]
 erw[⟨_,rfl,?_⟩]
 simp![putM,YI]
 delta JP
 simp![putM,YI]
 erw[⟨0,rfl,?_⟩]
 simp![putM,YI]
 erw[⟨_,st,rfl,u,w,?_⟩]
 simp![putM,YI]
 rw[y];have e:WB MV.int (Xj st (((0:Nat):Int)))=(Xj st 0).map natM:=by rw[Wv,Wv]
 rw[e];erw[q]
abbrev Vs:SpM:=λj M Q=>∃(a:Addr) (l n:Nat) (s:Nat×Nat×Int) (u:List Nat),j=[.ref a]/\M a=wc (Xl l n s u)/\Q (.int s.2.2) M
def Qn:MonW Vs:=by walk_at "m"
def Qo(T:Txt E):FM E 1 "Side" "ring_ahead" Vs:=by
 erw[T.bm.ok T.ac T.ae 1 ["self"] (fC T f0) JT (fun l M Q h=>?_)];have⟨a,u,n,s,w,rfl,j,q⟩:=h;erw[⟨rfl,?_⟩];show wSs _ _ _ [wc (.ref a)] M;delta JT
 simp![j,Xl,valM]
 erw[q]
abbrev Us:SpM:=λl M Q=>∃(a:Addr) (j n:Nat) (s:Nat×Nat×Int) (w:List Nat) (u:Nat),l=[.ref a]/\M a=wc (Xl j n s (w++[u]))/\u<2^60/\0<j/\Q (.int (((n:Int) - (Wh u:Nat))%(j:Int))) M
def Fk:MonW Us:=by walk_at "m"
def Qp(T:Txt E):FM E 2 "Side" "less_the_seen" Us:=by
 erw[T.bQ.ok T.ac T.ae 1 ["self"] (fC T (fc (_db T) (fc (_mA T) f0))) JU (fun y M Q h=>?_)];have⟨a,z,n,s,l,u,rfl,j,w,m,q⟩:=h;erw[⟨rfl,?_⟩];show wSs _ _ _ [wc (.ref a)] M;delta JU
 simp![j,Xl,valM]
 erw[⟨l.map (λn:Nat=>(n:Int)),(u:Int),by rw[Fi,XI];rfl,?_⟩]
 simp![j,Xl,valM]
 erw[⟨u,rfl,w,?_⟩]
 simp![j,Xl,valM]
 erw[⟨by lia,q⟩]
abbrev Ut:SpM:=λu M Q=>∃(a:Addr) (j n:Nat) (s:Nat×Nat×Int) (l:List Nat),u=[.ref a]/\M a=wc (Xl j n s l)/\Q .non (updM M a (Xl j (n+1) s l))
def Fl:MonW Ut:=by walk_at "m"
def Qq(T:Txt E):FM E 1 "Side" "grow" Ut:=by
 erw[T.bF.ok T.ac T.ae 1 ["self"] (fC T f0) JV (fun l M Q h=>?_)];have⟨a,u,n,s,w,rfl,j,q⟩:=h;erw[⟨rfl,?_⟩];show wSs _ _ _ [wc (.ref a)] M;delta JV
 simp![j,Xl,valM,putM]
 erw[q]
abbrev Uu:SpM:=λw M Q=>∃(a:Addr) (j n:Nat) (s:Nat×Nat×Int) (l:List Nat) (u:Nat) (m:Int) (c:Nat) (o:Nat×Nat×Int),w=[.ref a,.int m,.int c,sgnM o]/\M a=wc (Xl j n s (l++[u]))/\l.length<=100/\0<j/\
 ∀d:Nat,(if s.2.2<o.2.2 then seen o.2.1 o.1 c else o.1)=d->Q (.int d) (updM M a (Xl j n (gray (n%j),s.1,m) (d::l)))
def Fm:MonW Uu:=by walk_at "m"
def Qr(T:Txt E):FM E 3 "Side" "show_and_see" Uu:=by
 erw[T.aB.ok T.ac T.ae 4 ["self","moment","choice","other_sign","seen"] (mC T [("code_of",Fh),("moved",Fg),("sampled",At),("shown",Wj),("Side_ring_ahead",Vs)] [("Side_ring_ahead",Vs)] [(4,"Side","ring_ahead")] [] (fc (Qk T) (fc (_k8 T) (fc (Qh T) (fc (Qg T) f0)))) (fMc Qn nl0) (fMc ⟨_,_,rfl,fM (Qo T)⟩ nl0) nl0) JZ (fun g M Q h=>?_)];have⟨a,w,n,s,l,u,m,c,o,rfl,j,y,f,q⟩:=h;erw[⟨rfl,?_⟩];show wSs _ _ _ [wc (.ref a),wc (.int m),wc (.int c),wc (sgnM o),we] M;delta JZ
 simp![j,Xl,valM]
 erw[ex5 a w n s (l++[u]) ⟨rfl,j,?_⟩]
 simp![j,Xl,valM]
 erw[ex5 o.1 o.2.1 o.2.2 s.2.2 c ⟨rfl,?_⟩];obtain⟨d,hd⟩:∃d:Nat,(if s.2.2<o.2.2 then seen o.2.1 o.1 c else o.1)=d:=⟨_,rfl⟩;rw[hd];delta JY
 simp![j,Xl,valM]
 erw[⟨by lia,?_⟩]
 rw[Fj];erw[⟨_,rfl,?_⟩]
 simp![j,Xl,valM,putM]
 erw[ex5 s.1 s.2.1 s.2.2 _ m ⟨rfl,?_⟩]
 simp![j,Xl,valM,putM]
 delta JX
 simp![j,Xl,valM,putM,YI]
 erw[ex3 (l.map (λn:Nat=>(n:Int))) (u:Int) (d:Int) ⟨by rw[Fi,XI];rfl,by rw[X5];erw[y],?_⟩]
 simp![j,Xl,valM,putM,YI]
 delta JW
 simp![j,Xl,valM,putM,YI]
 have e:MV.int (d:Int)::WB MV.int (l.map λn:Nat=>(n:Int))=(d::l).map natM:=by rw[Xz,Fi]
 have z:=q d hd;rw[Xl,<-e]at z
 simpa only[Xz]using z
noncomputable def Y0(p g u:Addr):MO:=.ins "Ferry" [("places",.ref p),("giver",.ref g),("taker",.ref u)]
abbrev Xi(k n:Nat):Nat:=gray (n%2^(k+1))
noncomputable def wM:Option Nat->MV
 |we=>.non
 |wc x=>.int x
structure FyAt (M:MH)(f p g u:Addr)(A:Ab):Prop where
 ok:A.Ok
 fe:M f=wc (Y0 p g u)
 pls:∃pl,M p=wc (.lst (pl.map sgnM))/\PlOk A pl
 gi:M g=wc (Xl (2^(A.k+1)) A.ws.length (Xi A.k A.ws.length,Xi A.k A.gp,A.gm) (A.gx.map (Xi A.k)))
 ta:M u=wc (Xl (2^(A.k+1)) A.tn (Xi A.k A.tn,Xi A.k A.tp,A.tm) (A.tx.map (Xi A.k)))
 ne:g≠u
def FrM(M j:MH)(l:List Addr):Prop:=∀a o,M a=wc o->a∉l->j a=wc o
def FrM.refl(M:MH)(l:List Addr):FrM M M l:=λ_ _ h _=>h
def FrM.new{M M':MH}{l:List Addr}(h:FrM M M' l){p:Addr}(j:M' p=we)(o:MO):FrM M (updM M' p o) l:=λa u e n=>by
 have:=h a u e n;rw[X7 (neM this j)];erw[this]
def FrM.upd{M M':MH}{l:List Addr}(h:FrM M M' l){p:Addr}(j:p∈l)(o:MO):FrM M (updM M' p o) l:=λa u e n=>by
 rw[X7 (λz=>n (by rw[z];erw[j]))];erw[h a u e n]
def Cu{j n:Nat}{s:Nat×Nat×Int}{l:List Nat}{p g u:Addr}:Xl j n s l≠Y0 p g u:=by
 intro e;unfold Xl Y0 at e;injection e with e1 _;erw[absurd e1 (by rw[_p];decide)]
def YJ{M:MH}{a b:Addr}{o u:MO}(l:M a=wc o)(j:M b=wc u)(n:o≠u):a≠b:=by
 intro e;subst e;rw[l]at j;cases j;erw[n rfl]
def Qs{k n:Nat}(j:k<4):Xi k n<2^60/\Wh (Xi k n)=n%2^(k+1):=by
 have h:=Q9 j (UL n (ZD (k+1)));erw[⟨Yz h.1 (by decide),h.2.1⟩]
def Qt{k:Nat}{j:List Nat}(h:1<=j.length):j.map (Xi k)=j.dropLast.map (Xi k)++[Xi k (XF j)]:=by
 have e:=Wi h;have:j.map (Xi k)=(j.dropLast++[XF j]).map (Xi k):=by rw[<-e]
 rw[this,XI];rfl
def _mX{n j:Nat}(h:j<n):ixN n (j:Int)=wc j:=by
 unfold ixN;rw[if_pos (by lia),if_pos (by lia),Z0]
abbrev Uv:SpM:=fun l M Q=>∃(f:Addr) (k st:Nat),l=[.ref f,.int k,.int st]/\M f=wc (.ins "Ferry" [])/\k<4/\1<=st/\st<=3/\∀p g u j,M p=we->M g=we->M u=we->FrM M j [f]->FyAt j f p g u (ab0 k st)->Q .non j
def Qu:MonW Uv:=by walk_at "m"
def _7n(T:Txt E):FI E 4 "Ferry" Uv:=by
 erw[T.aZ.oi T.ag T.ai T.g 3 ["self","k","stages"] (mC T [("first_sign",Fe),("two_to",UT),("Side___init__",Ct)] [("Side___init__",Ct)] [] [(2,"Side")] (fc (Qe T) (fc (Ap T) f0)) (fMc _5b nl0) nl0 (fMc ⟨_,_,rfl,fI (_8S T)⟩ nl0)) K4 (fun vs M Q h=>?_)];have⟨f,k,st,rfl,a,hk,G,I,q⟩:=h;erw[⟨rfl,?_⟩];show wSs _ _ _ [wc (.ref f),wc (.int k),wc (.int st)] M;have J:∀j:Nat,((2:Int)^j)=((2^j:Nat):Int):=λj=>by rw[Vi];rfl
 have kp0:(0:Int)<=((2^k:Nat):Int):=Uf _;have k16:2^k<=8:=Bk (by lia) (by lia:k<=3)
 delta K4
 simp![putM]
 erw[⟨0,rfl,?_⟩]
 simp![putM]
 intro D P;have R:=(FrM.refl M [f]).new P (.lst [.tup [.int 0,.int 0,.int (-1)]]);have d:updM M D (.lst [.tup [.int 0,.int 0,.int (-1)]]) f=wc (.ins "Ferry" []):=by rw[X7 (neM a P)];erw[a]
 have S:updM M D (.lst [.tup [.int 0,.int 0,.int (-1)]]) D=wc (.lst [.tup [.int 0,.int 0,.int (-1)]]):=X9;generalize updM M D _=M0 at*;erw[⟨k,rfl,by lia,?_⟩]
 simp![S,J]
 rw[Z0];erw[⟨by lia,by lia,by lia,λp N=>?_⟩]
 have X:M p=we:=by
  cases e:M p with
  |none=>rfl
  |some o=>
   by_cases ez:p=f
   .subst ez;rw[d]at N;cases N
   .rw[R p o e (by simpa using ez)]at N;cases N
 have H:=R.new N (.lst (Xj (2^k) [MV.tup [.int 0,.int 0,.int (-1)]]).flatten);have U:updM M0 p (.lst (Xj (2^k) [MV.tup [.int 0,.int 0,.int (-1)]]).flatten) f=wc (.ins "Ferry" []):=by rw[X7 (neM d N)];erw[d]
 have W:updM M0 p (.lst (Xj (2^k) [MV.tup [.int 0,.int 0,.int (-1)]]).flatten) p=wc (.lst (Xj (2^k) [MV.tup [.int 0,.int 0,.int (-1)]]).flatten):=X9;generalize updM M0 p _=M1 at*
 simp![U,putM]
 have Y:=H.upd (Y1.mpr rfl) (.ins "Ferry" [("places",.ref p)]);have l:updM M1 f (.ins "Ferry" [("places",.ref p)]) f=wc (.ins "Ferry" [("places",.ref p)]):=X9;have cD:updM M1 f (.ins "Ferry" [("places",.ref p)]) p=wc (.lst (Xj (2^k) [MV.tup [.int 0,.int 0,.int (-1)]]).flatten):=by rw[X7 (YJ W U (by intro z;cases z))];erw[W]
 have free:∀z,updM M1 f (.ins "Ferry" [("places",.ref p)]) z=we->M z=we:=fun z m=>by
  cases e:M z with
  |none=>rfl
  |some o=>
   by_cases ez:z=f
   .subst ez;rw[l]at m;cases m
   .rw[Y z o e (by simpa using ez)]at m;cases m
 generalize updM M1 f _=M2 at*;delta K1
 simp![l,putM]
 erw[⟨k+1,rfl,by lia,?_⟩]
 simp![l,putM,J]
 intro g F;erw[ex3 g (2^(k+1)) st ⟨rfl,X9,G,I,rfl,?_⟩];rw[YI];have v:=Y.new F (Xl (2^(k+1)) 0 (0,0,-1) (Xj st 0));have c:updM M2 g (Xl (2^(k+1)) 0 (0,0,-1) (Xj st 0)) f=wc (.ins "Ferry" [("places",.ref p)]):=by rw[X7 (neM l F)];erw[l]
 have cE:updM M2 g (Xl (2^(k+1)) 0 (0,0,-1) (Xj st 0)) p=wc (.lst (Xj (2^k) [MV.tup [.int 0,.int 0,.int (-1)]]).flatten):=by rw[X7 (neM cD F)];erw[cD]
 have Z:updM M2 g (Xl (2^(k+1)) 0 (0,0,-1) (Xj st 0)) g=wc (Xl (2^(k+1)) 0 (0,0,-1) (Xj st 0)):=X9;have s:=free g F;generalize updM M2 g _=M3 at*
 simp![c,putM]
 have gf:g≠f:=YJ Z c (by intro z;unfold Xl at z;injection z with z1 _;erw[absurd z1 (by rw[_p];decide)])
 have A:=v.upd (Y1.mpr rfl) (.ins "Ferry" [("places",.ref p),("giver",.ref g)]);have w:updM M3 f (.ins "Ferry" [("places",.ref p),("giver",.ref g)]) f=wc (.ins "Ferry" [("places",.ref p),("giver",.ref g)]):=X9;have cF:updM M3 f (.ins "Ferry" [("places",.ref p),("giver",.ref g)]) p=wc (.lst (Xj (2^k) [MV.tup [.int 0,.int 0,.int (-1)]]).flatten):=by rw[X7 (YJ cE c (by intro z;cases z))];erw[cE]
 have y:updM M3 f (.ins "Ferry" [("places",.ref p),("giver",.ref g)]) g=wc (Xl (2^(k+1)) 0 (0,0,-1) (Xj st 0)):=by rw[X7 gf];erw[Z]
 generalize updM M3 f _=M4 at*;have r:∀z,M4 z=we->M z=we:=λz m=>by
  cases e:M z with
  |none=>rfl
  |some o=>
   by_cases ez:z=f
   .subst ez;rw[w]at m;cases m
   .rw[A z o e (by simpa using ez)]at m;cases m
 delta K0
 simp![w,putM]
 erw[⟨k+1,rfl,by lia,?_⟩]
 simp![w,putM,J]
 intro u O;erw[ex3 u (2^(k+1)) st ⟨rfl,X9,G,I,rfl,?_⟩];rw[YI];have i:=A.new O (Xl (2^(k+1)) 0 (0,0,-1) (Xj st 0));have L:updM M4 u (Xl (2^(k+1)) 0 (0,0,-1) (Xj st 0)) f=wc (.ins "Ferry" [("places",.ref p),("giver",.ref g)]):=by rw[X7 (neM w O)];erw[w]
 have cG:updM M4 u (Xl (2^(k+1)) 0 (0,0,-1) (Xj st 0)) p=wc (.lst (Xj (2^k) [MV.tup [.int 0,.int 0,.int (-1)]]).flatten):=by rw[X7 (neM cF O)];erw[cF]
 have B:updM M4 u (Xl (2^(k+1)) 0 (0,0,-1) (Xj st 0)) g=wc (Xl (2^(k+1)) 0 (0,0,-1) (Xj st 0)):=by rw[X7 (neM y O)];erw[y]
 have C:updM M4 u (Xl (2^(k+1)) 0 (0,0,-1) (Xj st 0)) u=wc (Xl (2^(k+1)) 0 (0,0,-1) (Xj st 0)):=X9;have gu:=neM y O;have n:=r u O;generalize updM M4 u _=M5 at*
 simp![L,putM]
 have uf:u≠f:=YJ C L (by intro z;unfold Xl at z;injection z with z1 _;erw[absurd z1 (by rw[_p];decide)])
 have x:=i.upd (Y1.mpr rfl) (Y0 p g u);have g0:gray 0=0:=by decide
 have b:∀j,Xi j 0=0:=λj=>by unfold Xi;rw[Nat.zero_mod,g0]
 have gr:(Xj st 0).map (Xi k)=Xj st 0:=by rw[Wv,b]
 erw[q p g u _ X s n x ⟨_q3 hk G I,X9,⟨Xj (2^k) (0,0,-1),?_,by simp[ab0],λj hj=>absurd hj (by simp[ab0])⟩,?_,?_,gu⟩]
 .rw[X7 (YJ cG L (by intro z;cases z)),cG,Ff,Wv]
  rfl
 .rw[X7 gf,B];show wc (Xl _ 0 (0,0,-1) _)=wc (Xl (2^(k+1)) 0 (Xi k 0,Xi k 0,-1) ((Xj st 0).map (Xi k)));rw[b,gr]
 .rw[X7 uf,C];show wc (Xl _ 0 (0,0,-1) _)=wc (Xl (2^(k+1)) 0 (Xi k 0,Xi k 0,-1) ((Xj st 0).map (Xi k)));rw[b,gr]
abbrev Vt:SpM:=λw M Q=>∃(f p g u:Addr) (A:Ab) (m:Int) (c:Nat) (x:Option Nat),w=[.ref f,.int m,.int c,wM x]/\FyAt M f p g u A/\A.gm<m/\A.tm<m/\
 ∀l j,M l=we->FrM M j [f,g,u]->FyAt j f l g u (A.giver m c x)->Q (.tup [.bl (A.gives x),.int (Xi A.k (A.gSamp c):Nat)]) j
def _3D:MonW Vt:=by walk_at "m"
def _64(T:Txt E):FM E 4 "Ferry" "ring_giver" Vt:=by
 erw[T.aU.ok T.ag T.ai 4 ["self","moment","choice","word","words","gives"] (mC T [("shown",Wj),("Side_grow",Ut),("Side_less_the_seen",Us),("Side_show_and_see",Uu)] [("Side_grow",Ut),("Side_less_the_seen",Us),("Side_show_and_see",Uu)] [(1,"Side","grow"),(2,"Side","less_the_seen"),(3,"Side","show_and_see")] [] (fc (Qg T) f0) (fMc Fl (fMc Fk (fMc Fm nl0))) (fMc ⟨_,_,rfl,fM (Qq T)⟩ (fMc ⟨_,_,rfl,fM (Qp T)⟩ (fMc ⟨_,_,rfl,fM (Qr T)⟩ nl0))) nl0) Ka (fun vs M Q h=>?_)];have⟨f,p,g,u,A,m,c,x,rfl,I,h1,h2,q⟩:=h;erw[⟨rfl,?_⟩];have hf:=I.fe;have⟨j,hp,hpl⟩:=I.pls;have hg:=I.gi;have hu:=I.ta;have ok:=I.ok;have hΦ:=(U1 (u:=[("shown",Wj),("Side_grow",Ut),("Side_less_the_seen",Us),("Side_show_and_see",Uu)]) (fMc Qf (fMc Fl (fMc Fk (fMc Fm nl0)))));have kpos:0<2^A.k:=ZD _;have k8:2^A.k<=8:=Bk (by lia) (by have:=ok.k4;lia:A.k<=3)
 have pll:j.length=2^A.k:=hpl.1;have gs:=Qs (n:=XF A.gx) ok.k4;have eg:=Qt (k:=A.k) ok.gl.1;have gf:g≠f:=YJ hg hf Cu;have uf:u≠f:=YJ hu hf Cu;have U:∀(M1:MH)(D:Addr)(n:Nat),FrM M M1 [f,g,u]->M1 f=wc (Y0 p g u)->M1 p=wc (.lst (j.map sgnM))->M1 u=M u->M1 g=wc (Xl (2^(A.k+1)) n (Xi A.k A.ws.length,Xi A.k A.gp,A.gm) (A.gx.map (Xi A.k)))->n=(A.giver m c x).ws.length->
   M1 D=wc (.lst ((Xq j.length).map λi=>MV.int ((if A.gives x=wf/\i=A.ws.length%2^A.k then x.getD 0 else(j.getD i (0,0,0)).1:Nat):Int)))->
   wSs ([("shown",Wj),("Side_grow",Ut),("Side_less_the_seen",Us),("Side_show_and_see",Uu)]:List (Str×SpM)) E9 {nx:=fun _ M'=>Q .non M',rt:=Q} [wc (.ref f),wc (.int m),wc (.int c),wc (wM x),wc (.ref D),wc (.bl (A.gives x))] M1:=by
  intro M1 D n fr N B W L hn O;delta E9;simp!;erw[Ur (Xq j.length) (λi=>.int (0+(i:Nat))) (λi=>sgnM ((if A.gives x=wf/\i=A.ws.length%2^A.k then x.getD 0 else(j.getD i (0,0,0)).1),(j.getD i (0,0,0)).1,m)) ?_ ?_ hΦ λr l=>?_]
  .simp![O,X5,UF]
   rw[Z0];erw[⟨by lia,by lia,rfl,by lia,trivial⟩]
  .intro i C M' s;have C:i<j.length:=by simpa using C
   have f':=s _ _ N;have p':=s _ _ B;have d':=s _ _ O;simp only[sCm,Xz,Ys,Z6,YQ,YR,Yr];have a1:atI (j.map sgnM) (0+(i:Int))=wc (sgnM (j.getD i (0,0,0))):=by
    rw[VL];erw[Yn ?_];rw[Xe,X6 C,Y6,X6 C];rfl
   have a2:atI ((Xq j.length).map λi=>MV.int ((if A.gives x=wf/\i=A.ws.length%2^A.k then x.getD 0 else(j.getD i (0,0,0)).1:Nat):Int)) (0+(i:Int))=wc (.int ((if A.gives x=wf/\i=A.ws.length%2^A.k then x.getD 0 else(j.getD i (0,0,0)).1:Nat):Int)):=by
    rw[VL];erw[Yn ?_];rw[Xe,VC C];rfl
   simp![f',p',d',a1,a2,Y0,valM]
   erw[ex5 _ _ _ _ _ ⟨rfl,rfl,rfl⟩]
  have md2:M r=we:=by
   cases e:M r with
   |none=>rfl
   |some o=>
    by_cases e1:r=f
    .subst e1;rw[N]at l;cases l
    .by_cases e2:r=g
     .subst e2;rw[L]at l;cases l
     .by_cases e3:r=u
      .subst e3;rw[W,hu]at l;cases l
      .rw[fr r o e (by simp[e1,e2,e3])]at l;cases l
  have F:=fr.new l (.lst ((Xq j.length).map λi=>sgnM ((if A.gives x=wf/\i=A.ws.length%2^A.k then x.getD 0 else(j.getD i (0,0,0)).1),(j.getD i (0,0,0)).1,m)));have hpl2:(Xq j.length).map (λi=>sgnM ((if A.gives x=wf/\i=A.ws.length%2^A.k then x.getD 0 else(j.getD i (0,0,0)).1),(j.getD i (0,0,0)).1,m))=(YV A m x j).map sgnM:=by
   unfold YV;rw[Y9];rfl
  rw[hpl2]at F ⊢;have hf2:updM M1 r (.lst ((YV A m x j).map sgnM)) f=wc (Y0 p g u):=by rw[X7 (neM N l)];erw[N]
  have hg2:updM M1 r (.lst ((YV A m x j).map sgnM)) g=wc (Xl (2^(A.k+1)) n (Xi A.k A.ws.length,Xi A.k A.gp,A.gm) (A.gx.map (Xi A.k))):=by rw[X7 (neM L l)];erw[L]
  have hu2:updM M1 r (.lst ((YV A m x j).map sgnM)) u=M u:=by rw[X7 (neM (W.trans hu) l)];erw[W]
  have hd2:updM M1 r (.lst ((YV A m x j).map sgnM)) r=wc (.lst ((YV A m x j).map sgnM)):=X9;generalize updM M1 r _=M2 at*
  simp![hf2,Y0,putM]
  have fr3:=F.upd (p:=f) (by simp) (Y0 r g u)
  have S:updM M2 f (Y0 r g u) f=wc (Y0 r g u):=X9;have Y:updM M2 f (Y0 r g u) g=wc (Xl (2^(A.k+1)) n (Xi A.k A.ws.length,Xi A.k A.gp,A.gm) (A.gx.map (Xi A.k))):=by rw[X7 gf];erw[hg2]
  have G:updM M2 f (Y0 r g u) u=M u:=by rw[X7 uf];erw[hu2]
  have X:updM M2 f (Y0 r g u) r=wc (.lst ((YV A m x j).map sgnM)):=by rw[X7 (YJ hd2 hf2 (by intro z;cases z))];erw[hd2]
  rw[Y0]at fr3 S Y G X;generalize updM M2 f _=M3 at*;delta K6;rw[hu]at G
  simp![S,Y,G,Xl,valM]
  rw[eg]at Y;erw[ex9 g (2^(A.k+1)) n (Xi A.k A.ws.length,Xi A.k A.gp,A.gm) (A.gx.dropLast.map (Xi A.k)) (Xi A.k (XF A.gx)) m c (Xi A.k A.tn,Xi A.k A.tp,A.tm) ⟨rfl,Y,?_,ZD _,?_⟩]
  .have:=ok.gl;rw[X5,V8];lia
  intro d hd;have ed:d=Xi A.k (A.gSamp c):=by
   rw[<-hd];erw[Qm ok.k4 ok.t1 _ _ c]
  simp![ed]
  have fr4:=fr3.upd (p:=g) (by simp) (Xl (2^(A.k+1)) n (gray (n%2^(A.k+1)),Xi A.k A.ws.length,m) (d::A.gx.dropLast.map (Xi A.k)))
  rw[ed]at fr4;erw[q r _ md2 fr4 ⟨ok.giver h2,?_,⟨YV A m x j,?_,_g4 hpl⟩,?_,?_,I.ne⟩]
  .rw[X7 gf.symm];erw[S]
  .rw[X7 (YJ X Y (by intro z;unfold Xl at z;cases z))];erw[X]
  .rw[X9];show _=wc (Xl (2^(A.k+1)) (A.giver m c x).ws.length (Xi A.k (A.giver m c x).ws.length,Xi A.k A.ws.length,m) ((A.gSamp c::A.gx.dropLast).map (Xi A.k)));rw[<-hn];rfl
  .rw[X7 I.ne.symm];erw[G]
 show wSs _ _ _ [wc (.ref f),wc (.int m),wc (.int c),wc (wM x),we,we] M;delta Ka;simp!;erw[Ur j sgnM (λs=>.int s.1) ?_ ?_ hΦ λD O=>?_]
 .simp![hf,hp,Y0,valM]
  erw[⟨rfl,by lia,hp⟩]
 .intro s hs M' same;simp only[sCm,Xz,Ys,Z6,YQ,YR,Yr];simp!
 have H:=(FrM.refl M [f,g,u]).new O (.lst (j.map λs=>MV.int s.1));have Z:updM M D (.lst (j.map λs=>MV.int s.1)) f=wc (Y0 p g u):=by rw[X7 (neM hf O)];erw[hf]
 have v:updM M D (.lst (j.map λs=>MV.int s.1)) p=wc (.lst (j.map sgnM)):=by rw[X7 (neM hp O)];erw[hp]
 have P:updM M D (.lst (j.map λs=>MV.int s.1)) g=wc (Xl (2^(A.k+1)) A.ws.length (Xi A.k A.ws.length,Xi A.k A.gp,A.gm) (A.gx.map (Xi A.k))):=by rw[X7 (neM hg O)];erw[hg]
 have b:updM M D (.lst (j.map λs=>MV.int s.1)) u=M u:=by rw[X7 (neM hu O)]
 have R:updM M D (.lst (j.map λs=>MV.int s.1)) D=wc (.lst (j.map λs=>MV.int s.1)):=X9;generalize updM M D _=M0 at*;have no:¬A.gives x=wf->j.map (λs=>MV.int s.1)=(Xq j.length).map λi=>MV.int ((if A.gives x=wf/\i=A.ws.length%2^A.k then x.getD 0 else(j.getD i (0,0,0)).1:Nat):Int):=λz=>by
  erw[B8 (by simp) λi h1 h2=>?_]
  have C:i<j.length:=by simpa using h1
  simp[z,C]
 delta K9;cases x with
 |none=>
  have z:¬A.gives we=wf:=by simp[Ab.gives]
  have z':A.gives we=wg:=by simpa using z
  simp![wM]
  delta Ea
  simp![true_and]
  rw[no z]at R;have J:=U M0 D A.ws.length H Z v b P (by unfold Ab.giver;rw[if_neg z]) R
  rw[z',wM]at J;erw[J]
 |some y=>
  have cH:=P;rw[eg]at cH
  simp![wM,Z,P,Y0,Xl,valM]
  erw[ex6 g _ _ _ _ _ ⟨rfl,cH,gs.1,ZD _,?_⟩]
  simp![R]
  rw[gs.2,X5,pll];have er:decide ((((A.ws.length:Int) - ((XF A.gx%2^(A.k+1):Nat):Int))%((2^(A.k+1):Nat):Int)<((2^A.k:Nat):Int)))=A.gives (wc y):=by
   unfold Ab.gives;simp only[Option.isSome_some,Bu];erw[decide_eq_decide.mpr (_jN ok)]
  rw[er];delta Ea;cases z:A.gives (wc y)with
  |false=>
   simp![true_and]
   rw[no (by rw[z];erw[XB])]at R
   have J:=U M0 D A.ws.length H Z v b P (by unfold Ab.giver;rw[if_neg (by rw[z];erw[XB])]) R
   rw[z,wM]at J;erw[J]
  |true=>
   simp![true_and]
   delta K8
   simp![wM,Z,P,R,Y0,Xl,valM,X5]
   rw[pll,Fj];erw[⟨by lia,A.ws.length%2^A.k,_mX (UL _ kpos),?_⟩]
   have fr1:FrM M (updM M0 D (.lst ((j.map λs=>MV.int s.1).set (A.ws.length%2^A.k) (.int y)))) [f,g,u]:=λa o e n=>by
    rw[X7 (neM e O)];erw[H a o e n]
   have eset:(j.map λs=>MV.int s.1).set (A.ws.length%2^A.k) (.int y)=(Xq j.length).map λi=>MV.int ((if A.gives (wc y)=wf/\i=A.ws.length%2^A.k then(wc y).getD 0 else(j.getD i (0,0,0)).1:Nat):Int):=by
    erw[B8 (by simp) λi h1 h2=>?_]
    have C:i<j.length:=by simpa using h1
    rw[D9];by_cases e:A.ws.length%2^A.k=i
    .subst e;rw[if_pos rfl];simp[z]
    .rw[if_neg e];have e2:¬(A.gives (wc y)=wf/\i=A.ws.length%2^A.k):=λw=>e w.2.symm;simp[e2,C]
   rw[eset]at fr1 ⊢;have N:updM M0 D (.lst ((Xq j.length).map λi=>MV.int ((if A.gives (wc y)=wf/\i=A.ws.length%2^A.k then(wc y).getD 0 else(j.getD i (0,0,0)).1:Nat):Int))) f=wc (Y0 p g u):=by rw[X7 (neM hf O)];erw[Z]
   have B:updM M0 D (.lst ((Xq j.length).map λi=>MV.int ((if A.gives (wc y)=wf/\i=A.ws.length%2^A.k then(wc y).getD 0 else(j.getD i (0,0,0)).1:Nat):Int))) p=wc (.lst (j.map sgnM)):=by rw[X7 (neM hp O)];erw[v]
   have L:updM M0 D (.lst ((Xq j.length).map λi=>MV.int ((if A.gives (wc y)=wf/\i=A.ws.length%2^A.k then(wc y).getD 0 else(j.getD i (0,0,0)).1:Nat):Int))) g=wc (Xl (2^(A.k+1)) A.ws.length (Xi A.k A.ws.length,Xi A.k A.gp,A.gm) (A.gx.map (Xi A.k))):=by rw[X7 (neM hg O)];erw[P]
   have W:updM M0 D (.lst ((Xq j.length).map λi=>MV.int ((if A.gives (wc y)=wf/\i=A.ws.length%2^A.k then(wc y).getD 0 else(j.getD i (0,0,0)).1:Nat):Int))) u=M u:=by rw[X7 (neM hu O)];erw[b]
   have hd1:updM M0 D (.lst ((Xq j.length).map λi=>MV.int ((if A.gives (wc y)=wf/\i=A.ws.length%2^A.k then(wc y).getD 0 else(j.getD i (0,0,0)).1:Nat):Int))) D=wc (.lst ((Xq j.length).map λi=>MV.int ((if A.gives (wc y)=wf/\i=A.ws.length%2^A.k then(wc y).getD 0 else(j.getD i (0,0,0)).1:Nat):Int))):=X9;generalize updM M0 D _=M1 at*;delta K7
   simp![N,L,Y0,Xl,valM]
   erw[ex5 g _ _ _ _ ⟨rfl,L,?_⟩];have F:=fr1.upd (p:=g) (by simp) (Xl (2^(A.k+1)) (A.ws.length+1) (Xi A.k A.ws.length,Xi A.k A.gp,A.gm) (A.gx.map (Xi A.k)))
   have J:=U _ D (A.ws.length+1) F (by rw[X7 gf.symm];erw[N]) (by rw[X7 (YJ B L (by intro z;unfold Xl at z;cases z))];erw[B]) (by rw[X7 I.ne.symm];erw[W]) X9
    (by unfold Ab.giver;rw[if_pos z];simp) (by rw[X7 (YJ hd1 L (by intro z;unfold Xl at z;cases z))];erw[hd1])
   rw[z,wM]at J;erw[J]
noncomputable def takM(A:Ab)(x:Bool):MV:=if A.takes x=wf then .int (A.ws.getD A.tn 0:Nat)else .non
abbrev Wk:SpM:=λl M Q=>∃(f p g u:Addr) (A:Ab) (m:Int) (c:Nat) (x:Bool),l=[.ref f,.int m,.int c,.bl x]/\FyAt M f p g u A/\A.gm<m/\A.tm<m/\
 ∀j,FrM M j [f,g,u]->FyAt j f p g u (A.taker m c x)->Q (.tup [takM A x,.int (Xi A.k (A.tSamp c):Nat)]) j
def _3C:MonW Wk:=by walk_at "m"
set_option tactic.hygienic true in
def _63(T:Txt E):FM E 4 "Ferry" "ring_taker" Wk:=by
 erw[T.cm.ok T.ag T.ai 4 ["self","moment","choice","wished","word","place"] (mC T [("sampled",At),("Side_grow",Ut),("Side_less_the_seen",Us),("Side_ring_ahead",Vs),("Side_show_and_see",Uu)] [("Side_grow",Ut),("Side_less_the_seen",Us),("Side_ring_ahead",Vs),("Side_show_and_see",Uu)] [(1,"Side","grow"),(2,"Side","less_the_seen"),(3,"Side","ring_ahead"),(4,"Side","show_and_see")] [] (fc (Qh T) f0) (fMc Fl (fMc Fk (fMc Qn (fMc Fm nl0)))) (fMc ⟨_,_,rfl,fM (Qq T)⟩ (fMc ⟨_,_,rfl,fM (Qp T)⟩ (fMc ⟨_,_,rfl,fM (Qo T)⟩ (fMc ⟨_,_,rfl,fM (Qr T)⟩ nl0)))) nl0) Kf (fun vs M Q h=>?_)];have⟨f,p,g,u,A,m,c,x,rfl,r,a,h2,q⟩:=h;erw[⟨rfl,?_⟩];have y:=r.fe;have⟨Z,U,N⟩:=r.pls;have J:=r.gi;have j:=r.ta;have ok:=r.ok;have S:0<2^A.k:=ZD _;have k8:2^A.k<=8:=Bk (by lia) (by have:=ok.k4;lia:A.k<=3)
 have C:Z.length=2^A.k:=N.1;have X:=Qs (n:=XF A.tx) ok.k4;have D:1<=A.tx.length:=by rw[ok.tl];erw[ok.gl.1]
 have H:=Qt (k:=A.k) D;have gf:g≠f:=YJ J y Cu;have v:u≠f:=YJ j y Cu;have up:u≠p:=YJ j U (by intro z;unfold Xl at z;cases z)
 have l:∀(M1:MH)(n:Nat)(o:Option MV),FrM M M1 [f,g,u]->M1 f=wc (Y0 p g u)->M1 p=wc (.lst (Z.map sgnM))->M1 g=M g->M1 u=wc (Xl (2^(A.k+1)) n (Xi A.k A.tn,Xi A.k A.tp,A.tm) (A.tx.map (Xi A.k)))->n=(A.taker m c x).tn->
   wSs ([("sampled",At),("Side_grow",Ut),("Side_less_the_seen",Us),("Side_ring_ahead",Vs),("Side_show_and_see",Uu)]:List (Str×SpM)) Eb {nx:=fun _ M'=>Q .non M',rt:=Q} [wc (.ref f),wc (.int m),wc (.int c),wc (.bl x),wc (takM A x),o] M1:=by
  intro M1 n o fr W F O P hn;rw[J]at O;delta Eb
  simp![W,P,O,Y0,Xl,valM]
  rw[H]at P;erw[ex9 u (2^(A.k+1)) n (Xi A.k A.tn,Xi A.k A.tp,A.tm) (A.tx.dropLast.map (Xi A.k)) (Xi A.k (XF A.tx)) m c (Xi A.k A.ws.length,Xi A.k A.gp,A.gm) ⟨rfl,P,?_,ZD _,?_⟩]
  .have:=ok.gl;have:=ok.tl;rw[X5,V8];lia
  intro d hd;have s:d=Xi A.k (A.tSamp c):=by
   rw[<-hd];erw[Qm ok.k4 ok.g1 _ _ c]
  simp![s]
  have Y:=fr.upd (p:=u) (by simp) (Xl (2^(A.k+1)) n (gray (n%2^(A.k+1)),Xi A.k A.tn,m) (d::A.tx.dropLast.map (Xi A.k)))
  rw[s]at Y;erw[q _ Y ⟨ok.taker a,?_,⟨Z,?_,N⟩,?_,?_,r.ne⟩]
  .rw[X7 v.symm];erw[W]
  .rw[X7 up.symm];erw[F]
  .rw[X7 r.ne];erw[O]
  .rw[X9];show _=wc (Xl (2^(A.k+1)) (A.taker m c x).tn (Xi A.k (A.taker m c x).tn,Xi A.k A.tn,m) ((A.tSamp c::A.tx.dropLast).map (Xi A.k)));rw[<-hn];rfl
 show wSs _ _ _ [wc (.ref f),wc (.int m),wc (.int c),wc (.bl x),we,we] M;delta Kf;simp!;delta Ke;cases x with
 |false=>
  have z:¬A.takes wg=wf:=by simp[Ab.takes]
  simp![true_and]
  have L:=l M A.tn we (FrM.refl _ _) y U rfl j (by unfold Ab.taker;rw[if_neg z])
  rw[takM,if_neg z]at L;erw[L]
 |true=>
  have i:=j;rw[H]at i
  simp![y,j,Y0,Xl,valM]
  erw[ex6 u _ _ _ _ _ ⟨rfl,i,X.1,ZD _,?_⟩]
  simp![true_and]
  rw[X.2];erw[XY (λR=>?_) (λR=>?_)]
  .have b:XF A.tx≠A.tn:=λe=>R ((Qc ok).mpr e);have z:A.takes wf=wf:=by unfold Ab.takes;simpa using b
   have⟨hj,B,ha,hb⟩:=_gS ok N b;delta Kd
   simp![y,j,U,Y0,Xl,valM,X5]
   rw[C,Fj];have a1:atI (Z.map sgnM) ((A.tn%2^A.k:Nat):Int)=wc (sgnM (A.ws[A.tn],B,A.gm)):=by
    erw[Yn ?_];rw[Xe,ha];rfl
   erw[⟨by lia,_,a1,?_⟩]
   delta Kc
   simp![y,j,Y0,Xl,valM]
   erw[ex5 u _ _ _ _ ⟨rfl,j,?_⟩]
   simp![true_and]
   erw[ex5 (A.ws[A.tn]) B A.gm A.tm c ⟨rfl,?_⟩];have ew:(if A.tm<A.gm then seen B A.ws[A.tn] c else A.ws[A.tn])=A.ws[A.tn]:=by
    split
    .rename_i w;rw[hb w,_hb]
    .rfl
   rw[ew];delta Kb
   simp![y,j,Y0,Xl,valM]
   erw[ex5 u _ _ _ _ ⟨rfl,j,?_⟩];have G:=(FrM.refl M [f,g,u]).upd (p:=u) (by simp) (Xl (2^(A.k+1)) (A.tn+1) (Xi A.k A.tn,Xi A.k A.tp,A.tm) (A.tx.map (Xi A.k)))
   have L:=l _ (A.tn+1) (wc (sgnM (A.ws[A.tn],B,A.gm))) G (by rw[X7 v.symm];erw[y]) (by rw[X7 up.symm];erw[U]) (by rw[X7 r.ne]) X9 (by unfold Ab.taker;rw[if_pos z])
   have I:A.ws.getD A.tn 0=A.ws[A.tn]:=by rw[Y6,X6 hj];rfl
   rw[takM,if_pos z,I]at L;erw[L]
  .have e:XF A.tx=A.tn:=(Qc ok).mp (Decidable.not_not.mp R);have z:¬A.takes wf=wf:=by unfold Ab.takes;simpa using e
   have L:=l M A.tn we (FrM.refl _ _) y U rfl j (by unfold Ab.taker;rw[if_neg z])
   rw[takM,if_neg z]at L;erw[L]
def FrM.trans{M M1 M2:MH}{l:List Addr}(a:FrM M M1 l)(b:FrM M1 M2 l):FrM M M2 l:=λc o h n=>b c o (a c o h n) n
def FyAt.same{M w:MH}{f p g u:Addr}{A:Ab}(h:FyAt M f p g u A)(s:∀a o,M a=wc o->(∀j,o=.lst j->a=p)->w a=wc o):FyAt w f p g u A:=by
 have⟨y,m,l⟩:=h.pls;erw[⟨h.ok,s _ _ h.fe (λj z=>by cases z),⟨y,s _ _ m (λj _=>rfl),l⟩,s _ _ h.gi (λj z=>by cases z),s _ _ h.ta (λj z=>by cases z),h.ne⟩]
def FyAt.put{M:MH}{f p g u q:Addr}{A:Ab}{xs:List MV}(h:FyAt M f p g u A)(j:M q=wc (.lst xs))(n:q≠p)(l:List MV):FyAt (updM M q (.lst l)) f p g u A:=h.same λa o e z=>by
 by_cases w:a=q
 .subst w;rw[j]at e;cases e;erw[absurd (z xs rfl) n]
 .rw[X7 w];erw[e]
def Qv{M:MH}{f p g u q:Addr}{A:Ab}{l:List MV}(h:FyAt M f p g u A)(j:M q=wc (.lst l)):q∉ [f,g,u]:=by
 intro z;rcases Xk.mp z with rfl|z
 .rw[h.fe]at j;cases j
 rcases Xk.mp z with rfl|z
 .rw[h.gi]at j;cases j
 rcases Xk.mp z with rfl|z
 .rw[h.ta]at j;cases j
 .cases z
abbrev Cv:SpM:=λl M Q=>∃(j:List Int) (k:Nat),l=[.frl (j.map .int),.int k]/\Q (.int (j.getD k 0)) M
def _68:MonW Cv:=by walk_at "m"
def _9C(T:Txt E):FO E 1 "_law_cell_at" Cv:=by
 erw[T.bG.ok T.g _68 2 ["script","k"] (fC T f0) NC (fun u M Q h=>?_)];have⟨j,k,rfl,q⟩:=h;erw[⟨rfl,?_⟩];show wSs _ _ _ [wc (.frl (j.map .int)),wc (.int k)] M;delta NC;simp!;erw[XY (λc=>?_) (λc=>?_)]
 .rw[X5]at c;have l:k<j.length:=by lia
  delta NB;simp!;have e:j.getD k 0=j[k]:=by simp[Y6,l]
  rw[e]at q;erw[⟨_,Yn (by rw[Xe,X6 l];rfl),q⟩]
 .rw[X5]at c;have e:j.getD k 0=0:=by simp[Y6,CZ.mpr (show j.length<=k by lia)]
  rw[e]at q;delta NA;simp!;erw[q]
noncomputable def alph:Str:="abcdefghijklmnopqrstuvwxyz"
def _kK:alph.cps.toList.length=26:=by decide+kernel
def _jk:alph.length<=16777216:=by decide+kernel
def _nJ{i:Int}(l:0<=i)(w:i<26):∃c,atI alph.cps.toList i=wc c:=by
 have u:i.toNat<alph.cps.toList.length:=by rw[_kK];lia
 erw[⟨alph.cps.toList[i.toNat],?_⟩];have:=Yn (l:=alph.cps.toList) (j:=i.toNat) (X6 u)
 rwa [ZV l]at this
def Fn(a:Int):∃c,atI alph.cps.toList (a%26)=wc c:=_nJ (Z9 _ (by decide)) (ZW _ (by decide))
def Qw(c:Nat):(⟨#[c]⟩:Str).length=1:=rfl
def _nH(a b:Str):(a++b).length=a.length+b.length:=by
 show(a.cps++b.cps).size=_;rw[Array.size_append]
 rfl
def ltr(i:Int):Str:=match atI alph.cps.toList i with
 |wc c=>⟨#[c]⟩
 |we=>VR
def Yv(n k:Int):Str:=if n%3=2 then Txt.mul (ltr (n/192%26)) (1+(3*k+n/192)%7)++Txt.mul (ltr ((n/192%26+1+n/4992%25)%26)) (k/7)
 else Txt.mul (ltr (n/192%26)) (n/24%8%(1+n/3%8))++ltr ((n/4992+7*k)%26)++Txt.mul (ltr (n/192%26)) (1+n/3%8 - 1 - n/24%8%(1+n/3%8))
abbrev Wl:SpM:=λj M Q=>∃(n k:Int),j=[.int n,.int k]/\0<=k/\k<=50/\Q (.str (Yv n k)) M
def _8Z:MonW Wl:=by walk_at "m"
def Qx(T:Txt E):FO E 1 "_law_name" Wl:=by
 erw[T.b7.ok T.g _8Z 2 ["number","k","letters","fill","other","long","at","sign"] (fC T f0) NL (fun W M Q h=>?_)];have⟨n,k,rfl,e,L,q⟩:=h;erw[⟨rfl,?_⟩];show wSs _ _ _ [wc (.int n),wc (.int k),we,we,we,we,we,we] M;delta NL;simp!;delta NK;simp!;delta NJ;simp!;have w:=_jk;have⟨u,m⟩:=Fn (n/192);have N:ltr (n/192%26)=⟨#[u]⟩:=by unfold ltr;rw[m]
 unfold Yv at q;rw[N]at q;erw[XY (λc=>?_) (λc=>?_)]
 .rw[if_pos c]at q;delta NI;simp!;have⟨g,f⟩:=Fn ((n/192%26+1+n/4992%25));have O:ltr ((n/192%26+1+n/4992%25)%26)=⟨#[g]⟩:=by unfold ltr;rw[f]
  rw[O]at q;erw[⟨w,g,f,?_⟩];delta NH;simp!;erw[⟨w,u,m,?_⟩];have P:=BW (z:=⟨#[u]⟩) (i:=1+(3*k+n/192)%7) 8 (by lia) (Xa 1)
  have R:=BW (z:=⟨#[g]⟩) (i:=k/7) 8 (by lia) (Xa 1)
  simp only[Qw];erw[⟨by decide,by lia,by lia,by decide,by lia,by lia,by lia,q⟩]
 .rw[if_neg c]at q;obtain⟨lo,y⟩:∃lo:Int,1+n/3%8=lo:=⟨_,rfl⟩;have⟨r,p⟩:=Fn ((n/4992+7*k));have U:ltr ((n/4992+7*k)%26)=⟨#[r]⟩:=by unfold ltr;rw[p]
  rw[U,y]at q;delta NG;simp!;rw[y];delta NF;simp!;have d:(0:Int)<lo:=by lia
  erw[⟨d,?_⟩];obtain⟨j,l⟩:∃j:Int,n/24%8%lo=j:=⟨_,rfl⟩;have Y:0<=j:=by rw[<-l];erw[Z9 _ (Int.ne_of_gt d)]
  have Z:j<lo:=by rw[<-l];erw[ZW _ d]
  rw[l]at q;rw[l];delta NE;simp!;erw[⟨w,r,p,?_⟩];delta ND;simp!;have P:=BW (z:=⟨#[u]⟩) (i:=j) 8 (by lia) (Xa 1)
  have R:=BW (z:=⟨#[u]⟩) (i:=lo - 1 - j) 8 (by lia) (Xa 1)
  erw[⟨w,u,m,?_⟩];simp only[Qw,_nH];erw[⟨by decide,by lia,by lia,by lia,w,u,m,by decide,by lia,by lia,by lia,q⟩]
theorem Qy(c:Nat):∀(k:Nat)(j:Array Nat),((Xj k #[c]).foldl (·++·) j).toList=j.toList++Xj k c
 |0,j=>by simp
 |k+1,j=>by
  rw[Zk,Vc,Qy c k,Array.toList_append,UE,Zk];rfl
def mul_one(c:Nat)(i:Int):(Txt.mul (⟨#[c]⟩:Str) i).cps.toList=Xj i.toNat c:=by
 unfold Txt.mul;by_cases h:i<1
 .rw[if_pos h];have:i.toNat=0:=by lia
  rw[this];rfl
 rw[if_neg h];by_cases h2:(i==1||(⟨#[c]⟩:Str).length==0)=wf
 .rw[if_pos h2];rcases(Dp _ _).mp h2 with e|e
  .have:i=1:=by simpa using e
   subst this;rfl
  .have:(⟨#[c]⟩:Str).length=0:=by simpa using e
   cases this
 .rw[if_neg h2];show((Xj i.toNat #[c]).foldl (·++·) #[]).toList=_;rw[Qy];rfl
def _nI:alph.cps.toList=(Xq 26).map (97+·):=by decide+kernel
def _ps{i:Int}(l:0<=i)(w:i<26):ltr i=⟨#[97+i.toNat]⟩:=by
 unfold ltr;have u:i.toNat<26:=by lia
 have e:atI alph.cps.toList i=wc (97+i.toNat):=by
  have:=Yn (l:=alph.cps.toList) (j:=i.toNat) (v:=97+i.toNat) (by rw[_nI,Xe,VC u];rfl)
  rwa [ZV l]at this
 rw[e]
def Cw(a:Int):ltr (a%26)=⟨#[97+(a%26).toNat]⟩:=_ps (Z9 _ (by decide)) (ZW _ (by decide))
def Vu(a:Int):97<=97+(a%26).toNat/\97+(a%26).toNat<=122:=⟨UJ ..,Nat.add_le_add_left (WC ((Int.toNat_lt (Z9 _ (by decide))).mpr (ZW a (by decide)))) 97⟩
def Fo(a b:Str):(a++b).cps.toList=a.cps.toList++b.cps.toList:=by
 show(a.cps++b.cps).toList=_;rw[Array.toList_append]
def Fp{n:Int}(c:n%3=2){k:Int}(u:0<=k)(w:k<=10):∃j l:Nat,j≠l/\97<=j/\j<=122/\97<=l/\l<=122/\j=97+(n/192%26).toNat/\l=97+((n/192%26+1+n/4992%25)%26).toNat/\(Yv n k).cps.toList=Xj (1+(3*k+n/192)%7).toNat j++Xj (k/7).toNat l:=by
 erw[⟨_,_,?_,(Vu _).1,(Vu _).2,(Vu _).1,(Vu _).2,rfl,rfl,?_⟩]
 .lia
 .unfold Yv;rw[if_pos c,Fo,Cw,Cw,mul_one,mul_one]
def Fq{n:Int}(c:¬n%3=2)(k:Int):∃j lo l:Nat,j<lo/\lo<=8/\97<=l/\l<=122/\j=(n/24%8%(1+n/3%8)).toNat/\
  (Yv n k).cps.toList=Xj j l++(97+((n/4992+7*k)%26).toNat)::Xj (lo - 1 - j) l:=by
 have u:0<=n/24%8%(1+n/3%8):=Z9 _ (by lia)
 have w:n/24%8%(1+n/3%8)<1+n/3%8:=ZW _ (by lia)
 erw[ex3 ((n/24%8%(1+n/3%8)).toNat) ((1+n/3%8).toNat) (97+(n/192%26).toNat) ⟨by lia,by lia,(Vu _).1,(Vu _).2,rfl,?_⟩]
 unfold Yv;rw[if_neg c,Fo,Fo,Cw,Cw,mul_one,mul_one];have e:(1+n/3%8 - 1 - n/24%8%(1+n/3%8)).toNat=(1+n/3%8).toNat - 1 - (n/24%8%(1+n/3%8)).toNat:=by lia
 rw[e,UE];rfl
def Ft{n k:Int}(y:0<=k)(m:k<=10):Zq (Yv n k):=by
 have l:∀z:Str,z.length=z.cps.toList.length:=λz=>Yt.symm;by_cases c:n%3=2
 .have⟨g,r,p,u,w,d,f,_,_,e⟩:=Fp c y m;erw[⟨?_,?_,?_⟩]
  .rw[l,e,XR,Z5,Z5];lia
  .rw[l,e,XR,Z5,Z5];lia
  .intro x j;rw[e]at j;rcases Ye.mp j with j|j
   .rw[V6 j];erw[⟨u,w⟩]
   .rw[V6 j];erw[⟨d,f⟩]
 .have⟨q,lo,g,L,N,u,w,_,e⟩:=Fq c k;erw[⟨?_,?_,?_⟩]
  .rw[l,e,XR,Yi,Z5,Z5];lia
  .rw[l,e,XR,Yi,Z5,Z5];lia
  .intro x j;rw[e]at j;rcases Ye.mp j with j|j
   .rw[V6 j];erw[⟨u,w⟩]
   .rcases Xk.mp j with j|j
    .rw[j];erw[Vu _]
    .rw[V6 j];erw[⟨u,w⟩]
def Qz{n k j:Int}(q:0<=k)(r:k<=10)(u:0<=j)(w:j<=10)(h:Yv n k=Yv n j):k=j:=by
 by_cases c:n%3=2
 .have⟨L,N,y,_,_,_,_,O,P,e⟩:=Fp c q r;have⟨R,T,_,_,_,_,_,z,m,f⟩:=Fp c u w;rw[<-O]at z;rw[<-P]at m;subst z m;rw[<-h,e]at f;have g:=congrArg (List.count R) f;have d:=congrArg (List.count T) f;simp only[D6,List.count_replicate,beq_iff_eq,if_true,y,XW y,if_false,Nat.add_zero,Nat.zero_add]at g d
  try simp at g d
  omega
 .have⟨U,lo,L,Z,A,B,C,W,e⟩:=Fq c k;have⟨at2,Y,N,_,_,_,_,f0,f⟩:=Fq c j;rw[<-W]at f0;subst f0;rw[<-h,e]at f;have p:=congrArg (λl=>l[at2]?) f
  try simp only at p
  rw[Zi (by rw[Z5];erw[Xa _]),Zi (by rw[Z5];erw[Xa _]),Z5,Nat.sub_self]at p
  have p:97+((n/4992+7*k)%26).toNat=97+((n/4992+7*j)%26).toNat:=by simpa using p
  omega
abbrev Au:SpM:=λl M Q=>∃(n:Int) (a:Addr) (x y:Str),l=[.int n,.ref a]/\M a=wc (.lst [.str x,.str y])/\0<=n/\n<=10^8/\∀(U:Tm)j,SameM M j->TmIn [x,y] U->Q U.mv j
def QA:MonW Au:=by walk_at "m"
def _de(T:Txt E):FO E 1 "_law_term" Au:=by
 erw[T.aP.ok T.g QA 2 ["number","names","one","other"] (fC T f0) NU (fun B M Q h=>?_)];have⟨n,a,x,y,rfl,O,C,D,q⟩:=h;erw[⟨rfl,?_⟩];show wSs _ _ _ [wc (.int n),wc (.ref a),we,we] M;obtain⟨z,P,U⟩:∃z,(z=x\/z=y)/\atI [MV.str x,.str y] (n/8%2)=wc (.str z):=by
  rcases(show n/8%2=0\/n/8%2=1 by lia)with e|e<;>rw[e]
  .erw[⟨x,.inl rfl,at0⟩]
  .erw[⟨y,.inr rfl,at1⟩]
 obtain⟨W,d,c⟩:∃z,(z=x\/z=y)/\atI [MV.str x,.str y] (n/224%2)=wc (.str z):=by
  rcases(show n/224%2=0\/n/224%2=1 by lia)with e|e<;>rw[e]
  .erw[⟨x,.inl rfl,at0⟩]
  .erw[⟨y,.inr rfl,at1⟩]
 delta NU
 simp![O,U]
 delta NT;simp!;intro p Y;obtain⟨r,Z⟩:∃r:Int,atI [MV.int (n/16%7 - 3),MV.int (n/16*1000000007%100000000000000000000)] (n/112%2)=wc (.int r):=by
  rcases(show n/112%2=0\/n/112%2=1 by lia)with e|e<;>rw[e]
  .erw[⟨_,at0⟩]
  .erw[⟨_,at1⟩]
 erw[⟨_,Z,?_⟩];have m:=SameM.new Y (.lst [MV.int (n/16%7 - 3),MV.int (n/16*1000000007%100000000000000000000)]);generalize updM M p _=M1 at*;have L:=m _ _ O;have N:∀u,u∈ [z]->u∈ [x,y]:=λu j=>by
  rw[Y1.mp j];rcases P with rfl|rfl<;>simp
 delta NS;simp!;erw[XY (λ_=>?_) (λF=>?_)]
 .delta NR;simp!;intro R l;have g:=m.trans (SameM.new l (.lst [.tup [.str "var",.str z],.tup [.str "num",.int r]]));rcases(show n%2=0\/n%2=1 by lia)with e|e<;>rw[e]
  .erw[⟨_,at0,q (.var z) _ g ⟨by simp[Tm.depth],by simp[Tm.size],λu j=>N u j⟩⟩]
  .erw[⟨_,at1,q (.num r) _ g ⟨by simp[Tm.depth],by simp[Tm.size],λu j=>by simp[Tm.reads]at j⟩⟩]
 delta NQ;simp!;erw[XY (λA=>?_) (λA=>?_)]
 .delta NP;simp!;intro R l;have g:=m.trans (SameM.new l (.lst [.str "plus",.str "minus",.str "times"]));have w:∀f:Form,Q (.tup [.str f.str,.tup [.str "var",.str z],.tup [.str "num",.int r]]) (updM M1 R (.lst [.str "plus",.str "minus",.str "times"])):=fun f=>
   q (.two f (.var z) (.num r)) _ g ⟨by simp[Tm.depth],by simp[Tm.size],λu j=>N u (by simpa [Tm.reads]using j)⟩
  rcases(show n%8 - 2=0\/n%8 - 2=1\/n%8 - 2=2 by lia)with e|e|e<;>rw[e]
  .erw[⟨_,at0,w .plus⟩]
  .erw[⟨_,at1,w .minus⟩]
  .erw[⟨_,at2,w .times⟩]
 delta NO;simp!;erw[XY (λ_=>?_) (λ_=>?_)]
 .delta NN;simp!;erw[q (.pick (.two .less (.var z) (.num r)) (.num r) (.var z)) _ m ⟨by simp[Tm.depth],by simp[Tm.size],λu j=>N u (by simpa [Tm.reads]using j)⟩]
 .delta NM
  simp![L,c]
  erw[q (.two .plus (.var z) (.var W)) _ m ⟨by simp[Tm.depth],by simp[Tm.size],λu j=>?_⟩]
  simp only[Tm.reads,YR,Yr,Xk,XN,or_false]at j;rcases j with rfl|rfl
  .rcases P with rfl|rfl<;>simp
  .rcases d with rfl|rfl<;>simp
def QB{c:List (Str×SpM)}{own:List Str}{fr:List Nat}{w:ISr}{N:ITg}{u z:IE}{O:Sm}{M:MH}{Q:QM}{P:Type}(l:List P)(f g:P->MV)(b:P->Bool)
  (F:wSr c w O M λS M1=>S.items=l.map f/\l.length<sizeLine/\S.okF M1/\M1=M)
  (G:∀x∈l,∀r,SameM M r->wTg N (f x) (sCm own fr O) λm=>wE c u m r λv M2=>v=.bl (b x)/\M2=r/\(b x=wf->wE c z m r λy M2=>y=g x/\M2=r))
  (d:∀(j:Nat)f Y,c[j]?=wc (f,Y)->MonW Y)(q:∀D,M D=we->Q (.ref D) (updM M D (.lst ((l.filter b).map g)))):wE c (.comp own fr w N (.some u) z) O M Q:=by
 rw[Af];erw[mon_sr d w (λS M1 p=>?_) F];have⟨L,I,R,J⟩:=p;subst J;have Z:S.len=l.length:=by rw[<-S.items_len,L,X5]
 erw[⟨by rw[Z];erw[I],λD T=>⟨λi e M2=>M2=updM M1 D (.lst e)/\e=((l.take i).filter b).map g,⟨rfl,by simp⟩,?_,?_,?_⟩⟩]
 .rintro i e M2 ⟨rfl,rfl⟩;erw[⟨X9,?_,?_⟩]
  .rw[X5];have L:=List.length_filter_le b (l.take i);rw[Yl]at L;lia
  cases S with
  |tup _=>trivial
  |rng _ _=>trivial
  |dic _ _ _=>erw[R.elim]
  |str _=>trivial
  |lst a H=>erw[SameM.new T _ _ _ R]
 .rintro i x e M2 A ⟨rfl,rfl⟩;rw[L]at A;have⟨B,rfl⟩:=Yj A;erw[W8 N (λm h=>?_) (G l[i] (XS B) _ (SameM.new T (.lst (((l.take i).filter b).map g))))];rw[wI];erw[Xc d u (λv M2 p=>?_) h];have⟨U,W,X⟩:=p;subst U W;have C:l.take (i+1)=l.take i++[l[i]]:=by rw[Z7,X6 B];rfl
  erw[⟨b l[i],rfl,?_⟩];by_cases hb:b l[i]=wf
  .rw[if_pos hb];erw[Xc d z (λy M2 p=>?_) (X hb)];have⟨U,W⟩:=p;subst U W;erw[⟨X9,YI,?_⟩];rw[C,List.filter_append,XI,List.filter_cons_of_pos hb]
   rfl
  .rw[if_neg hb];erw[⟨rfl,?_⟩];rw[C,List.filter_append,XI,List.filter_cons_of_neg hb];simp
 .rintro e M2 ⟨rfl,rfl⟩;rw[Z,V7 (Xa _),Ag R];erw[q D T]
abbrev Cy:SpM:=λl M Q=>∃(n:Int) (z:Str) (a f:Addr) (x y:Str) (F:List Fer) (m:Nat),l=[.int n,.str z,.ref a,.ref f,.int m]/\M a=wc (.lst [.str x,.str y])/\M f=wc (.lst (F.map Fer.mv))/\F.length<=6/\0<=n/\n<=10^8/\m<=100/\(F.map (·.name)).Nodup/\
 ∀(S:Stp)j,SameM M j->Za (F.map (·.name)) [x,y] m S->U2 F z S->Q S.mv j
def _8Y:MonW Cy:=by walk_at "m"
def QC{F:List Fer}(l:(F.map (·.name)).Nodup){u v:Fer}(w:u∈F)(y:v∈F)(e:u.name=v.name):u=v:=by
 have⟨i,z,rfl⟩:=Yq w;have⟨j,m,rfl⟩:=Yq y;have:i=j:=by
  erw[(B6 (xs:=F.map (·.name)) (h₀:=by simpa using z) (h₁:=by simpa using m) l).mp ?_]
  rw[D8,D8];erw[e]
 subst this;rfl
def QD{F:List Fer}{b:Fer->Bool}{i:Int}(h:F.filter b≠ []):∃v∈F,b v=wf/\atI ((F.filter b).map λv=>MV.str v.name) (i%((F.filter b).length:Int))=wc (.str v.name):=by
 have y:0<(F.filter b).length:=D4.mpr h;have z:=Z9 i (b:=((F.filter b).length:Int)) (by lia)
 have m:=ZW i (b:=((F.filter b).length:Int)) (by lia)
 obtain⟨j,w⟩:∃j:Nat,i%((F.filter b).length:Int)=(j:Int):=⟨(i%((F.filter b).length:Int)).toNat,by lia⟩
 have l:j<(F.filter b).length:=by lia
 have u:=XS l;rw[Da]at u;erw[⟨(F.filter b)[j],u.1,u.2,?_⟩];rw[w];erw[Yn (by rw[Xe,X6 l];rfl)]
def _df(T:Txt E):FO E 2 "_law_step" Cy:=by
 erw[T.bI.ok T.g _8Y 5 ["number","name","names","ferries","many","takes","gives","rest"] (fC T (fc (_de T) f0)) O2 (fun vs M Q h=>?_)];have⟨n,z,a,f,x,y,F,m,rfl,ha,S,h6,n0,n1,hm,nd,q⟩:=h;erw[⟨rfl,?_⟩];show wSs _ _ _ [wc (.int n),wc (.str z),wc (.ref a),wc (.ref f),wc (.int m),we,we,we] M;have O:=(U1 (u:=[("_law_term",Au)]) (fMc QA nl0));delta O2;simp!;erw[QB F Fer.mv (λv=>.str v.name) (λv=>decide (v.taker=z)) ?_ ?_ O λP X=>?_]
 .simp![S]
  erw[⟨rfl,by lia,S⟩]
 .intro v c R s;simp only[sCm,Xz,Ys,Z6,YQ,YR,Yr]
  simp![Fer.mv]
  try simp
 have s1:=SameM.new X (.lst ((F.filter λv=>decide (v.taker=z)).map λv=>MV.str v.name));have d1:updM M P (.lst ((F.filter λv=>decide (v.taker=z)).map λv=>MV.str v.name)) P=wc (.lst ((F.filter λv=>decide (v.taker=z)).map λv=>MV.str v.name)):=X9;generalize updM M P _=M1 at*;have W:=s1 _ _ S;delta O1;simp!;erw[QB F Fer.mv (λv=>.str v.name) (λv=>decide (v.giver=z)) ?_ ?_ O λY H=>?_]
 .simp![W]
  erw[⟨rfl,by lia,W⟩]
 .intro v c R s;simp only[sCm,Xz,Ys,Z6,YQ,YR,Yr]
  simp![Fer.mv]
  try simp
 have s2:=SameM.new H (.lst ((F.filter λv=>decide (v.giver=z)).map λv=>MV.str v.name));have d2:updM M1 Y (.lst ((F.filter λv=>decide (v.giver=z)).map λv=>MV.str v.name)) Y=wc (.lst ((F.filter λv=>decide (v.giver=z)).map λv=>MV.str v.name)):=X9;generalize updM M1 Y _=M2 at*;have o:=s2 _ _ d1;have I:=s1.trans s2;have r:=I _ _ ha;delta O0;simp!;have g:∀l,SameM M2 l->wSs ([("_law_term",Au)]:List (Str×SpM)) EJ {nx:=fun x R=>Q MV.non R,rt:=Q} [wc (.int n),wc (.str z),wc (.ref a),wc (.ref f),wc (.int m),wc (.ref P),wc (.ref Y),wc (.int (n/128))] l:=by
  intro l Z;have L:=Z _ _ r;have st:=I.trans Z;delta EJ;simp!;erw[XY (λ_=>?_) (λ_=>?_)]
  .delta NW;simp!;erw[ex4 (n/128) a x y ⟨rfl,L,by lia,by lia,λU d j A=>?_⟩]
   simp!;have N:(0:Int)<(m:Int)+1:=by lia
   erw[⟨N,q (.jump U (n/8%(m+1))) d (st.trans j) ⟨A,Z9 _ (by lia),by have:=ZW (n/8) N;lia⟩ trivial⟩]
  .delta NV;obtain⟨u,B,J⟩:∃u,u∈ [x,y]/\atI [MV.str x,.str y] (n/8%2)=wc (.str u):=by
    rcases(show n/8%2=0\/n/8%2=1 by lia)with e|e<;>rw[e]
    .erw[⟨x,by simp,at0⟩]
    .erw[⟨y,by simp,at1⟩]
   simp![L,J]
   erw[ex4 (n/128) a x y ⟨rfl,L,by lia,by lia,λU d j A=>?_⟩]
   try walk_at "s"
   erw[q (.put u U) d (st.trans j) ⟨B,A⟩ trivial]
 have C:∀l,SameM M2 l->wSs ([("_law_term",Au)]:List (Str×SpM)) EK {nx:=fun x R=>Q MV.non R,rt:=Q} [wc (.int n),wc (.str z),wc (.ref a),wc (.ref f),wc (.int m),wc (.ref P),wc (.ref Y),wc (.int (n/128))] l:=by
  intro l Z;delta EK;simp!;erw[XY (λ_=>?_) (λ_=>g l Z)];intro p N;have j:=Z.trans (SameM.new N (.lst []));have b:updM l p (.lst []) p=wc (.lst []):=X9;generalize updM l p _=d at*;have D:=j _ _ d2;have w:=j _ _ r;erw[Wd D b ?_];by_cases hn:(F.filter λv=>decide (v.giver=z))=[]
  .rw[hn];erw[g d j]
  .have he:((F.filter λv=>decide (v.giver=z)).map λv=>MV.str v.name).isEmpty=wg:=by
    cases e:F.filter λv=>decide (v.giver=z)with
    |nil=>erw[absurd e hn]
    |cons _ _=>rfl
   rw[he,if_pos rfl];delta NX;have⟨v,c,hb,G⟩:=QD (i:=n/8) hn;have hl:0<(F.filter λv=>decide (v.giver=z)).length:=D4.mpr hn
   simp![D,X5,G]
   erw[⟨by lia,?_⟩]
   try simp![G]
   erw[ex4 (n/128) a x y ⟨rfl,w,by lia,by lia,λU M5 s5 A=>?_⟩]
   try walk_at "s"
   erw[q (.give v.name U) M5 ((I.trans j).trans s5) ⟨XA.mpr ⟨v,c,rfl⟩,A⟩ (λu B e=>?_)];rw[QC nd B c e];erw[of_decide_eq_true hb]
 delta NZ;simp!;erw[XY (λ_=>?_) (λ_=>C M2 (SameM.refl _))];intro p N;have j:=SameM.new N (.lst []);have b:updM M2 p (.lst []) p=wc (.lst []):=X9;generalize updM M2 p _=d at*;have D:=j _ _ o;have w:=j _ _ r;erw[Wd D b ?_];by_cases hn:(F.filter λv=>decide (v.taker=z))=[]
 .rw[hn];erw[C d j]
 .have he:((F.filter λv=>decide (v.taker=z)).map λv=>MV.str v.name).isEmpty=wg:=by
   cases e:F.filter λv=>decide (v.taker=z)with
   |nil=>erw[absurd e hn]
   |cons _ _=>rfl
  rw[he,if_pos rfl];delta NY;have⟨v,c,hb,G⟩:=QD (i:=n/8) hn;have hl:0<(F.filter λv=>decide (v.taker=z)).length:=D4.mpr hn;obtain⟨u,B,J⟩:∃u,u∈ [x,y]/\atI [MV.str x,.str y] (n/128%2)=wc (.str u):=by
   rcases(show n/128%2=0\/n/128%2=1 by lia)with e|e<;>rw[e]
   .erw[⟨x,by simp,at0⟩]
   .erw[⟨y,by simp,at1⟩]
  simp![D,X5,G,w,J]
  erw[⟨by lia,?_⟩]
  try simp![G,w,J]
  erw[q (.take v.name u) d (I.trans j) ⟨XA.mpr ⟨v,c,rfl⟩,B⟩ (λu' hu' e=>?_)];rw[QC nd hu' c e];erw[of_decide_eq_true hb]
abbrev Cz:SpM:=λu M Q=>∃(n l y:Int) (k:Nat) (f:Addr) (F:List Fer),u=[.int n,.int k,.int l,.ref f,.int y]/\M f=wc (.lst (F.map Fer.mv))/\F.length<=6/\(F.map (·.name)).Nodup/\0<=n/\n<=10^60/\k<=4/\
 ∀(I:Isl)(a b:Addr)j,SameM M j->M a=we->M b=we->a≠b->j a=wc (.lst (I.prs.map prV))->j b=wc (.lst (I.stps.map Stp.mv))->I.name=Yv l k->(∀w,1<=w->IslOk w (F.map (·.name)) I)->(∀s∈I.stps,U2 F I.name s)->Q (.tup [.str I.name,.ref a,.ref b]) j
def _6A:MonW Cz:=by walk_at "m"
def _aJ(T:Txt E):FO E 3 "_law_island" Cz:=by
 erw[T.bA.ok T.g _6A 5 ["number","k","naming","ferries","around","name","names","pairs","many","ending","steps","j"] (fC T (fc (Qx T) (fc (_df T) f0))) Oe (fun vs M Q h=>?_)];have⟨n,g,A,k,f,F,rfl,hf,h6,nd,n0,n1,hk,q⟩:=h;erw[⟨rfl,?_⟩];show wSs _ _ _ [wc (.int n),wc (.int k),wc (.int g),wc (.ref f),wc (.int A),we,we,we,we,we,we,we] M;delta Oe;simp!;erw[⟨g,k,rfl,by lia,by lia,?_⟩]
 obtain⟨z,hz⟩:∃z,Yv g k=z:=⟨_,rfl⟩;rw[hz]at q ⊢;delta Od;simp!;erw[⟨g,9,rfl,by lia,by lia,?_⟩]
 erw[⟨g,10,rfl,by lia,by lia,?_⟩]
 simp!;intro U hpn;obtain⟨x,hx⟩:∃x,Yv g 9=x:=⟨_,rfl⟩;obtain⟨y,hy⟩:∃y,Yv g 10=y:=⟨_,rfl⟩;have gx:Zq x:=hx▸Ft (by decide) (by decide)
 have gy:Zq y:=hy▸Ft (by decide) (by decide)
 have xy:x≠y:=λe=>by
  have:=Qz (n:=g) (k:=9) (j:=10) (by decide) (by decide) (by decide) (by decide) (by rw[hx,hy];erw[e])
  lia
 rw[hx,hy];have b:=SameM.new hpn (.lst [.str x,.str y]);have a1:updM M U (.lst [.str x,.str y]) U=wc (.lst [.str x,.str y]):=X9;generalize updM M U _=M1 at*;delta Oc
 simp![a1]
 intro W G;have s2:=SameM.new G (.lst [.tup [.str x,.int (n%2)],.tup [.str y,.int (n/2%2)]]);have b2:updM M1 W (.lst [.tup [.str x,.int (n%2)],.tup [.str y,.int (n/2%2)]]) W=wc (.lst ([(x,n%2),(y,n/2%2)].map prV)):=X9;generalize updM M1 W _=M2 at*;have a2:=s2 _ _ a1;have fpp:=b.free G;delta Ob;simp!;obtain⟨m,hm,hm7⟩:∃m:Nat,n/4%7=(m:Int)/\m<7:=⟨(n/4%7).toNat,by lia,by lia⟩
 rw[hm];delta Oa;simp!;obtain⟨d,hen,hen2⟩:∃d:Nat,(if n/28%4<A then(1:Int)else 0)=(d:Int)/\d<=1:=by
  by_cases c:n/28%4<A
  .erw[⟨1,by rw[if_pos c];rfl,by decide⟩]
  .erw[⟨0,by rw[if_neg c];rfl,by decide⟩]
 rw[hen];delta O9;simp!;delta O8;simp!;intro r N;have s3:=SameM.new N (.lst []);have c3:updM M2 r (.lst []) r=wc (.lst []):=X9;have fps:=(b.trans s2).free N;have pps:=neM b2 N;have I:∀a o,M2 a=wc o->a≠r:=λa o h=>neM h N;generalize updM M2 r _=M3 at*;delta O7;simp!;obtain⟨J,hJ⟩:∃J:Nat->Sm->MH->Prop,∀j σ O,J j σ O↔∃(P:Int) (l:List Stp) (v:Option MV),σ=[wc (.int P),wc (.int k),wc (.int g),wc (.ref f),wc (.int A),wc (.str z),wc (.ref U),wc (.ref W),wc (.int m),wc (.int d),wc (.ref r),v]/\0<=P/\l.length=j/\SameM M2 O/\O r=wc (.lst (l.map Stp.mv))/\(∀S∈l,Za (F.map (·.name)) [x,y] (m+d) S/\U2 F z S):=⟨_,λ_ _ _=>XX⟩;erw[⟨by lia,by lia,J,(hJ _ _ _).mpr (ex3 (n/112) [] _ ⟨rfl,by lia,rfl,s3,c3,λS L=>nomatch L⟩),λ_ _ _ _=>trivial,?_,?_⟩]
 .rintro j u σ O R h;have⟨P,l,v,rfl,p0,hl,B,X,L⟩:=(hJ _ _ _).mp h;have⟨hj,rfl⟩:=Wg R
  suffices key:∀D:EndM,D.nx=J (j+1)->wSs ([("_law_name",Wl),("_law_step",Cy)]:List (Str×SpM)) EM D [wc (.int P),wc (.int k),wc (.int g),wc (.ref f),wc (.int A),wc (.str z),wc (.ref U),wc (.ref W),wc (.int m),wc (.int d),wc (.ref r),wc (.int (0+(j:Nat)))] O from key _ rfl
  intro D hD;delta EM
  simp![X]
  erw[⟨⟨_,rfl⟩,P%100000000,z,U,f,x,y,F,m+d,rfl,B _ _ a2,B _ _ (s2 _ _ (b _ _ hf)),h6,by lia,by lia,by lia,nd,λS C H hS1 hS2=>?_⟩]
  have c5:=H _ _ X
  simp![c5,X5]
  erw[⟨by lia,?_⟩]
  delta O6;simp!;rw[hD];erw[(hJ _ _ _).mpr (ex3 (P/100000000) (l++[S]) _ ⟨rfl,by lia,by simp[hl],λa o h=>by rw[X7 (I a o h)];erw[H _ _ (B _ _ h)],by rw[X9,XI];rfl,λS' Y=>?_⟩)]
  rcases Ye.mp Y with Z|Z
  .erw[L _ Z]
  .rw[Y1.mp Z];erw[⟨hS1,hS2⟩]
 .rintro σ O h;have⟨P,l,v,rfl,p0,hl,B,X,L⟩:=(hJ _ _ _).mp h;have hl:l.length=m:=hl;have s:∀(C:MH)(l:List Stp)(v:Option MV),SameM M2 C->C r=wc (.lst (l.map Stp.mv))->l.length=m+d->(∀S∈l,Za (F.map (·.name)) [x,y] (m+d) S/\U2 F z S)->wSs ([("_law_name",Wl),("_law_step",Cy)]:List (Str×SpM)) EL {nx:=fun x O=>Q MV.non O,rt:=Q} [wc (.int P),wc (.int k),wc (.int g),wc (.ref f),wc (.int A),wc (.str z),wc (.ref U),wc (.ref W),wc (.int m),wc (.int d),wc (.ref r),v] C:=by
   intro C l v H c5 hl5 i;delta EL;simp!;erw[q ⟨z,[(x,n%2),(y,n/2%2)],l⟩ W r C ((b.trans s2).trans H) fpp fps pps (H _ _ b2) c5 rfl (λw hw=>?_) (λS L=>(i S L).2)];erw[⟨by simp,?_,?_,?_,?_,?_⟩]
   .show l.length<=12;lia
   .show [x,y].Nodup;simp[xy]
   .intro u R;have R:u∈ [x,y]:=R;simp only[Xk,XN,or_false]at R;rcases R with rfl|rfl
    .erw[gx]
    .erw[gy]
   .intro p hp;have:=Pn hw;have hp:p∈ [(x,n%2),(y,n/2%2)]:=hp;simp only[Xk,XN,or_false]at hp;rcases hp with rfl|rfl
    .erw[⟨by show 0<=n%2;lia,by show n%2<_;lia⟩]
    .erw[⟨by show 0<=n/2%2;lia,by show n/2%2<_;lia⟩]
   .intro S L;show Za _ [x,y] l.length S;rw[hl5];erw[(i S L).1]
  delta O5;simp!;erw[XY (λc=>?_) (λc=>?_)]
  .delta O4
   simp![X,X5]
   have e1:d=1:=by lia
   erw[⟨⟨_,rfl⟩,by lia,s _ (l++[.jump (.num 1) 0]) _ (λa o h=>by rw[X7 (I a o h)];erw[B _ _ h]) (by rw[X9,XI];rfl) (by simp;lia) λS' Y=>?_⟩]
   rcases Ye.mp Y with Z|Z
   .erw[L _ Z]
   .rw[Y1.mp Z];erw[⟨⟨⟨by simp[Tm.depth],by simp[Tm.size],λu R=>by simp[Tm.reads]at R⟩,by lia,by lia⟩,trivial⟩]
  .erw[s O l _ B X (by lia) L]
structure IslsNew (M0 M:MH)(Is:List Isl)(ys:List MV):Prop where
 len:ys.length=Is.length
 at_:∀(i:Nat)(I:Isl)(y:MV),Is[i]?=wc I->ys[i]?=wc y->∃a b,y=.tup [.str I.name,.ref a,.ref b]/\M0 a=we/\M0 b=we/\M a=wc (.lst (I.prs.map prV))/\M b=wc (.lst (I.stps.map Stp.mv))
def IslsNew.inn{l M:MH}{Is:List Isl}{j:List MV}(h:IslsNew l M Is j):IslsIn M Is j:=⟨h.len,λi I y a b=>by
 have⟨c,d,e,_,_,u,w⟩:=h.at_ i I y a b;erw[⟨c,d,e,u,w⟩]⟩
def IslsNew.keep{j M M':MH}{Is:List Isl}{l:List MV}(h:IslsNew j M Is l)(s:∀a o,M a=wc o->j a=we->M' a=wc o):IslsNew j M' Is l:=⟨h.len,λi I y a b=>by
 have⟨c,d,e,u,w,z,m⟩:=h.at_ i I y a b;erw[⟨c,d,e,u,w,s _ _ z u,s _ _ m w⟩]⟩
set_option tactic.hygienic true in
def QE{l:Type}{v y:l}{j:List l}{i:Nat}(h:(j++[v])[i]?=wc y):j[i]?=wc y\/(i=j.length/\y=v):=by
 rw[List.getElem?_append]at h;split at h
 .erw[.inl h]
 .rename_i e
  obtain⟨d,hd⟩:∃d,i - j.length=d:=⟨_,rfl⟩;rw[hd]at h;cases d with
  |zero=>simp at h;erw[.inr ⟨by lia,h.symm⟩]
  |succ d=>simp at h
def IslsNew.add{w M:MH}{Is:List Isl}{z:List MV}(h:IslsNew w M Is z){I:Isl}{a b:Addr}(m:w a=we)(g:w b=we)(d:M a=wc (.lst (I.prs.map prV)))(c:M b=wc (.lst (I.stps.map Stp.mv))):IslsNew w M (Is++[I]) (z++[.tup [.str I.name,.ref a,.ref b]]):=by
 erw[⟨by simp[h.len],λi J y f q=>?_⟩]
 have l:=h.len;rcases QE f with j|⟨r,rfl⟩<;>rcases QE q with u|⟨p,rfl⟩
 .erw[h.at_ i J y j u]
 .have:=(Xo.mp j).1;lia
 .have:=(Xo.mp u).1;lia
 .erw[⟨a,b,rfl,m,g,d,c⟩]
def modN(a:Int){b:Nat}(h:0<b):∃g:Nat,a%(b:Int)=(g:Int)/\g<b:=
 have p:(0:Int)<b:=Int.natCast_pos.mpr h;have q:=Z9 a (Int.ne_of_gt p)
 ⟨(a%(b:Int)).toNat,(ZV q).symm,(Int.toNat_lt q).mpr (ZW a p)⟩
def CA{n:Int}{a b:Nat}(j:a<=10)(l:b<=10)(h:Yv n (a:Int)=Yv n (b:Int)):a=b:=Int.ofNat.inj (Qz (Uf _) (WG.mpr j) (Uf _) (WG.mpr l) h)
def QF{n:Int}{a:Nat}(j:a<=10):Zq (Yv n (a:Int)):=Ft (Uf _) (WG.mpr j)
def two_of{b:Nat}(h:b<2):b=0\/b=1:=by lia
def _pP{g r j:Nat}(g1:g<j)(l:r<j - 1)(u:j<=5):((g:Int)+1+(r:Int))%(j:Int)≠(g:Int):=λe=>by
 rcases(show j=2\/j=3\/j=4\/j=5 by lia)with rfl|rfl|rfl|rfl<;>lia
def fnm(nm:Int)(i:Nat):Str:=Yv nm (5+(i:Int))
def inm(nm:Int)(i:Nat):Str:=Yv nm (i:Int)
def QG{f:Nat->Str}{n:Nat}(h:∀a b,a<n->b<n->f a=f b->a=b):((Xq n).map f).Nodup:=by
 unfold List.Nodup;rw[D7];erw[List.Pairwise.imp_of_mem (λj l u e=>u (h _ _ (Zl.mp j) (Zl.mp l) e)) List.nodup_range]
abbrev Av:SpM:=λy M Q=>∃(z:List Int) (m:Int),y=[.frl (z.map .int),.int m]/\
 ∀(W:Wld)(l u:Addr)(w:List MV)j,SameM M j->W.Good->1<=W.isl.length->M l=we->M u=we->l≠u->j l=wc (.lst w)->IslsIn j W.isl w->j u=wc (.lst (W.fer.map Fer.mv))->Q (.tup [.int W.w,.ref l,.ref u]) j
def QH:MonW Av:=by walk_at "m"
def _aI(T:Txt E):FO E 4 "_law_things" Av:=by
 erw[T.ck.ok T.g QH 2 ["script","around","head","naming","width","many","ferries","k","number","giver","taker","ends","islands"] (fC T (fc (_9C T) (fc (_aJ T) (fc (Qx T) f0)))) Ot (fun vs M Q h=>?_)];have⟨O,ar,rfl,q⟩:=h;erw[⟨rfl,?_⟩];show wSs _ _ _ [wc (.frl (O.map .int)),wc (.int ar),we,we,we,we,we,we,we,we,we,we,we] M;delta Ot;simp!;erw[⟨O,0,rfl,?_⟩];simp!;delta Os;simp!;erw[⟨O,1,rfl,?_⟩];simp!;obtain⟨hd,hhd,hd0⟩:∃hd:Int,O.getD 0 0%1000000000=hd/\0<=hd:=⟨_,rfl,by lia⟩
 obtain⟨m,hnm⟩:∃m:Int,O.getD 1 0%1000000000=m:=⟨_,rfl⟩;rw[hhd,hnm];delta Oq;simp!;intro p0 hp0;obtain⟨w,hw,w1,w2⟩:∃w:Nat,atI [MV.int (1+hd/16%64),MV.int (1+hd/16%5)] (hd/1024%2)=wc (.int w)/\1<=w/\w<=64:=by
  obtain⟨x,ex,W⟩:∃x:Nat,hd/16%64=(x:Int)/\x<64:=modN _ (b:=64) (by decide)
  obtain⟨y,ey,hy⟩:∃x:Nat,hd/16%5=(x:Int)/\x<5:=modN _ (b:=5) (by decide)
  obtain⟨b,eb,hb⟩:∃x:Nat,hd/1024%2=(x:Int)/\x<2:=modN _ (b:=2) (by decide)
  rw[ex,ey,eb];rcases two_of hb with rfl|rfl
  .erw[⟨1+x,at0,UJ ..,UK ..▸W⟩]
  .erw[⟨1+y,at1,UJ ..,Xy (UK ..▸hy:1+y<=5) (by decide)⟩]
 erw[⟨_,hw,?_⟩];have s0:=SameM.new hp0 (.lst [MV.int (1+hd/16%64),MV.int (1+hd/16%5)]);generalize updM M p0 _=M0 at*;obtain⟨l,hmy,my1,G⟩:∃l:Nat,1+hd%5=(l:Int)/\1<=l/\l<=5:=by
  obtain⟨x,ex,W⟩:∃x:Nat,hd%5=(x:Int)/\x<5:=modN _ (b:=5) (by decide)
  erw[⟨1+x,by rw[ex];rfl,UJ ..,UK ..▸W⟩]
 delta Op;simp!;rw[hmy];delta Oo;simp!;intro Y hpf;have s1:=SameM.new hpf (.lst []);have f1:updM M0 Y (.lst []) Y=wc (.lst []):=X9;have fpf:=s0.free hpf;have old:∀a o,M0 a=wc o->a≠Y:=λa o h=>neM h hpf;generalize updM M0 Y _=M1 at*;delta On;simp!;obtain⟨cn,hcn,cn6,cn1⟩:∃cn:Nat,(if hd/2048%7<6*(l:Int) - 6 then hd/2048%7 else 6*(l:Int) - 6)=(cn:Int)/\cn<=6/\(1<=cn->2<=l):=by
  obtain⟨x,ex,W⟩:∃x:Nat,hd/2048%7=(x:Int)/\x<7:=modN _ (b:=7) (by decide)
  rw[ex];by_cases c:(x:Int)<6*(l:Int) - 6
  .erw[⟨x,if_pos c,WC W,by lia⟩]
  .erw[⟨6*l - 6,by rw[if_neg c];lia,by lia,by lia⟩]
 rw[hcn,Z0];obtain⟨J,A⟩:∃J:Nat->Sm->MH->Prop,∀j S Z,J j S Z↔∃(p:List Fer) (v7 v8 v9 P R:Option MV),S=[wc (.frl (O.map .int)),wc (.int ar),wc (.int hd),wc (.int m),wc (.int w),wc (.int l),wc (.ref Y),v7,v8,v9,P,R,we]/\p.map (·.name)=(Xq j).map (fnm m)/\SameM M0 Z/\Z Y=wc (.lst (p.map Fer.mv))/\(∀F∈p,FerOk ((Xq l).map (inm m)) F):=⟨_,λ_ _ _=>XX⟩;erw[⟨by lia,by lia,J,(A _ _ _).mpr (ex6 [] _ _ _ _ _ ⟨rfl,rfl,s1,f1,λF hF=>nomatch hF⟩),λ_ _ _ _=>trivial,?_,?_⟩]
 .rintro j u S Z hu h;erw[ee6 ((A _ _ _).mp h) λp v7 v8 v9 P R h=>?_];have⟨rfl,X,s2,f2,hF⟩:=h;have⟨hj,rfl⟩:=Wg hu;have my2:=cn1 (by lia)
  have hl:p.length=j:=by have:=congrArg Wy X;simpa using this
  rw[VL]
  suffices key:∀D:EndM,D.nx=J (j+1)->wSs ([("_law_cell_at",Cv),("_law_island",Cz),("_law_name",Wl)]:List (Str×SpM)) EO D [wc (.frl (O.map .int)),wc (.int ar),wc (.int hd),wc (.int m),wc (.int w),wc (.int l),wc (.ref Y),wc (.int j),v8,v9,P,R,we] Z from key _ rfl
  intro D hD;delta EO;obtain⟨c,hc⟩:∃c:Nat,2+(j:Int)%4=(c:Int):=⟨2+j%4,rfl⟩
  simp![hc]
  erw[⟨O,c,rfl,?_⟩];simp!;intro p1 hp1;obtain⟨dv,hdv,dv0⟩:∃dv:Int,atI [MV.int 1,MV.int 1000000] ((j:Int)/4)=wc (.int dv)/\(dv=1\/dv=1000000):=by
   have e:(j:Int)/4=((j/4:Nat):Int):=rfl;rw[e];rcases two_of (show j/4<2 by lia)with e|e<;>rw[e]
   .erw[⟨1,at0,.inl rfl⟩]
   .erw[⟨1000000,at1,.inr rfl⟩]
  erw[⟨_,hdv,?_⟩];have s3:=s2.trans (SameM.new hp1 (.lst [MV.int 1,MV.int 1000000]));have f3:=SameM.new hp1 (.lst [MV.int 1,MV.int 1000000]) _ _ f2;generalize updM Z p1 _=M3 at*;simp!;obtain⟨N,hnb,nb0⟩:∃N:Int,O.getD c 0%1000000000000000/dv=N/\0<=N:=by
   erw[⟨_,rfl,?_⟩];rcases dv0 with rfl|rfl<;>lia
  rw[hnb];erw[⟨by rcases dv0 with rfl|rfl<;>decide,?_⟩]
  delta Om;simp!;have gp:(0:Int)<(l:Int):=Int.natCast_pos.mpr my1;erw[⟨gp,?_⟩];have⟨g,hg,hg2⟩:=modN N (b:=l) my1;rw[hg];delta Ol;simp!;have gp1:(0:Int)<(l:Int) - 1:=by lia
  erw[⟨gp1,gp,?_⟩];obtain⟨B,ht,ht2,ht3⟩:∃B:Nat,((g:Int)+1+N/5%((l:Int) - 1))%(l:Int)=(B:Int)/\B<l/\B≠g:=by
   obtain⟨r,hr,r1⟩:∃r:Nat,N/5%((l:Int) - 1)=(r:Int)/\r<l - 1:=by
    have:=modN (N/5) (b:=l - 1) (by lia)
    rwa [show((l - 1:Nat):Int)=(l:Int) - 1 by lia]at this
   rw[hr];have⟨B,h0,h1⟩:=modN ((g:Int)+1+(r:Int)) (b:=l) my1;erw[⟨B,h0,h1,λe=>_pP hg2 r1 G (by rw[h0,e])⟩]
  rw[ht];delta Oj;simp!;have g5:g<=10:=Xy (ZF hg2) (Xy G (by decide))
  have t5:B<=10:=Xy (ZF ht2) (Xy G (by decide))
  have j5:5+j<=10:=by lia
  have f:∀{x:Nat},x<=10->(0:Int)<=(x:Int)/\(x:Int)<=50:=λh=>⟨Uf _,WG.mpr (Xy h (by decide))⟩
  erw[⟨m,g,rfl,(f g5).1,(f g5).2,?_⟩];erw[⟨m,B,rfl,(f t5).1,(f t5).2,?_⟩]
  try walk_at "s"
  delta Oi
  simp![f3]
  erw[⟨⟨_,rfl⟩,m,5+(j:Int),rfl,(f j5).1,(f j5).2,?_⟩];obtain⟨kk,hkk,kk3⟩:∃kk:Nat,N/20%4=(kk:Int)/\kk<=3:=let⟨k,e,h⟩:=modN (N/20) (b:=4) (by decide);⟨k,e,WC h⟩
  obtain⟨st,hst,st1,st3⟩:∃st:Nat,1+N/80%3=(st:Int)/\1<=st/\st<=3:=by
   obtain⟨x,ex,W⟩:∃x:Nat,N/80%3=(x:Int)/\x<3:=modN _ (b:=3) (by decide)
   erw[⟨1+x,by rw[ex];rfl,UJ ..,UK ..▸W⟩]
  simp![f3,hkk,hst,X5]
  rw[hD];erw[⟨by lia,(A _ _ _).mpr (ex6 (p++[⟨fnm m j,inm m g,inm m B,kk,st⟩]) _ _ _ _ _ ⟨rfl,?_,λa o h=>by rw[X7 (old a o h)];erw[s3 _ _ h],by rw[X9,XI];rfl,λF hF'=>?_⟩)⟩]
  .rw[XI,X,Dd,XI];rfl
  .rcases Ye.mp hF' with h'|h'
   .erw[hF _ h']
   .rw[Y1.mp h'];erw[⟨XA.mpr ⟨g,Zl.mpr hg2,rfl⟩,XA.mpr ⟨B,Zl.mpr ht2,rfl⟩,λe=>?_,kk3,st1,st3⟩];erw[ht3 (CA t5 g5 e.symm)]
 .rintro S M2 h;erw[ee6 ((A _ _ _).mp h) λp v7 v8 v9 P R h=>?_];have⟨rfl,X,s2,f2,hF⟩:=h;have X:p.map (·.name)=(Xq cn).map (fnm m):=X;have hl:p.length=cn:=by have:=congrArg Wy X;simpa using this
  have ndF:(p.map (·.name)).Nodup:=by
   rw[X];erw[QG λa b ha hb e=>?_];erw[Nat.add_left_cancel (CA (n:=m) (a:=5+a) (b:=5+b) (by lia) (by lia) e)]
  clear A h;delta Oh;simp!;intro U H;have s3:=SameM.new H (.lst []);have i3:updM M2 U (.lst []) U=wc (.lst []):=X9;have fpi:=(s0.trans s2).free H;have ipf:=(neM f2 H).symm;have old2:∀a o,M2 a=wc o->a≠U:=λa o h=>neM h H;have only:∀a o,updM M2 U (.lst []) a=wc o->a≠U->M2 a=wc o:=λa o h n=>by rw[X7 n]at h;erw[h]
  generalize updM M2 U _=M3 at*;delta Og;simp!;obtain⟨J,A⟩:∃J:Nat->Sm->MH->Prop,∀j S Z,J j S Z↔∃(L:List Isl) (ys:List MV) (v7:Option MV),S=[wc (.frl (O.map .int)),wc (.int ar),wc (.int hd),wc (.int m),wc (.int w),wc (.int l),wc (.ref Y),v7,v8,v9,P,R,wc (.ref U)]/\L.map (·.name)=(Xq j).map (inm m)/\SameM M2 Z/\Z U=wc (.lst ys)/\IslsNew M3 Z L ys/\(∀I∈L,IslOk w (p.map (·.name)) I/\∀s∈I.stps,U2 p I.name s):=⟨_,λ_ _ _=>XX⟩;erw[⟨by lia,by lia,J,(A _ _ _).mpr (ex3 [] [] _ ⟨rfl,rfl,s3,i3,⟨rfl,λi I y hI=>by simp at hI⟩,λI hI=>nomatch hI⟩),λ_ _ _ _=>trivial,?_,?_⟩]
  .rintro j u S M4 hu h;erw[ee3 ((A _ _ _).mp h) λL ys v7 h=>?_];have⟨rfl,d,s4,i4,hI,hO⟩:=h;have⟨hj,rfl⟩:=Wg hu;have hlI:L.length=j:=by have:=congrArg Wy d;simpa using this
   have hly:=hI.len;rw[VL]
   suffices key:∀D:EndM,D.nx=J (j+1)->wSs ([("_law_cell_at",Cv),("_law_island",Cz),("_law_name",Wl)]:List (Str×SpM)) EN D [wc (.frl (O.map .int)),wc (.int ar),wc (.int hd),wc (.int m),wc (.int w),wc (.int l),wc (.ref Y),wc (.int j),v8,v9,P,R,wc (.ref U)] M4 from key _ rfl
   intro D hD;delta EN;obtain⟨c,hc⟩:∃c:Nat,6+(j:Int)=(c:Int):=⟨6+j,rfl⟩
   simp![i4,hc]
   erw[⟨⟨_,rfl⟩,O,c,rfl,?_⟩];simp!;erw[ex6 (O.getD c 0%1000000000000000000000000000000000000000000000000000000000000) m ar j Y p ⟨rfl,s4 _ _ f2,by lia,ndF,by lia,by lia,by lia,λI a b M5 s5 na N nab ha hb hn hok hen=>?_⟩]
   have i5:=s5 _ _ i4
   simp![i5]
   have bk:∀x,M4 x=we->M3 x=we:=λx W=>by
    cases e:M3 x with
    |none=>rfl
    |some v=>
     by_cases hx2:x=U
     .subst hx2;rw[i4]at W;cases W
     .rw[s4 _ _ (only _ _ e hx2)]at W;cases W
   rw[hD];erw[⟨by lia,(A _ _ _).mpr (ex3 (L++[I]) (ys++[.tup [.str I.name,.ref a,.ref b]]) _ ⟨rfl,?_,λa o h=>by rw[X7 (old2 a o h)];erw[s5 _ _ (s4 _ _ h)],X9,?_,?_⟩)⟩]
   .rw[XI,d,Dd,XI];show _++[I.name]=_;rw[hn];rfl
   .have h3:∀x o,M5 x=wc o->M3 x=we->updM M5 U (.lst (ys++[.tup [.str I.name,.ref a,.ref b]])) x=wc o:=λx o h n=>by
     rw[X7 (λe=>by subst e;rw[i3]at n;cases n)];erw[h]
    have hI5:=hI.keep (M':=updM M5 U (.lst (ys++[.tup [.str I.name,.ref a,.ref b]]))) λx o h n=>h3 x o (s5 _ _ h) n;erw[hI5.add (bk _ na) (bk _ N) (h3 _ _ ha (bk _ na)) (h3 _ _ hb (bk _ N))]
   .intro I' hI';rcases Ye.mp hI' with h'|h'
    .erw[hO _ h']
    .rw[Y1.mp h'];erw[⟨hok w w1,hen⟩]
  .rintro S M4 h;erw[ee3 ((A _ _ _).mp h) λL ys v7 h=>?_];have⟨rfl,d,s4,i4,hI,hO⟩:=h;have d:L.map (·.name)=(Xq l).map (inm m):=d;have hlI:L.length=l:=by have:=congrArg Wy d;simpa using this
   have in5:∀{x},x<l->x<=10:=λh=>Xy (ZF h) (Xy G (by decide))
   delta Of;simp!;erw[q ⟨w,L,p⟩ U Y ys M4 ((s0.trans s2).trans s4) ?_ (by show 1<=L.length;lia) fpi fpf ipf i4 hI.inn (s4 _ _ f2)]
   erw[⟨w1,w2,by show L.length<=5;lia,by show p.length<=6;lia,?_,?_,?_,λI C=>(hO I C).1,?_,λI C=>(hO I C).2⟩]
   .intro z hz;have hz:z∈p.map (·.name):=hz;rw[X]at hz;have⟨i,C,rfl⟩:=XA.mp hz;have:=Zl.mp C;erw[QF (a:=5+i) (by lia)]
   .intro z hz;have hz:z∈L.map (·.name):=hz;rw[d]at hz;have⟨i,C,rfl⟩:=XA.mp hz;have:=Zl.mp C;erw[QF (in5 this)]
   .show(p.map (·.name)++L.map (·.name)).Nodup;rw[Yy];erw[⟨ndF,?_,?_⟩]
    .rw[d];erw[QG λa b ha hb e=>?_];erw[CA (n:=m) (in5 ha) (in5 hb) e]
    .rw[X,d];intro a ha b hb e;have⟨i,C,rfl⟩:=XA.mp ha;have⟨j,hj,rfl⟩:=XA.mp hb;have C:=Zl.mp C;have hj:=Zl.mp hj;have:=CA (n:=m) (a:=5+i) (b:=j) (by lia) (in5 hj) e
     lia
   .intro F hF';show FerOk (L.map (·.name)) F;rw[d];erw[hF F hF']
def zipK:List Str->List MV->List (Key×MV)
 |k::ks,v::vs=>(Xn k,v)::zipK ks vs
 |_,_=>[]
theorem U4:∀{j:List Str} {l:List MV},l.length=j.length->(zipK j l).length=j.length
 |[],[],_=>rfl
 |[],_::_,h=>by cases h
 |_::_,[],h=>by cases h
 |k::j,v::l,h=>by
  show(zipK j l).length+1=_;rw[U4 (by simpa using h)];rfl
theorem Aw:∀{j:List Str} {l:List MV},l.length=j.length->(zipK j l).map (·.1)=j.map Xn
 |[],[],_=>rfl
 |[],_::_,h=>by cases h
 |_::_,[],h=>by cases h
 |k::j,v::l,h=>by
  show Xn k::(zipK j l).map (·.1)=_;rw[Aw (by simpa using h)];rfl
theorem YK:∀{j:List Str} {l:List MV} {i:Nat} {k:Str} {v:MV},j.Nodup->j[i]?=wc k->l[i]?=wc v->valM (zipK j l) (Xn k)=wc v
 |[],_,_,_,_,_,h,_=>by simp at h
 |_::_,[],_,_,_,_,_,h=>by simp at h
 |a::j,b::l,0,k,v,_,h1,h2=>by
  simp at h1 h2;subst h1 h2;simp[zipK,valM]
 |a::j,b::l,i+1,k,v,nd,h1,h2=>by
  rw[Yf]at nd;simp at h1 h2;have:a≠k:=λe=>nd.1 (e▸Xb h1);simp only[zipK,valM];rw[if_neg (λe=>this (Vk e))];erw[YK nd.2 h1 h2]
theorem UW:∀{j:List Str} {l:List MV} {i:Nat} {k:Str} {v:MV},l.length=j.length->j.Nodup->j[i]?=wc k->putM (zipK j l) (Xn k) v=zipK j (l.set i v)
 |[],_,_,_,_,_,_,h=>by simp at h
 |_::_,[],_,_,_,h,_,_=>by cases h
 |a::j,b::l,0,k,v,_,_,h1=>by
  simp at h1;subst h1;simp[zipK,putM]
 |a::j,b::l,i+1,k,v,hl,nd,h1=>by
  rw[Yf]at nd;simp at h1;have:a≠k:=λe=>nd.1 (e▸Xb h1);simp only[zipK,putM,List.set_cons_succ];rw[if_neg (λe=>this (Vk e)),UW (by simpa using hl) nd.2 h1]
def Fu{l:Type} [DecidableEq l] {j:List (l×MV)}{k:l}{v:MV}:(∀p∈j,p.1≠k)->putM j k v=j++[(k,v)]:=by
 induction j with
 |nil=>intro _;rfl
 |cons p r u=>
  intro h;unfold putM;rw[if_neg (h p (Y3 ..)),u λq w=>h q (XJ _ w)];rfl
def _hs{j:List (Key×MV)}(l:(j.map (·.1)).Nodup):Ul j=j:=by
 have u:∀(j c:List (Key×MV)),((c++j).map (·.1)).Nodup->j.foldl (λc z=>putM c z.1 z.2) c=c++j:=by
  intro j
  induction j with
  |nil=>intro c _;simp
  |cons p r w=>
   intro c l;rw[Vc,Fu,w]
   .simp
   .simpa using l
   .intro q y e;rw[XI,Yy]at l;erw[l.2.2 _ (XA.mpr ⟨q,y,rfl⟩) _ (XA.mpr ⟨p,Y3 ..,rfl⟩) e]
 have:=u j [] (by simpa using l)
 rw[Yr]at this;erw[this]
def QI{j:List Str}{l:List MV}(u:l.length=j.length)(w:j.Nodup):Ul (zipK j l)=zipK j l:=by
 erw[_hs ?_];rw[Aw u];unfold List.Nodup;rw[D7];erw[Gu (λh e=>h (Vk e)) w]
def SrcFrom(S:Src)(M M1:MH):Prop:=(S.okF M1/\M1=M)\/∃a o j,S=.dic a o j/\M a=wc (.dic j)/\M1=updM M a (.fdic o j)
def SrcFrom.free{S:Src}{M M1:MH}(h:SrcFrom S M M1){p:Addr}(j:M1 p=we):M p=we:=by
 rcases h with⟨_,rfl⟩|⟨a,o,l,_,u,rfl⟩
 .erw[j]
 .by_cases e:p=a
  .subst e;rw[X9]at j;cases j
  .rwa [X7 e]at j
theorem SrcFrom.ok{S:Src}{M M1 M2:MH}(h:SrcFrom S M M1)(s:SameM M1 M2):S.ok M2:=by
 rcases h with⟨j,rfl⟩|⟨a,o,l,rfl,j,rfl⟩
 .cases S with
  |tup _=>trivial
  |rng _ _=>trivial
  |dic _ _ _=>erw[j.elim]
  |str _=>trivial
  |lst a u=>erw[s _ _ j]
 .erw[s _ _ X9]
theorem SrcFrom.thaw{S:Src}{M M1 M2:MH}(h:SrcFrom S M M1)(s:SameM M1 M2):SameM M (S.thaw M2)/\∀a,M1 a=we->(S.thaw M2) a=M2 a:=by
 rcases h with⟨l,rfl⟩|⟨a,o,j,rfl,l,rfl⟩
 .rw[Ag l];erw[⟨s,λ_ _=>rfl⟩]
 .erw[⟨λb u e=>?_,λb w=>?_⟩]
  .show updM M2 a (.dic j) b=_;by_cases z:b=a
   .subst z;rw[X9];rw[l]at e;erw[e]
   .rw[X7 z];erw[s _ _ (by rw[X7 z];erw[e])]
  .show updM M2 a (.dic j) b=_;erw[X7 λz=>?_];subst z;rw[X9]at w;cases w
theorem Fv:∀{j:List Str} {l:List MV} {k:Str} {v:MV},l.length=j.length->zipK (j++[k]) (l++[v])=zipK j l++[(Xn k,v)]
 |[],[],_,_,_=>rfl
 |[],_::_,_,_,h=>by cases h
 |_::_,[],_,_,h=>by cases h
 |k::j,v::l,_,_,h=>congrArg _ (Fv (by simpa using h))
structure Dc where
 ks:List Str
 val:List Addr->MV
 C:Nat->List Addr->MH->Prop
 fr:∀j N M2 M3,(∀a∈N,M3 a=M2 a)->C j N M2->C j N M3
structure Got (d:Dc)(p:Addr)(Ns:List (List Addr))(M:MH):Prop where
 di:M p=wc (.dic (zipK d.ks (Ns.map d.val)))
 l:Ns.length=d.ks.length
 c:∀(j:Nat)N,Ns[j]?=wc N->d.C j N M
def Laid(M j:MH)(A:List Addr):Prop:=A.Nodup/\∀a∈A,M a=we/\∃o,j a=wc o
def Laid.trans{M M1 M2:MH}{A B:List Addr}(h:Laid M M1 A)(g:Laid M1 M2 B)(l:SameM M M1)(u:SameM M1 M2):Laid M M2 (A++B):=
 ⟨Yy.mpr ⟨h.1,g.1,λa j b w z=>by have⟨_,o,e⟩:=h.2 a j;rw[z,(g.2 b w).1]at e;cases e⟩,λa j=>(Ye.mp j).elim (λj=>⟨(h.2 a j).1,let⟨o,e⟩:=(h.2 a j).2;⟨o,u _ _ e⟩⟩) λj=>⟨l.free (g.2 a j).1,(g.2 a j).2⟩⟩
def Laid.one{M:MH}{p:Addr}(h:M p=we)(o:MO):Laid M (updM M p o) [p]:=⟨by simp,by simp[h,X9]⟩
def Got.move{d:Dc}{p:Addr}{l:List (List Addr)}{M M':MH}(h:Got d p l M)(s:∀a∈p::l.flatten,M' a=M a):Got d p l M':=
 ⟨(s p (Y3 ..)).trans h.di,h.l,λj N u=>d.fr _ _ _ _ (λa w=>s a (XJ _ (VE.mpr ⟨N,Xb u,w⟩))) (h.c j N u)⟩
def Lays(u:List (Str×SpM))(w:Sm)(e:IE)(d:Dc)(M:MH):Prop:=∀Q:QM,(∀p l j,SameM M j->Got d p l j->Laid M j (p::l.flatten)->Q (.ref p) j)->wE u e w M Q
def dct{U:List (Str×SpM)}(P:∀(j:Nat)f s,U[j]?=wc (f,s)->MonW s){o:Str} {fr:List Nat} {c:ISr} {r:IE} {A:Sm} {M:MH} {d:Dc} (nd:d.ks.Nodup)(le:d.ks.length<sizeLine)
  (hs:wSr U c A M λS M1=>S.len=d.ks.length/\SrcFrom S M M1/\∀(j:Nat)x k,S.items[j]?=wc x->d.ks[j]?=wc k->∀W,SameM M1 W->wE U r (wc x::fr.map λi=>A.getD i we) W λy M2=>SameM W M2/\∃N,y=.tup [.str k,d.val N]/\Laid W M2 N/\d.C j N M2):
  Lays U A (.bi .dictL (.comp [o] fr c (.nm 0) .none r) .nil) d M:=by
 intro Q q;simp!;rw[Af];erw[mon_sr P c (λS M1 B=>?_) hs];have⟨Y,C,h4⟩:=B;erw[⟨by rw[Y];erw[le],λD F=>⟨λi R M2=>SameM M1 M2/\M2 D=wc (.lst R)/\∃u:List (List Addr),u.length=i/\i<=d.ks.length/\R=(zipK (d.ks.take i) (u.map d.val)).map prM/\D∉u.flatten/\Laid M1 M2 u.flatten/\∀(j:Nat)N,u[j]?=wc N->d.C j N M2,?_,?_,?_,?_⟩⟩]
 .erw[⟨SameM.new F _,X9,[],rfl,Yg _,rfl,XN,⟨Wx,λ_ h=>(XN h).elim⟩,λ_ _ h=>by cases h⟩]
 .rintro i R M2 ⟨L,O,u,rfl,_,rfl,_⟩;erw[⟨O,by rw[X5,U4 (by rw[X5,Yl];lia),Yl];lia,C.ok L⟩]
 .rintro i x R M2 n ⟨L,O,u,rfl,G,rfl,I,g,J⟩;have G:u.length<d.ks.length:=by rw[<-Y,<-S.items_len];erw[(Xo.mp n).1]
  have b:=X6 G;erw[Xc P r (λy X B=>?_) (h4 _ _ _ n b M2 L)];have⟨Z,N,e,m1,m3⟩:=B;subst e;have dN:D∉N:=λz=>by have:=(m1.2 _ z).1;rw[O]at this;cases this
  have keep:∀y a,a≠D->updM X D y a=X a:=λ_ a z=>X7 z;have fl:(u++[N]).flatten=u.flatten++N:=by simp
  have dF:D∉(u++[N]).flatten:=by rw[fl,Ye];erw[λz=>z.elim I dN]
  erw[⟨Z _ _ O,λa o z=>by rw[X7 (neM z F)];erw[Z _ _ (L _ _ z)],X9,u++[N],by simp,G,?_,dF,?_,?_⟩]
  .rw[Z7,b,XI];show _=(zipK (_++[_]) (_++[d.val N])).map prM;rw[Fv (by rw[X5,Yl];lia),XI]
   rfl
  .have t:=g.trans m1 L Z;rw[<-fl]at t;erw[⟨t.1,λa w=>⟨(t.2 a w).1,by rw[keep _ a λz=>dF (z▸w)];erw[(t.2 a w).2]⟩⟩]
  .intro j N' m;by_cases hj:j<u.length
   .rw[Zv hj]at m;erw[d.fr _ _ M2 _ (λa w=>?_) (J j N' m)];have T:=VE.mpr ⟨N',Xb m,w⟩;have⟨_,o,z2⟩:=g.2 a T;rw[keep _ a λz=>I (z▸T),z2];erw[Z _ _ z2]
   .have hl:=(Xo.mp m).1;rw[XR,UD]at hl;obtain rfl:j=u.length:=by lia
    rw[Zi (Xa _),Nat.sub_self]at m;cases m;erw[d.fr _ _ X _ (λa w=>keep _ a λz=>dN (z▸w)) m3]
 .rintro R M2 ⟨L,O,u,m,_,rfl,I,g,J⟩;have m:u.length=d.ks.length:=m.trans Y;have⟨t1,H⟩:=C.thaw L;rw[Y,V7 (Xa _)]at O;erw[⟨_,(H _ F).trans O,λp v=>?_⟩];rw[QI (by rw[X5,m]) nd]
  have s4:=SameM.new v (.dic (zipK d.ks (u.map d.val)));have l:Laid M (S.thaw M2) u.flatten:=⟨g.1,λa w=>⟨C.free (g.2 a w).1,by rw[H a (g.2 a w).1];erw[(g.2 a w).2]⟩⟩
  have np:p∉u.flatten:=λz=>by
   have⟨_,o,z⟩:=l.2 p z;rw[v]at z;cases z
  erw[q p u _ (t1.trans s4) ⟨X9,m,λj N h=>d.fr _ _ M2 _ (λa w=>?_) (J j N h)⟩ ⟨Yf.mpr ⟨np,l.1⟩,AY.mpr ⟨⟨t1.free v,_,X9⟩,λa w=>⟨(l.2 a w).1,let⟨o,e⟩:=(l.2 a w).2;⟨o,s4 _ _ e⟩⟩⟩⟩]
  have T:=VE.mpr ⟨N,Xb h,w⟩;rw[X7 λz:a=p=>np (z▸T),H a (g.2 a T).1]
def lays{r:List (Str×SpM)}(z:∀(j:Nat)f P,r[j]?=wc (f,P)->MonW P){o:Str} {x:Nat} {n:Int} {E:IE} {R:Sm} {M:MH} {d:Dc} {v:MV} {p:Type} {w:List p} {f:p->MV} {nm:p->Str} (U:R[x]?=wc (wc v))(L:∀M (Q:QM),Q (.tup (w.map f)) M->wIx v (.int n) M Q)(W:∀x,∃l,f x=.tup (.str (nm x)::l))(O:d.ks=w.map nm)(Y:d.ks.Nodup)(le:w.length<sizeLine)
  (q:∀(j:Nat)u,w[j]?=wc u->∀m,wE r E [wc (f u)] m λy M2=>SameM m M2/\∃N,y=d.val N/\Laid m M2 N/\d.C j N M2):Lays r R (.bi .dictL (.comp [o] [] (.seq (.ix (.var x) (.int n))) (.nm 0) .none (.tup (.cons (.ix (.var 0) (.int 0)) (.cons E .nil)))) .nil) d M:=by
 erw[dct z Y (by rw[O,X5];erw[le]) ?_]
 simp![U]
 erw[L _ _ ?_];simp!;erw[⟨by rw[O];erw[(X5 ..).trans (X5 ..).symm],.inl ⟨trivial,rfl⟩,λj y k Z g m _=>?_⟩]
 have⟨T,rfl⟩:=Yj (show(w.map f)[j]?=wc y from Z);rw[O,Xe,X6 T]at g;cases g;have⟨l,e⟩:=W w[j];simp only[Ys];have q:=q j _ (X6 T) m;rw[e]at q ⊢;simp!;erw[Xc z E (λy M2 A=>by have⟨s,N,e,l,c⟩:=A;erw[⟨s,N,by rw[e],l,c⟩]) q]
structure Std where
 num:List Nat
 wd:List (List (Key×MV))
 giv:List (List Int)
 tak:List Nat
structure StA where
 pn:Addr
 pw:Addr
 pg:Addr
 pt:Addr
 ws:List Addr
 gs:List Addr
noncomputable def StA.mv(A:StA):MV:=.tup [.ref A.pn,.ref A.pw,.ref A.pg,.ref A.pt]
structure StdAt (W:Wld)(S:Std)(M:MH)(A:StA):Prop where
 n:M A.pn=wc (.dic (zipK W.ins (S.num.map natM)))
 w:M A.pw=wc (.dic (zipK W.ins (A.ws.map MV.ref)))
 g:M A.pg=wc (.dic (zipK W.fns (A.gs.map MV.ref)))
 t:M A.pt=wc (.dic (zipK W.fns (S.tak.map natM)))
 wl:A.ws.length=W.isl.length
 gl:A.gs.length=W.fer.length
 wv:∀(i:Nat)a kvs,A.ws[i]?=wc a->S.wd[i]?=wc kvs->M a=wc (.dic kvs)
 gv:∀(j:Nat)a xs,A.gs[j]?=wc a->S.giv[j]?=wc xs->M a=wc (.lst (xs.map MV.int))
def StdAt.keep{W:Wld}{S:Std}{M M':MH}{A:StA}(s:SameM M M')(h:StdAt W S M A):StdAt W S M' A:=
 ⟨s _ _ h.n,s _ _ h.w,s _ _ h.g,s _ _ h.t,h.wl,h.gl,λi a k x y=>s _ _ (h.wv i a k x y),λi a k x y=>s _ _ (h.gv i a k x y)⟩
def WdOk(w:Nat)(I:Isl)(j:List (Key×MV)):Prop:=∃l:List Int,l.length=I.vars.length/\j=zipK I.vars (l.map MV.int)/\∀v∈l,0<=v/\v<2^w
structure SOk (W:Wld)(c:Nat)(S:Std):Prop where
 nl:S.num.length=W.isl.length
 wl:S.wd.length=W.isl.length
 gl:S.giv.length=W.fer.length
 tl:S.tak.length=W.fer.length
 ni:∀(i:Nat)I n,W.isl[i]?=wc I->S.num[i]?=wc n->n<=I.stps.length
 wi:∀(i:Nat)I kvs,W.isl[i]?=wc I->S.wd[i]?=wc kvs->WdOk W.w I kvs
 gi:∀xs∈S.giv,xs.length<=c/\∀v∈xs,0<=v/\v<2^W.w
 ti:∀(j:Nat)xs n,S.giv[j]?=wc xs->S.tak[j]?=wc n->n<=xs.length
def rhoK(j:List (Key×MV))(x:Str):Int:=match valM j (Xn x)with
 |wc (.int i)=>i
 |_=>0
def WdOk.at{k:Nat}{I:Isl}{j:List (Key×MV)}(h:WdOk k I j)(w:I.vars.Nodup){x:Str}(y:x∈I.vars):valM j (Xn x)=wc (.int (rhoK j x))/\0<=rhoK j x/\rhoK j x<2^k:=by
 have⟨l,d,rfl,z⟩:=h;have⟨i,m,rfl⟩:=Yq y;have u:i<l.length:=by lia
 have e:valM (zipK I.vars (l.map MV.int)) (Xn I.vars[i])=wc (.int l[i]):=YK (i:=i) w (X6 m) (by rw[Xe,X6 u];rfl)
 have g:rhoK (zipK I.vars (l.map MV.int)) I.vars[i]=l[i]:=by unfold rhoK;rw[e]
 rw[g];erw[⟨e,z _ (XS u)⟩]
def WdOk.reads{k:Nat}{I:Isl}{j:List (Key×MV)}(h:WdOk k I j)(l:I.vars.Nodup):readsOk I.vars j (rhoK j) k:=λ_ u=>h.at l u
def WdOk.len{k:Nat}{I:Isl}{j:List (Key×MV)}(h:WdOk k I j):j.length=I.vars.length:=by
 have⟨u,l,rfl,w⟩:=h;erw[U4 (by rw[X5];erw[l])]
def WdOk.nodup{k:Nat}{I:Isl}{l:List (Key×MV)}(h:WdOk k I l)(z:I.vars.Nodup):(l.map (·.1)).Nodup/\∀p∈l,Yb p.2=wf:=by
 have⟨j,m,rfl,c⟩:=h;have g:(j.map MV.int).length=I.vars.length:=by rw[X5];erw[m]
 erw[⟨?_,?_⟩]
 .rw[Aw g];unfold List.Nodup;rw[D7];erw[Gu (λh e=>h (Vk e)) z]
 .have y:∀(w:List Str)(j:List Int),∀p∈zipK w (j.map MV.int),Yb p.2=wf:=by
   intro w
   induction w with
   |nil=>intro j p u;cases u
   |cons k w d=>
    intro j p u;cases j with
    |nil=>cases u
    |cons v j=>
     rcases Xk.mp u with rfl|u
     .rfl
     .erw[d j p u]
  erw[y _ _]
def WdOk.put{k:Nat}{I:Isl}{j:List (Key×MV)}(h:WdOk k I j)(y:I.vars.Nodup){x:Str}(z:x∈I.vars){v:Int}(m:0<=v/\v<2^k):WdOk k I (putM j (Xn x) (.int v)):=by
 have⟨g,w,rfl,d⟩:=h;have⟨i,c,rfl⟩:=Yq z;erw[⟨g.set i v,by rw[ZT];erw[w],?_,λu l=>?_⟩]
 .rw[UW (i:=i) (by rw[X5];erw[w]) y (X6 c),UH]
 .rcases AW l with l|rfl
  .erw[d u l]
  .erw[m]
noncomputable def Wld.fat(W:Wld)(f:Str):Nat:=W.fns.idxOf f
def YL{W:Wld}{f:Str}(h:f∈W.fns):W.fns[W.fat f]?=wc f/\W.fat f<W.fer.length:=by
 have l:W.fns.idxOf f<W.fns.length:=FT.mpr h;erw[⟨?_,by unfold Wld.fns at l;rw[X5]at l;erw[l]⟩]
 unfold Wld.fat;rw[X6 l,List.getElem_idxOf l]
noncomputable def canM(W:Wld)(S:Std):Stp->Bool
 |.take f _=>decide (S.tak.getD (W.fat f) 0<(S.giv.getD (W.fat f) []).length)
 |.give f _=>decide (((S.giv.getD (W.fat f) []).length:Int) - (S.tak.getD (W.fat f) 0:Nat)<2^(W.fer.map (·.k)).getD (W.fat f) 0)
 |_=>wf
noncomputable def Z2(W:Wld)(S:Std):Stp->MV
 |.take f _=>.int ((S.giv.getD (W.fat f) []).getD (S.tak.getD (W.fat f) 0) 0)
 |_=>.non
noncomputable def givM(W:Wld)(j:Str->Int)(s:Stp)(g:List (List Int)):List (List Int):=match s with
 |.give f T=>g.set (W.fat f) (g.getD (W.fat f) []++[T.val j W.w])
 |_=>g
noncomputable def tkM(W:Wld)(S:Std)(s:Stp)(t:List Nat):List Nat:=match s with
 |.take f _=>t.set (W.fat f) (S.tak.getD (W.fat f) 0+1)
 |_=>t
def Zs(W:Wld)(S:Std)(i:Nat)(s:Stp)(B:Std):Std:=
 {num:=B.num.set i (XZ s (rhoK (S.wd.getD i [])) W.w (S.num.getD i 0)).toNat
  wd:=B.wd.set i (YD s (S.wd.getD i []) (rhoK (S.wd.getD i [])) W.w (Z2 W S s))
  giv:=givM W (rhoK (S.wd.getD i [])) s B.giv
  tak:=tkM W S s B.tak}
def YM(W:Wld)(S:Std)(i:Nat)(I:Isl):Option Stp:=match I.stps[S.num.getD i 0]? with
 |wc s=>if canM W S s then wc s else we
 |we=>we
def YW(W:Wld)(S:Std)(i:Nat)(p:Std×List Str):Std×List Str:=match W.isl[i]? with
 |wc I=>match YM W S i I with
  |wc s=>(Zs W S i s p.1,p.2++[I.name])
  |we=>p
 |we=>p
def Xv(W:Wld)(S:Std):Nat->Std×List Str
 |0=>(S,[])
 |i+1=>YW W S i (Xv W S i)
def _t{W:Wld}(G:W.Good){i:Nat}{I:Isl}(j:W.isl[i]?=wc I){n:Nat} {s:Stp} (l:I.stps[n]?=wc s):Za W.fns I.vars I.stps.length s:=(G.io I (Xb j)).st s (Xb l)
def CB{fs j:List Str}{n:Nat}{s:Stp}(h:Za fs j n s):s.ok j n:=by
 cases s with
 |take f x=>erw[h.2]
 |give f T=>erw[h.2]
 |put x T=>erw[h]
 |jump T i=>erw[h]
def Uw{j:Type}{l:List j}{i:Nat}{x d:j}(h:l[i]?=wc x):l.getD i d=x:=by rw[Y6,h];rfl
def QJ{s:Stp}{fs u:List Str}{k:Nat}(h:Za fs u k s){l:Str->Int}{w n:Nat}(m:n<k):0<=XZ s l w n/\(XZ s l w n).toNat<=k/\XZ s l w n=((XZ s l w n).toNat:Int):=by
 have a:0<=XZ s l w n/\XZ s l w n<=k:=by
  cases s with
  |jump T j=>
   have⟨_,y,z⟩:=h;unfold XZ;dsimp only;split
   .erw[⟨y,z⟩]
   .lia
  |take f x=>unfold XZ;dsimp only;lia
  |give f x=>unfold XZ;dsimp only;lia
  |put f x=>unfold XZ;dsimp only;lia
 lia
def Yd{l:Type}{u:List l}{i j:Nat}{v x:l}(h:(u.set i v)[j]?=wc x):(j=i/\x=v)\/(j≠i/\u[j]?=wc x):=by
 rw[V9]at h;by_cases e:i=j
 .subst e;rw[if_pos rfl]at h;split at h
  .erw[.inl ⟨rfl,(Y2 h).symm⟩]
  .cases h
 .rw[if_neg e]at h;erw[.inr ⟨λz=>e z.symm,h⟩]
def CC(S B:Std):Prop:=∀(j:Nat)l u,S.giv[j]?=wc l->B.giv[j]?=wc u->l.length<=u.length
def SOk.up{W:Wld}{c d:Nat}{S:Std}(h:SOk W c S)(l:c<=d):SOk W d S:=⟨h.nl,h.wl,h.gl,h.tl,h.ni,h.wi,λj u=>⟨Xy (h.gi j u).1 l,(h.gi j u).2⟩,h.ti⟩
def Fw{W:Wld}{c:Nat}{S:Std}(h:SOk W c S){i:Nat}{I:Isl}(j:W.isl[i]?=wc I):S.num[i]?=wc (S.num.getD i 0):=by
 have l:i<S.num.length:=by rw[h.nl];erw[(Xo.mp j).1]
 rw[Y6,X6 l];rfl
def UX{W:Wld}{c:Nat}{S:Std}(h:SOk W c S){i:Nat}{I:Isl}(j:W.isl[i]?=wc I):S.wd[i]?=wc (S.wd.getD i []):=by
 have l:i<S.wd.length:=by rw[h.wl];erw[(Xo.mp j).1]
 rw[Y6,X6 l];rfl
def Ax{W:Wld}{c:Nat}{S:Std}(h:SOk W c S){j:Nat}(u:j<W.fer.length):S.giv[j]?=wc (S.giv.getD j []):=by
 have l:j<S.giv.length:=by rw[h.gl];erw[u]
 rw[Y6,X6 l];rfl
def _pY{W:Wld}{c:Nat}{S:Std}(h:SOk W c S){j:Nat}(u:j<W.fer.length):S.tak[j]?=wc (S.tak.getD j 0):=by
 have l:j<S.tak.length:=by rw[h.tl];erw[u]
 rw[Y6,X6 l];rfl
set_option tactic.hygienic true in
def CD{W:Wld}{S:Std}{i:Nat}{I:Isl}{s:Stp}(h:YM W S i I=wc s):I.stps[S.num.getD i 0]?=wc s/\canM W S s=wf:=by
 unfold YM at h;split at h
 .rename_i j e
  split at h
  .cases h;erw[⟨e,‹_›⟩]
  .cases h
 .cases h
def QK{W:Wld}{c:Nat}{S:Std}(u:SOk W c S){f x:Str}(w:f∈W.fns)(j:canM W S (.take f x)=wf):∃v,Z2 W S (.take f x)=.int v/\(S.giv.getD (W.fat f) [])[S.tak.getD (W.fat f) 0]?=wc v/\0<=v/\v<2^W.w:=by
 have l:=(YL w).2;have j:S.tak.getD (W.fat f) 0<(S.giv.getD (W.fat f) []).length:=of_decide_eq_true j;erw[⟨_,rfl,?_,?_⟩]
 .rw[Y6 (l:=S.giv.getD (W.fat f) []),X6 j];rfl
 .rw[Y6 (l:=S.giv.getD (W.fat f) []),X6 j];erw[(u.gi _ (Xb (Ax u l))).2 _ (XS j)]
def _jc{W:Wld}(G:W.Good){c:Nat}{S:Std}(z:SOk W c S){i:Nat}{I:Isl}(u:W.isl[i]?=wc I){s:Stp} (g:YM W S i I=wc s):WdOk W.w I (YD s (S.wd.getD i []) (rhoK (S.wd.getD i [])) W.w (Z2 W S s)):=by
 have⟨d,q⟩:=CD g;have w:=_t G u d;have l:=z.wi i I _ u (UX z u);have m:=(G.io I (Xb u)).nd;cases s with
 |take f x=>
  have⟨v,e,_,r⟩:=QK z w.1 q;rw[e];erw[l.put m w.2 r]
 |give f T=>erw[l]
 |put x T=>erw[l.put m w.1 (Tm.val_in G.w1 λy p=>(l.at m (w.2.2.2 y p)).2)]
 |jump T j=>erw[l]
def _h1{W:Wld}(G:W.Good){c d:Nat}{S B:Std}(N:SOk W c S)(m:SOk W d B)(A:CC S B){i:Nat}{I:Isl}(g:W.isl[i]?=wc I){s:Stp} (C:YM W S i I=wc s):
  SOk W (d+1) (Zs W S i s B)/\CC S (Zs W S i s B):=by
 have⟨D,J⟩:=CD C;have O:=_t G g D;have R:S.num.getD i 0<I.stps.length:=(Xo.mp D).1;have M:=N.wi i I _ g (UX N g);have Q:=(G.io I (Xb g)).nd;have X:(givM W (rhoK (S.wd.getD i [])) s B.giv).length=B.giv.length:=by
  cases s<;>simp[givM]
 have H:(tkM W S s B.tak).length=B.tak.length:=by
  cases s<;>simp[tkM]
 have q:∀(j:Nat)w,(givM W (rhoK (S.wd.getD i [])) s B.giv)[j]?=wc w->∃z,B.giv[j]?=wc z/\z.length<=w.length/\w.length<=z.length+1/\∀v∈w,v∈z\/(0<=v/\v<2^W.w):=by
  intro j w h;cases s with
  |give f T=>
   have h:(B.giv.set (W.fat f) (B.giv.getD (W.fat f) []++[T.val (rhoK (S.wd.getD i [])) W.w]))[j]?=wc w:=h;rcases Yd h with⟨rfl,rfl⟩|⟨_,h⟩
   .erw[⟨_,Ax m (YL O.1).2,by simp,by simp,λv l=>?_⟩]
    rcases Ye.mp l with l|l
    .erw[.inl l]
    .rw[Y1]at l;subst l;erw[.inr (Tm.val_in G.w1 λy r=>(M.at Q (O.2.2.2 y r)).2)]
   .erw[⟨w,h,Xa _,YT _,λv l=>.inl l⟩]
  |take f x=>erw[⟨w,h,Xa _,YT _,λv l=>.inl l⟩]
  |put f x=>erw[⟨w,h,Xa _,YT _,λv l=>.inl l⟩]
  |jump f x=>erw[⟨w,h,Xa _,YT _,λv l=>.inl l⟩]
 have U:∀(j:Nat)n,(tkM W S s B.tak)[j]?=wc n->B.tak[j]?=wc n\/(j<W.fer.length/\n=S.tak.getD j 0+1/\S.tak.getD j 0<(S.giv.getD j []).length):=by
  intro j n h;cases s with
  |take f x=>
   have h:(B.tak.set (W.fat f) (S.tak.getD (W.fat f) 0+1))[j]?=wc n:=h;rcases Yd h with⟨rfl,rfl⟩|⟨_,h⟩
   .erw[.inr ⟨(YL O.1).2,rfl,of_decide_eq_true J⟩]
   .erw[.inl h]
  |give f x=>erw[.inl h]
  |put f x=>erw[.inl h]
  |jump f x=>erw[.inl h]
 erw[⟨⟨by simp[Zs,m.nl],by simp[Zs,m.wl],X.trans m.gl,H.trans m.tl,?_,?_,?_,?_⟩,?_⟩]
 .intro e Y n u h;rcases Yd (show(B.num.set i _)[e]?=wc n from h)with⟨rfl,rfl⟩|⟨_,h⟩
  .rw[g]at u;cases u;erw[(QJ O R).2.1]
  .erw[m.ni e Y n u h]
 .intro e Y L u h;rcases Yd (show(B.wd.set i _)[e]?=wc L from h)with⟨rfl,rfl⟩|⟨_,h⟩
  .rw[g]at u;cases u;erw[_jc G N g C]
  .erw[m.wi e Y L u h]
 .intro w r;have⟨j,o,rfl⟩:=Yq r;have⟨z,p,P,F,Z⟩:=q j _ (X6 o);have:=m.gi z (Xb p);erw[⟨by have:=this.1;lia,λv l=>?_⟩]
  rcases Z v l with l|l
  .erw[this.2 v l]
  .erw[l]
 .intro j w n r R;have⟨z,p,P,F,Z⟩:=q j _ r;rcases U j n R with h|⟨b,rfl,h2⟩
  .erw[Xy (m.ti j z n p h) P]
  .have:=A j _ z (Ax N b) p;lia
 .intro j a w hx r;have⟨z,p,P,F,Z⟩:=q j _ r;erw[Xy (A j a z hx p) P]
set_option tactic.hygienic true in
theorem Vv{W:Wld}(G:W.Good){c:Nat}{S:Std}(y:SOk W c S):∀i:Nat,SOk W (c+i) (Xv W S i).1/\CC S (Xv W S i).1/\(∀z∈(Xv W S i).2,z∈W.ins)/\(Xv W S i).2.length<=i
 |0=>⟨y,λj f q w l=>by rw[show(Xv W S 0).1=S from rfl,w]at l;cases l;erw[Xa _],λz h=>(nomatch h),Xa _⟩
 |i+1=>by
  have⟨w,l,m,r⟩:=Vv G y i;show SOk W (c+(i+1)) (YW W S i (Xv W S i)).1/\CC S (YW W S i (Xv W S i)).1/\(∀z∈(YW W S i (Xv W S i)).2,z∈W.ins)/\(YW W S i (Xv W S i)).2.length<=i+1;unfold YW;split
  .rename_i I g
   split
   .rename_i s d
    have⟨a,b⟩:=_h1 G y w l g d;erw[⟨a,b,λz u=>?_,by simp;lia⟩]
    rcases Ye.mp u with u|u
    .erw[m z u]
    .rw[Y1]at u;subst u;erw[XA.mpr ⟨I,Xb g,rfl⟩]
   .erw[⟨w.up (by lia),l,m,by lia⟩]
  .erw[⟨w.up (by lia),l,m,by lia⟩]
def QL(W:Wld)(S:Std):Std:=(Xv W S W.isl.length).1
def Ay(W:Wld)(S:Std):List Str:=(Xv W S W.isl.length).2
def Wld.Good.in_nd{W:Wld}(G:W.Good):W.ins.Nodup:=(Yy.mp G.nd).2.1
def Wld.Good.fn_nd{W:Wld}(G:W.Good):W.fns.Nodup:=(Yy.mp G.nd).1
def Y4{W:Wld}{i:Nat}{I:Isl}(h:W.isl[i]?=wc I):W.ins[i]?=wc I.name:=by unfold Wld.ins;rw[Xe,h];rfl
def U5{W:Wld}{i:Nat}{f:Fer}(h:W.fer[i]?=wc f):W.fns[i]?=wc f.name:=by unfold Wld.fns;rw[Xe,h];rfl
abbrev QN:SpM:=λm M Q=>∃(l:List Str) (w:List MV) (i:Nat) (z:Str) (y:MV),m=[.tup w,.str z]/\(∀(j:Nat)u,w[j]?=wc u->∃x r,u=.tup (.str x::r)/\l[j]?=wc x)/\l.Nodup/\l[i]?=wc z/\w[i]?=wc y/\Q y M
def _7p:MonW QN:=by walk_at "m"
def QO(T:Txt E):FO E 1 "one_called" QN:=by
 erw[T.cr.ok T.g _7p 2 ["row","name","one"] (fC T f0) LW (fun U M Q h=>?_)];have⟨W,c,i,z,y,rfl,P,R,L,O,q⟩:=h;erw[⟨rfl,?_⟩];show wSs _ _ _ [wc (.tup c),wc (.str z),we] M;delta LW;simp!;obtain⟨J,f⟩:∃J:Nat->Sm->MH->Prop,∀j m g,J j m g↔g=M/\j<=i/\∃v,m=[wc (.tup c),wc (.str z),v]:=⟨_,λ_ _ _=>XX⟩;erw[⟨J,(f _ _ _).mpr ⟨rfl,Yg _,_,rfl⟩,λj m g h=>trivial,?_,?_⟩]
 .rintro j u m g d h;have⟨rfl,p,v,rfl⟩:=(f _ _ _).mp h;have d:c[j]?=wc u:=d;have⟨x,r,rfl,N⟩:=P j u d;delta LV;simp!;erw[XY (λe=>?_) (λe=>?_)]
  .subst e;have w:j=i:=(UG (Xo.mp N).1 R).mp (N.trans L.symm);subst w;delta LU;simp!;rw[O]at d;cases d;erw[q]
  .erw[(f _ _ _).mpr ⟨rfl,?_,_,rfl⟩];rcases Nat.lt_or_ge j i with l|l
   .erw[l]
   .exfalso;have w:j=i:=Nat.le_antisymm p l;subst w;rw[N]at L;erw[e (Y2 L)]
 .rintro m g h;exfalso;have⟨_,p,_⟩:=(f _ _ _).mp h;have p:c.length<=i:=p;have:=(Xo.mp O).1;lia
abbrev UY:SpM:=λj M Q=>∃(W:Wld) (i:Nat) (I:Isl),j=[W.mv,.str I.name]/\W.Good/\W.isl[i]?=wc I/\Q I.mv M
def _8X:MonW UY:=by walk_at "m"
def Fx(T:Txt E):FO E 2 "island_of" UY:=by
 erw[T.bb.ok T.g _8X 2 ["world","name"] (fC T (fc (QO T) f0)) LX (fun z M Q h=>?_)];have⟨W,i,I,rfl,G,l,q⟩:=h;erw[⟨rfl,?_⟩];show wSs _ _ _ [wc W.mv,wc (.str I.name)] M;delta LX;rw[Wld.mv];simp!;erw[ex5 W.ins (W.isl.map Isl.mv) i I.name I.mv ⟨rfl,λj u w=>?_,G.in_nd,Y4 l,by rw[Xe,l];rfl,q⟩]
 have⟨y,rfl⟩:=Yj w;erw[⟨_,_,rfl,Y4 (X6 y)⟩]
abbrev QP:SpM:=λj M Q=>∃(W:Wld) (i:Nat) (f:Fer),j=[W.mv,.str f.name]/\W.Good/\W.fer[i]?=wc f/\Q f.mv M
def _9I:MonW QP:=by walk_at "m"
def QQ(T:Txt E):FO E 2 "ferry_of" QP:=by
 erw[T.aN.ok T.g _9I 2 ["world","name"] (fC T (fc (QO T) f0)) LY (fun z M Q h=>?_)];have⟨W,i,I,rfl,G,l,q⟩:=h;erw[⟨rfl,?_⟩];show wSs _ _ _ [wc W.mv,wc (.str I.name)] M;delta LY;rw[Wld.mv];simp!;erw[ex5 W.fns (W.fer.map Fer.mv) i I.name I.mv ⟨rfl,λj u w=>?_,G.fn_nd,U5 l,by rw[Xe,l];rfl,q⟩]
 have⟨y,rfl⟩:=Yj w;erw[⟨_,_,rfl,U5 (X6 y)⟩]
def CF{W:Wld}(G:W.Good){c:Nat}{S:Std}(l:SOk W c S){i:Nat}{I:Isl}(j:W.isl[i]?=wc I):valM (zipK W.ins (S.num.map natM)) (Xn I.name)=wc (.int (S.num.getD i 0:Nat)):=YK G.in_nd (Y4 j) (by rw[Xe,Fw l j];rfl)
def Fy{W:Wld}(G:W.Good){j:List Addr}{i:Nat}{I:Isl}{a:Addr}(l:W.isl[i]?=wc I)(u:j[i]?=wc a):valM (zipK W.ins (j.map MV.ref)) (Xn I.name)=wc (.ref a):=YK G.in_nd (Y4 l) (by rw[Xe,u];rfl)
def Az{W:Wld}(G:W.Good){j:List Addr}{f:Str}{a:Addr}(l:f∈W.fns)(u:j[W.fat f]?=wc a):valM (zipK W.fns (j.map MV.ref)) (Xn f)=wc (.ref a):=YK G.fn_nd (YL l).1 (by rw[Xe,u];rfl)
def AA{W:Wld}(G:W.Good){c:Nat}{S:Std}(l:SOk W c S){f:Str}(j:f∈W.fns):valM (zipK W.fns (S.tak.map natM)) (Xn f)=wc (.int (S.tak.getD (W.fat f) 0:Nat)):=YK G.fn_nd (YL j).1 (by rw[Xe,_pY l (YL j).2];rfl)
def StdAt.ws_at{W:Wld}{S:Std}{M:MH}{A:StA}(h:StdAt W S M A){c:Nat}(u:SOk W c S){i:Nat}{I:Isl}(j:W.isl[i]?=wc I):∃a,A.ws[i]?=wc a/\M a=wc (.dic (S.wd.getD i [])):=by
 have l:i<A.ws.length:=by rw[h.wl];erw[(Xo.mp j).1]
 erw[⟨_,X6 l,h.wv i _ _ (X6 l) (UX u j)⟩]
def StdAt.gs_at{W:Wld}{S:Std}{M:MH}{A:StA}(h:StdAt W S M A){c:Nat}(u:SOk W c S){f:Str}(j:f∈W.fns):∃a,A.gs[W.fat f]?=wc a/\M a=wc (.lst ((S.giv.getD (W.fat f) []).map MV.int)):=by
 have l:W.fat f<A.gs.length:=by rw[h.gl];erw[(YL j).2]
 erw[⟨_,X6 l,h.gv _ _ _ (X6 l) (Ax u (YL j).2)⟩]
abbrev QR:SpM:=λj M Q=>∃(W:Wld) (S:Std) (A:StA) (c i:Nat) (I:Isl),j=[W.mv,A.mv,.str I.name]/\W.Good/\SOk W c S/\StdAt W S M A/\W.isl[i]?=wc I/\Q (dueM I.stps (rhoK (S.wd.getD i [])) W.w (S.num.getD i 0)) M
def _aK:MonW QR:=by walk_at "m"
def QS(T:Txt E):FO E 51 "wish_of" QR:=by
 erw[T.b8.ok T.g _aK 3 ["world","stand","name"] (fC T (fc (Fx T) (fc (Pt T) f0))) MY (fun m M Q h=>?_)];have⟨W,S,A,c,i,I,rfl,G,l,u,j,q⟩:=h;erw[⟨rfl,?_⟩];show wSs _ _ _ [wc W.mv,wc A.mv,wc (.str I.name)] M;have⟨a,w,y⟩:=u.ws_at l j;have ok:=G.io I (Xb j);delta MY;rw[Wld.mv,StA.mv]
 simp![u.n,u.w]
 erw[ex3 W i I ⟨rfl,G,j,?_⟩];rw[Isl.mv]
 simp![u.n,u.w]
 erw[⟨_,CF G l j,_,Fy G j w,?_⟩];erw[ex8 _ a I.stps (S.num.getD i 0) W.w (S.wd.getD i []) (rhoK (S.wd.getD i [])) I.vars ⟨rfl,.inl rfl,λs z=>CB (ok.st s z),l.ni i I _ j (Fw l j),G.w1,G.w2,y,(l.wi i I _ j (UX l j)).reads ok.nd,q⟩]
noncomputable def askM(s:Stp)(j:Str->Int)(w:Nat):MV:=match s with
 |.take f _=>.tup [.str "take",.str f]
 |.give f T=>.tup [.str "give",.str f,.int (T.val j w)]
 |_=>.tup [.str "own"]
def QT{j:List Stp}{i:Nat}{s:Stp}(h:j[i]?=wc s)(l:Str->Int)(w:Nat):dueM j l w i=askM s l w:=by
 unfold dueM;rw[h];cases s<;>rfl
abbrev QU:SpM:=λj M Q=>∃(W:Wld) (S:Std) (A:StA) (c:Nat) (s:Stp) (l:Str->Int) (u:List Str) (k:Nat),j=[W.mv,A.mv,askM s l W.w]/\W.Good/\SOk W c S/\StdAt W S M A/\Za W.fns u k s/\Q (.bl (canM W S s)) M
def _co:MonW QU:=by walk_at "m"
def QV(T:Txt E):FO E 3 "can_be" QU:=by
 erw[T.ce.ok T.g _co 3 ["world","stand","asked","under_way"] (fC T (fc (QQ T) (fc (Ap T) f0))) N2 (fun N M Q h=>?_)];have⟨W,S,A,c,s,d,O,k,rfl,G,y,j,l,q⟩:=h;erw[⟨rfl,?_⟩];show wSs _ _ _ [wc W.mv,wc A.mv,wc (askM s d W.w),we] M;delta N2;rw[Wld.mv,StA.mv];cases s with
 |put x T=>
  simp only[askM];simp!;delta EF;simp!;erw[q]
 |jump x T=>
  simp only[askM];simp!;delta EF;simp!;erw[q]
 |take f x=>
  simp only[askM];have⟨a,z,m⟩:=j.gs_at y l.1;simp!;delta EE
  simp![j.g,j.t]
  erw[⟨_,Az G l.1 z,?_⟩]
  simp![m,j.t]
  erw[⟨_,AA G y l.1,?_⟩];simp!;delta ED;simp!;delta N0;simp!;have e:canM W S (.take f x)=decide ((((S.giv.getD (W.fat f) []).map MV.int).length:Int) - (S.tak.getD (W.fat f) 0:Nat)>0):=by
   unfold canM;rw[X5];erw[decide_eq_decide.mpr ⟨λh=>by lia,λh=>by lia⟩]
  rw[e]at q;erw[q]
 |give f T=>
  simp only[askM];have⟨a,z,m⟩:=j.gs_at y l.1;have⟨g,w⟩:=YL l.1;have u:=X6 w;have r:(W.fer[W.fat f]).name=f:=by have:=U5 u;rw[g]at this;erw[(Y2 this).symm]
  have p:=G.fo _ (XS w);have P:=p.k3;simp!;delta EE
  simp![j.g,j.t]
  erw[⟨_,Az G l.1 z,?_⟩]
  simp![m,j.t]
  erw[⟨_,AA G y l.1,?_⟩];simp!;delta ED;simp!;delta MZ;simp!;erw[ex3 W (W.fat f) (W.fer[W.fat f]) ⟨by rw[r];rfl,G,u,?_⟩]
  rw[Fer.mv];simp!;erw[⟨(W.fer[W.fat f]).k,rfl,by lia,?_⟩]
  simp!;have e:(W.fer.map (·.k)).getD (W.fat f) 0=(W.fer[W.fat f]).k:=by rw[Y6,Xe,u];rfl
  have L:canM W S (.give f T)=decide (((S.giv.getD (W.fat f) []).length:Int) - (S.tak.getD (W.fat f) 0:Nat)<2^(W.fer.map (·.k)).getD (W.fat f) 0):=rfl;rw[L,e]at q;rw[X5];erw[q]
def ins_len{W:Wld}:W.ins.length=W.isl.length:=by unfold Wld.ins;rw[X5]
def fns_len{W:Wld}:W.fns.length=W.fer.length:=by unfold Wld.fns;rw[X5]
noncomputable abbrev hd(N:List Addr):Addr:=N.getD 0 default
theorem Fz:∀{L:List (List Addr)},(∀(j:Nat)N,L[j]?=wc N->∃p,N=[p])->L.flatten=L.map hd
 |[],_=>rfl
 |N::L,h=>by
  have⟨p,rfl⟩:=h 0 N rfl;rw[Zx,Fz λj N z=>h (j+1) N (by simpa using z)];rfl
def wd0(I:Isl):List (Key×MV):=zipK I.vars ((I.prs.map (·.2)).map MV.int)
def FA{w:Nat}{I:Isl}(l:I.vars.Nodup)(u:∀p∈I.prs,0<=p.2/\p.2<2^w):Ul (I.prs.map λp=>((Xn p.1:Key),MV.int p.2))=wd0 I/\WdOk w I (wd0 I):=by
 have e:∀j:List (Str×Int),(j.map λp=>((Xn p.1:Key),MV.int p.2))=zipK (j.map (·.1)) ((j.map (·.2)).map MV.int):=λj=>by
  induction j with
  |nil=>rfl
  |cons p r y=>rw[Xz,y];rfl
 erw[⟨by rw[e];erw[QI (by simp) l],I.prs.map (·.2),by unfold Isl.vars;simp,rfl,λv z=>?_⟩]
 have⟨p,m,rfl⟩:=XA.mp z;erw[u p m]
def _oW(j:List (Str×Int)):j.map prV=(j.map λp=>((Xn p.1:Key),MV.int p.2)).map prM:=by rw[Y9];rfl
noncomputable def dNum(j:List Str):Dc:=⟨j,λ_=>.int 0,λ_ N _=>N=[],λ_ _ _ _ _ h=>h⟩
def dOne(l:List Str)(P:Nat->MO->Prop):Dc:=⟨l,λN=>.ref (hd N),λj N M=>∃p o,N=[p]/\M p=wc o/\P j o,λj N M2 y u w=>by have⟨p,o,e,h,c⟩:=w;erw[⟨p,o,e,(u p (by simp[e])).trans h,c⟩]⟩
def Got.num{u:List Str}{p:Addr}{w:List (List Addr)}{M:MH}{z:Type}{y:List z}(h:Got (dNum u) p w M)(l:y.length=u.length):w.flatten=[]/\M p=wc (.dic (zipK u ((y.map λ_=>0).map natM))):=by
 erw[⟨List.flatten_eq_nil_iff.mpr λN m=>?_,?_⟩]
 .have⟨j,g⟩:=ZS m;erw[h.c j N g]
 .have e:=h.di;have d:w.map (dNum u).val=(y.map λ_=>0).map natM:=by
   rw[Y9];show w.map (λ_=>MV.int 0)=y.map (λ_=>MV.int 0);rw[List.map_const',List.map_const',h.l,l];rfl
  rw[d]at e;erw[e]
def Got.one{ks:List Str}{P:Nat->MO->Prop}{p:Addr}{u:List (List Addr)}{M:MH}(h:Got (dOne ks P) p u M):∃l:List Addr,u.flatten=l/\M p=wc (.dic (zipK ks (l.map MV.ref)))/\l.length=ks.length/\∀(j:Nat)a,l[j]?=wc a->∃o,M a=wc o/\P j o:=by
 erw[⟨u.map hd,Fz λj N w=>by have⟨p,_,e,_⟩:=h.c j N w;erw[⟨p,e⟩],by rw[Y9];erw[h.di],by rw[X5];erw[h.l],λj a y=>?_⟩]
 rw[Xe]at y;have⟨N,w,rfl⟩:=VO.mp y;have⟨p,o,rfl,e,c⟩:=h.c j N w;erw[⟨o,e,c⟩]
section
variable{Φ:List (Str×SpM)}{σ:Sm}{x:Nat}{M:MH}{E:IE}{d:Dc}{W:Wld}
def CG(l:∀(j:Nat)f z,Φ[j]?=wc (f,z)->MonW z)(G:W.Good)(g:σ[x]?=wc (wc W.mv))(m:d.ks=W.ins)(c:∀(j:Nat)u,W.isl[j]?=wc u->∀w,wE Φ E [wc u.mv] w fun y M2=>SameM w M2/\∃N,y=d.val N/\Laid w M2 N/\d.C j N M2):Lays Φ σ (.bi .dictL (.comp ["island"] [] (.seq (.ix (.var x) (.int 1))) (.nm 0) .none (.tup (.cons (.ix (.var 0) (.int 0)) (.cons E .nil)))) .nil) d M:=
 lays l g (w:=W.isl) (f:=Isl.mv) (nm:=(·.name)) (λM Q h=>⟨_,_,rfl,rfl,h⟩) (λI=>⟨_,rfl⟩) m (by rw[m];erw[G.in_nd]) (Do G.i5 (by decide)) c
def CH(l:∀(j:Nat)f z,Φ[j]?=wc (f,z)->MonW z)(G:W.Good)(g:σ[x]?=wc (wc W.mv))(m:d.ks=W.fns)(c:∀(j:Nat)u,W.fer[j]?=wc u->∀w,wE Φ E [wc u.mv] w fun y M2=>SameM w M2/\∃N,y=d.val N/\Laid w M2 N/\d.C j N M2):Lays Φ σ (.bi .dictL (.comp ["ferry"] [] (.seq (.ix (.var x) (.int 2))) (.nm 0) .none (.tup (.cons (.ix (.var 0) (.int 0)) (.cons E .nil)))) .nil) d M:=
 lays l g (w:=W.fer) (f:=Fer.mv) (nm:=(·.name)) (λM Q h=>⟨_,_,rfl,rfl,h⟩) (λI=>⟨_,rfl⟩) m (by rw[m];erw[G.fn_nd]) (Do G.f6 (by decide)) c
def FB{u:List Str}(j:Nat)(v:MV)(l:MH):wE Φ (.int 0) [wc v] l λy M2=>SameM l M2/\∃N,y=(dNum u).val N/\Laid l M2 N/\(dNum u).C j N M2:=⟨SameM.refl _,[],rfl,⟨Wx,λ_ h=>(XN h).elim⟩,rfl⟩
def CI{u:List Str}{P:Nat->MO->Prop}{j:Nat}{l:MH}{p:Addr}{o:MO}(w:l p=we)(c:P j o):SameM l (updM l p o)/\∃N,MV.ref p=(dOne u P).val N/\Laid l (updM l p o) N/\(dOne u P).C j N (updM l p o):=⟨SameM.new w _,[p],rfl,.one w _,p,o,rfl,X9,c⟩
def dWds(W:Wld):Dc:=dOne W.ins λj o=>∀I,W.isl[j]?=wc I->o=.dic (wd0 I)
def dLst(W:Wld):Dc:=dOne W.fns λ_ o=>o=.lst []
def QW(G:W.Good)(j:Nat)(u:Isl)(z:W.isl[j]?=wc u)(l:MH):wE Φ (.bi .dict (.ix (.var 0) (.int 1)) .nil) [wc u.mv] l λy M2=>SameM l M2/\∃N,y=(dWds W).val N/\Laid l M2 N/\(dWds W).C j N M2:=by
 simp![Isl.mv]
 erw[⟨_,_oW u.prs,λp g=>?_⟩];have ok:=G.io u (Xb z);rw[(FA (w:=W.w) ok.nd ok.wd).1];erw[CI g λJ m=>by rw[z]at m;cases m;rfl]
def QX(j:Nat)(v:MV)(l:MH):wE Φ (.lst .nil) [wc v] l λy M2=>SameM l M2/\∃N,y=(dLst W).val N/\Laid l M2 N/\(dLst W).C j N M2:=by
 simp!;erw[λp u=>CI u rfl]
end
def Laid.perm{M j:MH}{A B:List Addr}(h:Laid M j A)(p:A.Perm B):Laid M j B:=⟨p.nodup_iff.mp h.1,λa l=>h.2 a (p.mem_iff.mpr l)⟩
noncomputable def StA.own(A:StA):List Addr:=A.pn::A.pw::A.pg::A.pt::A.gs
structure StA.New (A:StA)(M0:MH):Prop where
 nd:A.own.Nodup
 fr:∀a∈A.own,M0 a=we
 ws:∀a∈A.ws,a∉A.own
def CJ{A:StA}(j:A.own.Nodup):(A.pn≠A.pw/\A.pn≠A.pg/\A.pn≠A.pt/\A.pn∉A.gs)/\(A.pw≠A.pg/\A.pw≠A.pt/\A.pw∉A.gs)/\(A.pg≠A.pt/\A.pg∉A.gs)/\A.pt∉A.gs/\A.gs.Nodup:=by
 unfold StA.own at j;simp only[Yf,Xk,not_or]at j;have⟨⟨l,u,w,y⟩,⟨z,m,g⟩,⟨d,c⟩,f,e⟩:=j;erw[⟨⟨l,u,w,y⟩,⟨z,m,g⟩,⟨d,c⟩,f,e⟩]
def QY{M:MH}{x a:Addr}{o:MO}(h:updM M x o a=we):M a=we:=by
 by_cases e:a=x
 .subst e;rw[X9]at h;cases h
 .rwa [X7 e]at h
def FC{A:StA}{a:Addr}(h:a∈A.gs):a∈A.own:=by simp[StA.own,h]
def StdAt.put_t{W:Wld}{B:Std}{M j:MH}{A:StA}(h:StdAt W B M A)(N:A.New j)(t:List Nat):StdAt W {B with tak:=t} (updM M A.pt (.dic (zipK W.fns (t.map natM)))) A:=by
 have⟨⟨g,d,l,c⟩,⟨f,u,q⟩,⟨w,r⟩,m,e⟩:=CJ N.nd;erw[⟨?_,?_,?_,X9,h.wl,h.gl,λi a k x y=>?_,λi a k x y=>?_⟩]
 .rw[X7 l];erw[h.n]
 .rw[X7 u];erw[h.w]
 .rw[X7 w];erw[h.g]
 .rw[X7 λz=>N.ws a (Xb x) (by rw[z];simp[StA.own])];erw[h.wv i a k x y]
 .rw[X7 λz=>m (by rw[<-z];erw[Xb x])];erw[h.gv i a k x y]
def StdAt.put_n{W:Wld}{B:Std}{M j:MH}{A:StA}(h:StdAt W B M A)(N:A.New j)(t:List Nat):StdAt W {B with num:=t} (updM M A.pn (.dic (zipK W.ins (t.map natM)))) A:=by
 have⟨⟨l,u,w,m⟩,⟨g,d,c⟩,⟨f,q⟩,r,e⟩:=CJ N.nd;erw[⟨X9,?_,?_,?_,h.wl,h.gl,λi a k x y=>?_,λi a k x y=>?_⟩]
 .rw[X7 λz=>l z.symm];erw[h.w]
 .rw[X7 λz=>u z.symm];erw[h.g]
 .rw[X7 λz=>w z.symm];erw[h.t]
 .rw[X7 λz=>N.ws a (Xb x) (by rw[z];simp[StA.own])];erw[h.wv i a k x y]
 .rw[X7 λz=>m (by rw[<-z];erw[Xb x])];erw[h.gv i a k x y]
def StdAt.put_g{W:Wld}{B:Std}{M m:MH}{A:StA}(h:StdAt W B M A)(N:A.New m){j:Nat}{b:Addr}(u:A.gs[j]?=wc b)(w:List Int):StdAt W {B with giv:=B.giv.set j w} (updM M b (.lst (w.map MV.int))) A:=by
 have⟨⟨r,p,L,g⟩,⟨O,P,d⟩,⟨R,c⟩,f,e⟩:=CJ N.nd;have l:=Xb u;erw[⟨?_,?_,?_,?_,h.wl,h.gl,λi a k x y=>?_,λi a k x y=>?_⟩]
 .rw[X7 λz:A.pn=b=>g (by rw[z];erw[l])];erw[h.n]
 .rw[X7 λz:A.pw=b=>d (by rw[z];erw[l])];erw[h.w]
 .rw[X7 λz:A.pg=b=>c (by rw[z];erw[l])];erw[h.g]
 .rw[X7 λz:A.pt=b=>f (by rw[z];erw[l])];erw[h.t]
 .rw[X7 λz=>N.ws a (Xb x) (by rw[z];erw[FC l])];erw[h.wv i a k x y]
 .rcases Yd y with⟨rfl,rfl⟩|⟨q,y⟩
  .rw[u]at x;cases x;erw[X9]
  .rw[X7 λz=>q ?_]
   .erw[h.gv i a k x y]
   .subst z;erw[(UG (Xo.mp x).1 e).mp (x.trans u.symm)]
def StdAt.put_w{W:Wld}{B:Std}{M m:MH}{A:StA}(h:StdAt W B M A)(N:A.New m)(i:Nat){p:Addr}{l:List (Key×MV)}(d:M p=wc (.dic l))(g:p∉A.own):
  StdAt W {B with wd:=B.wd.set i l} (updM M A.pw (.dic (zipK W.ins ((A.ws.set i p).map MV.ref)))) {A with ws:=A.ws.set i p}/\StA.New {A with ws:=A.ws.set i p} m:=by
 have⟨⟨c,P,R,T⟩,⟨f,q,r⟩,⟨U,Y⟩,Z,e⟩:=CJ N.nd;erw[⟨⟨?_,X9,?_,?_,by rw[ZT];erw[h.wl],h.gl,λL a k x y=>?_,λj a k x y=>?_⟩,N.nd,N.fr,λa u=>?_⟩]
 .rw[X7 c];erw[h.n]
 .rw[X7 λz=>f z.symm];erw[h.g]
 .rw[X7 λz=>q z.symm];erw[h.t]
 .have O:a∉A.own:=by
   rcases Yd x with⟨_,rfl⟩|⟨_,x⟩
   .erw[g]
   .erw[N.ws a (Xb x)]
  rw[X7 λz=>O (by rw[z];simp[StA.own])]
  rcases Yd x with⟨rfl,rfl⟩|⟨w,x⟩
  .rcases Yd y with⟨_,rfl⟩|⟨w,y⟩
   .erw[d]
   .erw[(w rfl).elim]
  .rcases Yd y with⟨rfl,_⟩|⟨_,y⟩
   .erw[(w rfl).elim]
   .erw[h.wv L a k x y]
 .rw[X7 λz=>r (by rw[<-z];erw[Xb x])];erw[h.gv j a k x y]
 .rcases AW u with u|rfl
  .erw[N.ws a u]
  .erw[g]
abbrev QZ:SpM:=λy M Q=>∃(W:Wld) (S B:Std) (A j:StA) (l:MH) (c d i:Nat) (I:Isl) (s:Stp),y=[W.mv,A.mv,.str I.name,askM s (rhoK (S.wd.getD i [])) W.w,j.mv]/\W.Good/\SOk W c S/\SOk W d B/\d<=1000/\StdAt W S l A/\SameM l M/\StdAt W B M j/\j.New l/\W.isl[i]?=wc I/\YM W S i I=wc s/\
 ∀u w,SameM l u->StA.New {j with ws:=w} l->(∀a∈w,a∈j.ws\/M a=we)->StdAt W (Zs W S i s B) u {j with ws:=w}->Q .non u
def _aP:MonW QZ:=by walk_at "m"
def _g8(T:Txt E):FO E 52 "do_step" QZ:=by
 erw[T.aV.ok T.g _aP 5 ["world","stand","name","asked","behind","word","ferry","steps","went"] (fC T (fc (Px T) (fc (Fx T) f0))) Nc (fun vs M Q h=>?_)];have⟨W,S,B,A,u,M0,c,d,i,I,s,rfl,G,R,y,hd,hA,Z,O,N,g,hg,q⟩:=h;erw[⟨rfl,?_⟩];show wSs _ _ _ [wc W.mv,wc A.mv,wc (.str I.name),wc (askM s (rhoK (S.wd.getD i [])) W.w),wc u.mv,we,we,we,we] M;have⟨H,hc⟩:=CD hg;have L:=_t G g H;have hn:S.num.getD i 0<I.stps.length:=(Xo.mp H).1;have ok:=G.io I (Xb g);have wd:=R.wi i I _ g (UX R g);have nv:=ok.nv;have i5:=G.i5;have f6:=G.f6;have vl:I.vars.length=I.prs.length:=by unfold Isl.vars;rw[X5]
 have J:W.ins.length=W.isl.length:=by unfold Wld.ins;rw[X5]
 have lf:W.fns.length=W.fer.length:=by unfold Wld.fns;rw[X5]
 have hIl:i<W.isl.length:=(Xo.mp g).1;have rest:∀(M1:MH)(m:Std)(v6:Option MV),SameM M0 M1->(∀a,M1 a=we->M a=we)->StdAt W m M1 u->m.num.length=W.isl.length->m.giv.length=W.fer.length->{m with num:=m.num.set i (XZ s (rhoK (S.wd.getD i [])) W.w (S.num.getD i 0)).toNat,wd:=m.wd.set i (YD s (S.wd.getD i []) (rhoK (S.wd.getD i [])) W.w (Z2 W S s))}=Zs W S i s B->
   wSs ([("after",ET),("island_of",UY)]:List (Str×SpM)) EG {nx:=fun _ M'=>Q .non M',rt:=Q} [wc W.mv,wc A.mv,wc (.str I.name),wc (askM s (rhoK (S.wd.getD i [])) W.w),wc u.mv,wc (Z2 W S s),v6,we,we] M1:=by
  intro M1 m v6 s1 fd P ln lg eB;have l:=hA.keep s1;have⟨a,a1,a2⟩:=l.ws_at R g;delta EG;simp!;erw[ex3 W i I ⟨rfl,G,g,?_⟩];rw[Isl.mv];simp!;delta N6;rw[Wld.mv,StA.mv]
  simp![l.n,l.w]
  erw[⟨_,CF G R g,_,Fy G g a1,?_⟩];erw[ex10 _ a I.stps (S.num.getD i 0) W.w (S.wd.getD i []) (rhoK (S.wd.getD i [])) I.vars s (Z2 W S s) ⟨rfl,.inl rfl,H,CB L,G.w1,G.w2,a2,by rw[wd.len];lia,wd.reads ok.nd,λp n=>?_⟩]
  have s2:=SameM.new n (.dic (YD s (S.wd.getD i []) (rhoK (S.wd.getD i [])) W.w (Z2 W S s)));have hp2:updM M1 p (.dic (YD s (S.wd.getD i []) (rhoK (S.wd.getD i [])) W.w (Z2 W S s))) p=wc (.dic (YD s (S.wd.getD i []) (rhoK (S.wd.getD i [])) W.w (Z2 W S s))):=X9;generalize updM M1 p _=M2 at*;have s02:=s1.trans s2;have O:=P.keep s2;have p0:=fd p n;have np:p∉u.own:=λz=>by
   have hh:∃o,M1 p=wc o:=by
    unfold StA.own at z;simp only[Xk]at z;rcases z with z|z|z|z|z
    .erw[⟨_,z▸P.n⟩]
    .erw[⟨_,z▸P.w⟩]
    .erw[⟨_,z▸P.g⟩]
    .erw[⟨_,z▸P.t⟩]
    .have⟨j,hj,e⟩:=Yq z;have hj2:j<m.giv.length:=by rw[lg,<-P.gl];erw[hj]
     erw[⟨_,e▸P.gv j _ _ (X6 hj) (X6 hj2)⟩]
   have⟨o,ho⟩:=hh;rw[n]at ho;cases ho
  have⟨l1,l2,l3⟩:=QJ (l:=rhoK (S.wd.getD i [])) (w:=W.w) L hn;simp!;delta N5;rw[StA.mv]
  simp![O.n]
  rw[U4 (by rw[X5,ln,J]),UW (i:=i) (by rw[X5,ln,J]) G.in_nd (Y4 g),l3]
  erw[⟨by lia,?_⟩]
  have C:(m.num.map natM).set i (.int ((XZ s (rhoK (S.wd.getD i [])) W.w (S.num.getD i 0)).toNat:Nat))=(m.num.set i (XZ s (rhoK (S.wd.getD i [])) W.w (S.num.getD i 0)).toNat).map natM:=by rw[UH]<;>rfl
  rw[C];have Y:=O.put_n N (m.num.set i (XZ s (rhoK (S.wd.getD i [])) W.w (S.num.getD i 0)).toNat);have D:=s02.upd (N.fr u.pn (by simp[StA.own])) (.dic (zipK W.ins ((m.num.set i (XZ s (rhoK (S.wd.getD i [])) W.w (S.num.getD i 0)).toNat).map natM)))
  have hp3:updM M2 u.pn (.dic (zipK W.ins ((m.num.set i (XZ s (rhoK (S.wd.getD i [])) W.w (S.num.getD i 0)).toNat).map natM))) p=wc (.dic (YD s (S.wd.getD i []) (rhoK (S.wd.getD i [])) W.w (Z2 W S s))):=by rw[X7 λz=>np (by rw[z];simp[StA.own])];erw[hp2]
  generalize updM M2 u.pn _=M3 at*;delta N3
  simp![Y.w]
  rw[U4 (by rw[X5,P.wl,J]),UW (i:=i) (by rw[X5,P.wl,J]) G.in_nd (Y4 g)]
  erw[⟨by lia,?_⟩]
  have e4:(u.ws.map MV.ref).set i (.ref p)=(u.ws.set i p).map MV.ref:=by rw[UH]
  rw[e4];have⟨h4,N4⟩:=Y.put_w N i hp3 np;erw[q _ _ (D.upd (N.fr u.pw (by simp[StA.own])) _) N4 (λx hx=>(AW hx).elim .inl λz=>.inr (by rw[z];erw[p0])) (eB▸h4)]
 delta Nc;simp!;delta Nb;cases s with
 |take f x=>
  have⟨v,w1,w2,w3⟩:=QK R L.1 hc;have l:=hA.keep Z;have⟨b,F,X⟩:=l.gs_at R L.1;simp only[askM];simp!;delta Na;simp!;delta N9;rw[StA.mv]
  simp![l.g,l.t]
  erw[⟨_,Az G L.1 F,?_⟩]
  simp![l.t,X]
  erw[⟨_,AA G R L.1,?_⟩]
  simp![X]
  erw[⟨.int v,Yn (by rw[Xe,w2];rfl),?_⟩]
  delta N8
  simp![l.t]
  erw[⟨_,AA G R L.1,?_⟩];rw[StA.mv]
  simp![O.t]
  rw[U4 (by rw[X5,y.tl,lf]),UW (i:=W.fat f) (by rw[X5,y.tl,lf]) G.fn_nd (YL L.1).1]
  erw[⟨by lia,?_⟩]
  have C:(B.tak.map natM).set (W.fat f) (.int ((S.tak.getD (W.fat f) 0:Nat)+1))=(B.tak.set (W.fat f) (S.tak.getD (W.fat f) 0+1)).map natM:=by rw[UH];rfl
  rw[C];have Y:=O.put_t N (B.tak.set (W.fat f) (S.tak.getD (W.fat f) 0+1));have D:=Z.upd (N.fr u.pt (by simp[StA.own])) (.dic (zipK W.fns ((B.tak.set (W.fat f) (S.tak.getD (W.fat f) 0+1)).map natM)))
  have U:∀a,updM M u.pt (.dic (zipK W.fns ((B.tak.set (W.fat f) (S.tak.getD (W.fat f) 0+1)).map natM))) a=we->M a=we:=λ_=>QY;generalize updM M u.pt _=M3 at*;delta An;simp!;have r:=rest M3 _ (wc (.str f)) D U Y y.nl y.gl rfl;rw[w1]at r;erw[r]
 |give f T=>
  have⟨b,F,X⟩:=O.gs_at y L.1;have hgi:=(y.gi _ (Xb (Ax y (YL L.1).2))).1;simp only[askM];simp!;delta An;simp!;delta N7;rw[StA.mv,StA.mv]
  simp![O.g]
  erw[⟨_,Az G L.1 F,?_⟩]
  simp![X]
  rw[X5];erw[⟨⟨_,rfl⟩,by lia,?_⟩]
  have C:(B.giv.getD (W.fat f) []).map MV.int++[.int (T.val (rhoK (S.wd.getD i [])) W.w)]=(B.giv.getD (W.fat f) []++[T.val (rhoK (S.wd.getD i [])) W.w]).map MV.int:=by simp
  rw[C];have Y:=O.put_g N F (B.giv.getD (W.fat f) []++[T.val (rhoK (S.wd.getD i [])) W.w]);have D:=Z.upd (N.fr b (FC (Xb F))) (.lst ((B.giv.getD (W.fat f) []++[T.val (rhoK (S.wd.getD i [])) W.w]).map MV.int));have U:∀a,updM M b (.lst ((B.giv.getD (W.fat f) []++[T.val (rhoK (S.wd.getD i [])) W.w]).map MV.int)) a=we->M a=we:=λ_=>QY;generalize updM M b _=M3 at*;erw[rest M3 _ we D U Y y.nl (by rw[ZT];erw[y.gl]) rfl]
 |put x T=>
  simp only[askM];simp!;delta An;simp!;erw[rest M B we Z (λ_ z=>z) O y.nl y.gl rfl]
 |jump T j=>
  simp only[askM];simp!;delta An;simp!;erw[rest M B we Z (λ_ z=>z) O y.nl y.gl rfl]
def UZ(W:Wld):Std:=⟨W.isl.map λ_=>0,W.isl.map wd0,W.fer.map λ_=>[],W.fer.map λ_=>0⟩
def _h3{W:Wld}(G:W.Good):SOk W 0 (UZ W):=by
 erw[⟨X5 _,X5 _,X5 _,X5 _,λi I n u h=>?_,λi I y u h=>?_,λz m=>?_,λj z n d l=>?_⟩]
 .rw[show(UZ W).num=W.isl.map λ_=>0 from rfl,Xe,u]at h;cases h;erw[Yg _]
 .rw[show(UZ W).wd=W.isl.map wd0 from rfl,Xe,u]at h;cases h;have ok:=G.io I (Xb u);erw[(FA ok.nd ok.wd).2]
 .have⟨_,_,rfl⟩:=XA.mp m;erw[⟨Xa _,λv g=>(nomatch g)⟩]
 .rw[show(UZ W).tak=W.fer.map λ_=>0 from rfl,Xe]at l;cases w:W.fer[j]? with
  |none=>rw[w]at l;cases l
  |some f=>rw[w]at l;cases l;erw[Yg _]
def R4{j:List Str}{l:List MV}(h:l.length=j.length):(zipK j l).map (λp=>kM p.1)=j.map MV.str:=by
 have:=Aw h;have e:(zipK j l).map (λp=>kM p.1)=((zipK j l).map (·.1)).map kM:=by rw[Y9];rfl
 rw[e,this,Y9];rfl
theorem R5:∀{j:List Str} {l:List MV} {i:Nat} {k:Str} {v:MV},j[i]?=wc k->l[i]?=wc v->(Xn k,v)∈zipK j l
 |[],_,_,_,_,h,_=>by simp at h
 |_::_,[],_,_,_,_,h=>by simp at h
 |a::j,b::l,0,k,v,h1,h2=>by simp at h1 h2;subst h1 h2;erw[Y3 ..]
 |a::j,b::l,i+1,k,v,h1,h2=>XJ _ (R5 (by simpa using h1) (by simpa using h2))
def StdAt.ws_ne{W:Wld}{S:Std}{M:MH}{A:StA}(h:StdAt W S M A)(G:W.Good){c:Nat}(u:SOk W c S){i:Nat}{a:Addr}(w:A.ws[i]?=wc a):a≠A.pw:=by
 intro e;have y:i<W.isl.length:=by rw[<-h.wl];erw[(Xo.mp w).1]
 have j:=X6 y;have l:=h.wv i a _ w (UX u j);rw[e,h.w]at l;have z:zipK W.ins (A.ws.map MV.ref)=S.wd.getD i []:=by injection l with l;injection l
 have:=((u.wi i _ _ j (UX u j)).nodup (G.io _ (XS y)).nd).2 (Xn (W.isl[i]).name,.ref a);have:=this (by rw[<-z];erw[R5 (Y4 j) (by rw[Xe,w];rfl)])
 cases this
def R6{M m:MH}{u w y pt:Addr}{l z L:List Addr}(h:Laid M m L)(p:∀a,L.count a=((u::w::y::pt::z)++l).count a):(StA.mk u w y pt l z).New M/\∀a∈l,M a=we:=by
 have⟨g,new⟩:=h.perm (List.perm_iff_count.mpr p);have d:=Yy.mp g;erw[⟨⟨d.1,λa j=>(new a (AZ _ j)).1,λa j c=>d.2.2 a c a j rfl⟩,λa j=>(new a (Zw _ j)).1⟩]
abbrev R7:SpM:=λu M Q=>∃(W:Wld) (S:Std) (A:StA) (c:Nat),u=[A.mv]/\W.Good/\SOk W c S/\StdAt W S M A/\∀l j,SameM M l->StdAt W S l j->j.New M->(∀a∈j.ws,M a=we)->Q j.mv l
def _aQ:MonW R7:=by walk_at "m"
def _g9(T:Txt E):FO E 1 "copy_of" R7:=by
 erw[T.aR.ok T.g _aQ 1 ["stand","words","given"] (fC T f0) MX (fun vs M Q h=>?_)];have⟨W,S,A,c,rfl,G,v,u,q⟩:=h;erw[⟨rfl,?_⟩];show wSs _ _ _ [wc A.mv,we,we] M;have U:=(U1 (u:=[]) nl0);have i5:=G.i5;have f6:=G.f6;delta MX;rw[US,Vq];erw[dct U (d:=dOne W.ins λj o=>∀l,S.wd[j]?=wc l->o=.dic l) G.in_nd (by show W.ins.length<sizeLine;rw[ins_len];unfold sizeLine;lia) ?_ _ λX n1 M1 Y g1 l1=>?_]
 .simp![StA.mv,u.w]
  intro o;erw[⟨U4 (by rw[X5,u.wl,ins_len]),.inr ⟨_,_,_,rfl,u.w,rfl⟩,λj x k m w M' s=>?_⟩]
  have w:W.ins[j]?=wc k:=w;have m:((zipK W.ins (A.ws.map MV.ref)).map λp=>kM p.1)[j]?=wc x:=m;rw[R4 (by rw[X5,u.wl,ins_len]),Xe,w]at m
  cases m;have g:=(Xo.mp w).1;rw[ins_len]at g;have R:=X6 (show j<A.ws.length by rw[u.wl];erw[g])
  have Z:=X6 (show j<S.wd.length by rw[v.wl];erw[g])
  have f:=s _ _ ((X7 (M:=M) (u.ws_ne G v R)).trans (u.wv j _ _ R Z));have r:=s _ _ (X9 (M:=M));simp only[Xz,Ys,YQ,StA.mv,kM]
  simp![r]
  erw[⟨_,YK G.in_nd w (by rw[Xe,R];rfl),?_⟩]
  simp![f]
  intro p r;have⟨n,N,b,e3⟩:=CI (u:=W.ins) (P:=λj o=>∀l,S.wd[j]?=wc l->o=.dic l) r λl h=>by rw[Z]at h;cases h;rfl
  erw[⟨n,N,by rw[<-b],e3⟩]
 have⟨ws,f1,w1,w2,w3⟩:=g1.one;rw[f1]at l1;show wSs _ EC _ [wc A.mv,wc (.ref X),we] M1;have z:=u.keep Y;delta EC;rw[US,Vq];erw[dct U (d:=dOne W.fns λj o=>∀B,S.giv[j]?=wc B->o=.lst (B.map MV.int)) G.fn_nd (by show W.fns.length<sizeLine;rw[fns_len];unfold sizeLine;lia) ?_ _ λpg n2 M2 C g2 l2=>?_]
 .simp![StA.mv,z.g]
  intro o;erw[⟨U4 (by rw[X5,u.gl,fns_len]),.inr ⟨_,_,_,rfl,z.g,rfl⟩,λj x k m w M' s=>?_⟩]
  have w:W.fns[j]?=wc k:=w;have m:((zipK W.fns (A.gs.map MV.ref)).map λp=>kM p.1)[j]?=wc x:=m;rw[R4 (by rw[X5,u.gl,fns_len]),Xe,w]at m
  cases m;have g:=(Xo.mp w).1;rw[fns_len]at g;have R:=X6 (show j<A.gs.length by rw[u.gl];erw[g])
  have Z:=X6 (show j<S.giv.length by rw[v.gl];erw[g])
  have f:=z.gv j _ _ R Z;have f:=s _ _ ((X7 (M:=M1) λe=>by rw[e,z.g]at f;cases f).trans f)
  have r:=s _ _ (X9 (M:=M1));simp only[Xz,Ys,YQ,StA.mv,kM]
  simp![r]
  erw[⟨_,YK G.fn_nd w (by rw[Xe,R];rfl),?_⟩]
  simp![f]
  intro p r;have⟨n,N,b,e3⟩:=CI (u:=W.fns) (P:=λj o=>∀B,S.giv[j]?=wc B->o=.lst (B.map MV.int)) r λl h=>by rw[Z]at h;cases h;rfl
  erw[⟨n,N,by rw[<-b],e3⟩]
 have⟨gs,f2,v1,v2,v3⟩:=g2.one;rw[f2]at l2;show wSs _ EB _ [wc A.mv,wc (.ref X),wc (.ref pg)] M2;have D:=z.keep C;delta EB;rw[StA.mv]
 simp![D.n]
 intro F I;have H:=SameM.new I (.dic (zipK W.ins (S.num.map natM)));have h3:updM M2 F (.dic (zipK W.ins (S.num.map natM))) F=_:=X9;have l3:=Laid.one I (.dic (zipK W.ins (S.num.map natM)));generalize updM M2 F _=M3 at*;have hA3:=D.keep H
 simp![hA3.t]
 intro pt J;have s4:=SameM.new J (.dic (zipK W.fns (S.tak.map natM)));have h4:updM M3 pt (.dic (zipK W.fns (S.tak.map natM))) pt=_:=X9;have l4:=Laid.one J (.dic (zipK W.fns (S.tak.map natM)));generalize updM M3 pt _=M4 at*;have L:=H.trans s4;have O:=C.trans L;have nw:=R6 (u:=F) (w:=X) (y:=pg) (pt:=pt) (l:=ws) (z:=gs) ((((l1.trans l2 Y C).trans l3 (Y.trans C) H).trans l4 ((Y.trans C).trans H) s4)) λa=>by
  simp only[D6,List.count_cons,List.count_nil];lia
 erw[q M4 ⟨F,X,pg,pt,ws,gs⟩ (Y.trans O) ⟨s4 _ _ h3,O _ _ w1,L _ _ v1,h4,w2.trans ins_len,v2.trans fns_len,λi a k x y=>?_,λi a k x y=>?_⟩ nw.1 nw.2]
 .have⟨o,e,c⟩:=w3 i a x;rw[c k y]at e;erw[O _ _ e]
 .have⟨o,e,c⟩:=v3 i a x;rw[c k y]at e;erw[L _ _ e]
abbrev AB:SpM:=λl M Q=>∃W:Wld,l=[W.mv]/\W.Good/\∀j A,SameM M j->StdAt W (UZ W) j A->A.New M->(∀a∈A.ws,M a=we)->Q A.mv j
def R8:MonW AB:=by walk_at "m"
def _aG(T:Txt E):FO E 1 "first_stand" AB:=by
 erw[T.be.ok T.g R8 1 ["world","numbers","words","given","taken"] (fC T f0) MW (fun vs M Q h=>?_)];have⟨W,rfl,G,q⟩:=h;erw[⟨rfl,?_⟩];have l:=(U1 (u:=[]) nl0);show wSs _ _ _ [wc W.mv,we,we,we,we] M;delta MW;rw[US,Vq];erw[CG l G rfl (d:=dNum W.ins) rfl (λj u _=>FB j _) _ λz n1 M1 f F O=>?_];have⟨I,J⟩:=F.num (y:=W.isl) ins_len.symm;rw[I]at O;show wSs _ EA _ [wc W.mv,wc (.ref z),we,we,we] M1;delta EA;rw[US,Vq];erw[CG l G rfl (d:=dWds W) rfl (QW G) _ λm n2 M2 r S P=>?_];have⟨R,X,H,U,v⟩:=S.one;rw[X]at P;show wSs _ Ez _ [wc W.mv,wc (.ref z),wc (.ref m),we,we] M2;delta Ez;rw[US,Vq];erw[CH l G rfl (d:=dLst W) rfl (λj u _=>QX j _) _ λp n3 s N n Y=>?_];have⟨Z,b,v1,v2,v3⟩:=n.one;rw[b]at Y;show wSs _ Ey _ [wc W.mv,wc (.ref z),wc (.ref m),wc (.ref p),we] s;delta Ey;rw[US,Vq];erw[CH l G rfl (d:=dNum W.fns) rfl (λj u _=>FB j _) _ λpt n4 A L g4 B=>?_];have⟨f4,h4⟩:=g4.num (y:=W.fer) fns_len.symm;rw[f4]at B;show wSs _ Ex _ [wc W.mv,wc (.ref z),wc (.ref m),wc (.ref p),wc (.ref pt)] A;delta Ex;simp!;have w:=N.trans L;have g:=r.trans w;have C:=R6 (u:=z) (w:=m) (y:=p) (pt:=pt) (l:=R) (z:=Z) ((((O.trans P f r).trans Y (f.trans r) N).trans B ((f.trans r).trans N) L)) λa=>by
  simp only[D6,List.count_cons,List.count_nil];lia
 erw[q A ⟨z,m,p,pt,R,Z⟩ (f.trans g) ⟨g _ _ J,w _ _ H,L _ _ v1,h4,U.trans ins_len,v2.trans fns_len,λi a k x y=>?_,λi a k x y=>?_⟩ C.1 C.2]
 .have⟨o,e,c⟩:=v i a x;have D:i<W.isl.length:=by rw[<-ins_len (W:=W),<-U];erw[(Xo.mp x).1]
  rw[show(UZ W).wd=W.isl.map wd0 from rfl,Xe,X6 D]at y;cases y;rw[c _ (X6 D)]at e;erw[w _ _ e]
 .have⟨o,e,rfl⟩:=v3 i a x;rw[show(UZ W).giv=W.fer.map (λ_=>[])from rfl,Xe]at y;have⟨_,_,rfl⟩:=VO.mp y;erw[L _ _ e]
noncomputable def AC(L:List Addr)(M:MH):MH:=λa=>if a∈L then we else M a
def FD{L:List Addr}{M:MH}{a:Addr}(h:a∉L):AC L M a=M a:=if_neg h
def R9{L:List Addr}{M:MH}{a:Addr}(h:a∈L):AC L M a=we:=if_pos h
def _iE(L:List Addr)(M:MH):SameM (AC L M) M:=λa o h=>by
 by_cases e:a∈L
 .rw[R9 e]at h;cases h
 .rwa [FD e]at h
def StdAt.off{W:Wld}{S:Std}{M:MH}{A:StA}(h:StdAt W S M A){D:Addr}{xs:List MV}(u:M D=wc (.lst xs))(w:D∉A.gs)(o:MO):StdAt W S (updM M D o) A:=by
 have l:∀{a:Addr} {j:List (Key×MV)},M a=wc (.dic j)->updM M D o a=wc (.dic j):=fun{a j} e=>by
  rw[X7 λz=>by rw[z,u]at e;cases e];erw[e]
 erw[⟨l h.n,l h.w,l h.g,l h.t,h.wl,h.gl,λi a k x y=>l (h.wv i a k x y),λi a k x y=>?_⟩];rw[X7 λz=>w (by rw[<-z];erw[Xb x])]
 erw[h.gv i a k x y]
abbrev AD:SpM:=λu M Q=>∃(W:Wld) (S:Std) (A:StA) (c:Nat),u=[W.mv,A.mv]/\W.Good/\SOk W c S/\c<=900/\StdAt W S M A/\∀j l p,SameM M j->StdAt W (QL W S) j l->l.New M->(∀a∈l.ws,M a=we)->M p=we->j p=wc (.lst ((Ay W S).map MV.str))->Q (.tup [l.mv,.ref p]) j
def Ra:MonW AD:=by walk_at "m"
def _ej(T:Txt E):FO E 53 "round_of" AD:=by
 erw[T.c7.ok T.g Ra 2 ["world","stand","behind","names","island","asked"] (fC T (fc (QV T) (fc (_g9 T) (fc (_g8 T) (fc (QS T) f0))))) Nl (fun vs M Q h=>?_)];have⟨W,S,A,c,rfl,G,L,hc,b,q⟩:=h;erw[⟨rfl,?_⟩];show wSs _ _ _ [wc W.mv,wc A.mv,we,we,we,we] M;have i5:=G.i5;delta Nl;simp!;erw[ex4 W S A c ⟨rfl,G,L,b,λM1 w s1 p N1 w1=>?_⟩];delta Nk;simp!;intro D g;have s2:=s1.trans (SameM.new g (.lst []));have h2:=p.keep (SameM.new g (.lst []));have hd2:updM M1 D (.lst []) D=wc (.lst []):=X9;have P:D∉w.own:=λz=>by
  unfold StA.own at z;simp only[Xk]at z;rcases z with z|z|z|z|z
  .erw[neM p.n g z.symm]
  .erw[neM p.w g z.symm]
  .erw[neM p.g g z.symm]
  .erw[neM p.t g z.symm]
  .have⟨j,i,e⟩:=Yq z;have hj2:j<S.giv.length:=by rw[L.gl,<-p.gl];erw[i]
   erw[neM (p.gv j _ _ (X6 i) (X6 hj2)) g e]
 have R:=s1.free g;generalize updM M1 D _=M2 at*;delta Nj;rw[Wld.mv];simp!;obtain⟨J,U⟩:∃J:Nat->Sm->MH->Prop,∀j Y l,J j Y l↔SameM M l/\(∃m,StA.New {w with ws:=m} M/\(∀a∈m,M a=we)/\StdAt W (Xv W S j).1 l {w with ws:=m})/\l D=wc (.lst ((Xv W S j).2.map MV.str))/\∃v4 v5,Y=[wc W.mv,wc A.mv,wc w.mv,wc (.ref D),v4,v5]:=⟨_,λ_ _ _=>XX⟩;erw[⟨J,(U _ _ _).mpr ⟨s2,⟨w.ws,N1,w1,h2⟩,hd2,_,_,rfl⟩,λj Y l h=>trivial,?_,?_⟩]
 .rintro j u Y l hu h;have⟨s,⟨m,N,n,Z⟩,hd,v4,v5,rfl⟩:=(U _ _ _).mp h;have⟨i,rfl⟩:=Yj (show(W.isl.map Isl.mv)[j]?=wc u from hu);have B:=X6 i;have⟨k1,k2,k3,k4⟩:=Vv G L j;have C:=b.keep s;have x:Xv W S (j+1)=YW W S j (Xv W S j):=rfl;have d:∀y v,YM W S j W.isl[j]=we->y=l->J (j+1) [wc W.mv,wc A.mv,wc w.mv,wc (.ref D),wc W.isl[j].mv,v] y:=by
   rintro y v e rfl;have F:YW W S j (Xv W S j)=Xv W S j:=by unfold YW;rw[B];dsimp only;rw[e]
   erw[(U _ _ _).mpr ⟨s,⟨m,N,n,?_⟩,?_,_,_,rfl⟩]
   .rw[x,F];erw[Z]
   .rw[x,F];erw[hd]
  delta Ni
  simp![Isl.mv]
  erw[ex6 W S A c j (W.isl[j]) ⟨rfl,G,L,C,B,?_⟩];delta Nh;cases O:(W.isl[j]).stps[S.num.getD j 0]? with
  |none=>
   have e:dueM (W.isl[j]).stps (rhoK (S.wd.getD j [])) W.w (S.num.getD j 0)=.non:=by unfold dueM;rw[O]
   rw[e];simp!;erw[d l _ (by unfold YM;rw[O]) rfl]
  |some st=>
   rw[QT O];have si:=_t G B O;have hnn:ZJ (askM st (rhoK (S.wd.getD j [])) W.w)=wg:=by cases st<;>rfl
   simp![hnn]
   erw[ex8 W S A c st (rhoK (S.wd.getD j [])) ((W.isl[j]).vars) _ ⟨rfl,G,L,C,si,?_⟩];show if canM W S st=wf then _ else _;cases f:canM W S st with
   |false=>
    rw[if_neg (by simp)]
    erw[d l _ (by unfold YM;rw[O];dsimp only;rw[f];rfl) rfl]
   |true=>
    have hg:YM W S j W.isl[j]=wc st:=by unfold YM;rw[O];dsimp only;rw[f];rfl
    rw[if_pos rfl];delta Ng;simp!;have hown:StA.own {w with ws:=m}=w.own:=rfl;have sM:SameM M (AC w.own l):=λa o e=>by
     rw[FD λz=>neM e (N1.fr a z) rfl];erw[s _ _ e]
    erw[ex11 W S ((Xv W S j).1) A ({w with ws:=m}) (AC w.own l) c (c+j) j (W.isl[j]) st ⟨rfl,G,L,k1,by lia,b.keep sM,_iE _ _,Z,⟨N.nd,λa ha=>R9 ha,N.ws⟩,B,hg,λy ws' I X H h''=>?_⟩]
    delta Nf;have r:y D=wc (.lst ((Xv W S j).2.map MV.str)):=I _ _ (by rw[FD P];erw[hd])
    simp![r,X5]
    erw[⟨⟨_,rfl⟩,by lia,?_⟩]
    have F:YW W S j (Xv W S j)=(Zs W S j st (Xv W S j).1,(Xv W S j).2++[(W.isl[j]).name]):=by unfold YW;rw[B];dsimp only;rw[hg]
    erw[(U _ _ _).mpr ⟨(sM.trans I).upd R _,⟨ws',⟨X.nd,N.fr,X.ws⟩,λa ha=>(H a ha).elim (n a) s.free,?_⟩,?_,_,_,rfl⟩]
    .rw[x,F];erw[h''.off r (λz=>P (FC z)) _]
    .rw[x,F,X9,XI];rfl
 .rintro Y l h;have⟨s,⟨m,N,n,Z⟩,hd,v4,v5,rfl⟩:=(U _ _ _).mp h;delta Nd;simp!;have el:(Src.tup (W.isl.map Isl.mv)).len=W.isl.length:=X5 _;rw[el]at Z hd;erw[q l {w with ws:=m} D s Z N n R hd]
def Xh(W:Wld):Nat->Std
 |0=>UZ W
 |k+1=>QL W (Xh W k)
theorem Wm{W:Wld}(G:W.Good):∀k:Nat,SOk W (5*k) (Xh W k)
 |0=>_h3 G
 |k+1=>by
  have:=(Vv G (Wm G k) W.isl.length).1;have j:=G.i5;erw[this.up (by lia)]
structure Boat where
 b:Addr
 p:Addr
 g:Addr
 u:Addr
 gl:Addr
 tl:Addr
 A:Ab
noncomputable def Boat.ads(x:Boat):List Addr:=[x.b,x.p,x.g,x.u,x.gl,x.tl]
structure BoatAt (M:MH)(f:Fer)(w:Nat)(m:Int)(x:Boat):Prop where
 fy:FyAt M x.b x.p x.g x.u x.A
 gv:M x.gl=wc (.lst (x.A.ws.map natM))
 tk:M x.tl=wc (.lst ((x.A.ws.take x.A.tn).map natM))
 n1:x.gl≠x.tl/\x.gl≠x.p/\x.tl≠x.p
 k:x.A.k=f.k
 gm:x.A.gm<m
 tm:x.A.tm<m
 wd:∀z∈x.A.ws,z<2^w
def BoatAt.at_{M:MH}{f:Fer}{w:Nat}{m:Int}{x:Boat}(h:BoatAt M f w m x):∀a∈x.ads,∃o,M a=wc o/\(∀j,o≠.dic j)/\∀fs,o≠.ins "Run" fs:=by
 have y:¬(("Ferry":Str)="Run"):=by rw[_p];decide
 have l:¬(("Side":Str)="Run"):=by rw[_p];decide
 have⟨d,g,_⟩:=h.fy.pls;intro a u;simp only[Boat.ads,Xk,XN,or_false]at u;rcases u with rfl|rfl|rfl|rfl|rfl|rfl
 .erw[⟨_,h.fy.fe,(λ_ z=>by cases z),(λfs z=>y (by injection z))⟩]
 .erw[⟨_,g,(λ_ z=>by cases z),(λfs z=>by cases z)⟩]
 .erw[⟨_,h.fy.gi,(λ_ z=>by cases z),(λfs z=>l (by injection z))⟩]
 .erw[⟨_,h.fy.ta,(λ_ z=>by cases z),(λfs z=>l (by injection z))⟩]
 .erw[⟨_,h.gv,(λ_ z=>by cases z),(λfs z=>by cases z)⟩]
 .erw[⟨_,h.tk,(λ_ z=>by cases z),(λfs z=>by cases z)⟩]
theorem BoatAt.dic{M:MH}{f:Fer}{w:Nat}{m:Int}{x:Boat}(h:BoatAt M f w m x){a:Addr}{j:List (Key×MV)}(l:M a=wc (.dic j)):a∉x.ads:=λz=>by
 have⟨o,e,n,_⟩:=h.at_ a z;rw[l]at e;cases e;erw[n _ rfl]
def BoatAt.run{M:MH}{f:Fer}{w:Nat}{m:Int}{x:Boat}(h:BoatAt M f w m x){a:Addr}{fs:List (Str×MV)}(j:M a=wc (.ins "Run" fs)):a∉x.ads:=fun z=>by
 have⟨o,e,_,n⟩:=h.at_ a z;rw[j]at e;cases e;erw[n _ rfl]
def BoatAt.fr{M j:MH}{f:Fer}{w:Nat}{m y:Int}{x:Boat}(h:BoatAt M f w m x)(l:m<=y)(s:∀a∈x.ads,∀o,M a=wc o->j a=wc o):BoatAt j f w y x:=by
 have s:∀a,a∈ [x.b,x.p,x.g,x.u,x.gl,x.tl]->∀o,M a=wc o->j a=wc o:=s;have⟨z,g,u⟩:=h.fy.pls;erw[⟨⟨h.fy.ok,s _ (by simp) _ h.fy.fe,⟨z,s _ (by simp) _ g,u⟩,s _ (by simp) _ h.fy.gi,s _ (by simp) _ h.fy.ta,h.fy.ne⟩,s _ (by simp) _ h.gv,s _ (by simp) _ h.tk,h.n1,h.k,VJ h.gm l,VJ h.tm l,h.wd⟩]
structure RunS where
 m:Int
 nums:List Nat
 ws:List Addr
 dn:List Nat
 bs:List Boat
 pn:Addr
 pw:Addr
 ps:Addr
 pb:Addr
 pg:Addr
 pt:Addr
noncomputable def runO(W:Wld)(R:RunS):MO:=.ins "Run" [("world",W.mv),("moment",.int R.m),("next_numbers",.ref R.pn),("words_now",.ref R.pw),("steps_so_far",.ref R.ps),("boats",.ref R.pb),("given_so_far",.ref R.pg),("taken_so_far",.ref R.pt)]
structure RunAt (M:MH)(W:Wld)(r:Addr)(R:RunS)(mm:Nat->Int):Prop where
 ob:M r=wc (runO W R)
 hn:M R.pn=wc (.dic (zipK W.ins (R.nums.map natM)))
 hw:M R.pw=wc (.dic (zipK W.ins (R.ws.map MV.ref)))
 hs:M R.ps=wc (.dic (zipK W.ins (R.dn.map natM)))
 hb:M R.pb=wc (.dic (zipK W.fns (R.bs.map λx=>MV.ref x.b)))
 hg:M R.pg=wc (.dic (zipK W.fns (R.bs.map λx=>MV.ref x.gl)))
 ht:M R.pt=wc (.dic (zipK W.fns (R.bs.map λx=>MV.ref x.tl)))
 nl:R.nums.length=W.isl.length
 wl:R.ws.length=W.isl.length
 sl:R.dn.length=W.isl.length
 bl:R.bs.length=W.fer.length
 nb:∀(i:Nat)I n,W.isl[i]?=wc I->R.nums[i]?=wc n->n<=I.stps.length
 wa:∀(i:Nat)I a,W.isl[i]?=wc I->R.ws[i]?=wc a->∃kvs,M a=wc (.dic kvs)/\WdOk W.w I kvs
 ba:∀(j:Nat)f x,W.fer[j]?=wc f->R.bs[j]?=wc x->BoatAt M f W.w (mm j) x
 sep:∀(i j:Nat)x y,i≠j->R.bs[i]?=wc x->R.bs[j]?=wc y->∀a∈x.ads,a∉y.ads
 nd:(R.pn::R.pw::R.ps::R.pb::R.pg::R.pt::R.ws).Nodup
def RunS.own(R:RunS)(r:Addr):List Addr:=r::R.pn::R.pw::R.ps::R.bs.flatMap Boat.ads
structure Kept (M M':MH)(r:Addr)(R R':RunS):Prop where
 fr:FrM M M' (R.own r)
 nw:∀a∈R'.own r,a∈R.own r\/M a=we
def Kept.trans{M M1 M2:MH}{r:Addr}{R l R2:RunS}(h:Kept M M1 r R l)(g:Kept M1 M2 r l R2):Kept M M2 r R R2:=by
 erw[⟨λa o j u=>g.fr a o (h.fr a o j u) λz=>?_,λa j=>?_⟩]
 .rcases h.nw a z with z|z
  .erw[u z]
  .rw[j]at z;cases z
 .rcases g.nw a j with z|z
  .erw[h.nw a z]
  .by_cases c:a∈R.own r
   .erw[.inl c]
   .cases e:M a with
    |none=>erw[.inr rfl]
    |some o=>rw[h.fr a o e c]at z;cases z
def Kept.new{M M':MH}{r:Addr}{R:RunS}(s:SameM M M'):Kept M M' r R R:=⟨λa o h _=>s a o h,λ_ h=>.inl h⟩
def RunAt.keep{M M':MH}{W:Wld}{r:Addr}{R:RunS}{l:Nat->Int}(h:RunAt M W r R l)(s:SameM M M'):RunAt M' W r R l:=
 ⟨s _ _ h.ob,s _ _ h.hn,s _ _ h.hw,s _ _ h.hs,s _ _ h.hb,s _ _ h.hg,s _ _ h.ht,h.nl,h.wl,h.sl,h.bl,h.nb,λi I a u w=>by have⟨k,e,o⟩:=h.wa i I a u w;erw[⟨k,s _ _ e,o⟩],λj f x y z=>(h.ba j f x y z).fr (Ug _) λa _ o e=>s a o e,h.sep,h.nd⟩
set_option tactic.hygienic true in
def FE{u z:Type}{f:u->z}{w:List u}{j:Nat}{x y:u}(m:w[j]?=wc x)(e:f y=f x):(w.set j y).map f=w.map f:=by
 rw[UH,e];apply Ww;intro i;rw[V9];split
 .rename_i h;subst h;split
  .rw[Xe,m];rfl
  .rename_i l;rw[Zj (by lia)]
 .rfl
def RunAt.boat{M w:MH}{W:Wld}{r:Addr}{R:RunS}{Z q:Nat->Int}(h:RunAt M W r R Z){j:Nat}{f:Fer}{x y:Boat}(A:W.fer[j]?=wc f)(m:R.bs[j]?=wc x)(fr:FrM M w x.ads)(F:BoatAt w f W.w (q j) y)(G:y.b=x.b)(J:y.gl=x.gl)(Q:y.tl=x.tl)(ad:∀a∈y.ads,a∈x.ads\/M a=we)(S:∀i,i≠j->Z i<=q i):
  RunAt w W r {R with bs:=R.bs.set j y} q/\Kept M w r R {R with bs:=R.bs.set j y}:=by
 have B:=h.ba j f x A m;have dic:∀a p,M a=wc (.dic p)->w a=wc (.dic p):=λa p e=>fr a _ e (B.dic e);have X:(R.bs.set j y).map (λx=>MV.ref x.b)=R.bs.map λx=>MV.ref x.b:=FE m (by rw[G])
 have H:(R.bs.set j y).map (λx=>MV.ref x.gl)=R.bs.map λx=>MV.ref x.gl:=FE m (by rw[J])
 have v:(R.bs.set j y).map (λx=>MV.ref x.tl)=R.bs.map λx=>MV.ref x.tl:=FE m (by rw[Q])
 have off:∀(i:Nat)z,i≠j->R.bs[i]?=wc z->∀a∈z.ads,a∉y.ads:=λi z L u a l P=>by
  rcases ad a P with c|c
  .erw[h.sep i j z x L u m a l c]
  .have T:i<W.fer.length:=by rw[<-h.bl];erw[(Xo.mp u).1]
   have⟨o,e,_⟩:=(h.ba i _ z (X6 T) u).at_ a l;rw[e]at c;cases c
 erw[⟨⟨fr _ _ h.ob (B.run h.ob),dic _ _ h.hn,dic _ _ h.hw,dic _ _ h.hs,?_,?_,?_,h.nl,h.wl,h.sl,by show(R.bs.set j y).length=_;rw[ZT];erw[h.bl],h.nb,λi I a s l=>by have⟨k,e,o⟩:=h.wa i I a s l;erw[⟨k,dic _ _ e,o⟩],λi g z U u=>?_,λi C z D L u Y=>?_,h.nd⟩,⟨λa o l n=>fr a o l λc=>n ?_,λa l=>?_⟩⟩]
 .show w R.pb=wc (.dic (zipK W.fns ((R.bs.set j y).map λx=>MV.ref x.b)));rw[X];erw[dic _ _ h.hb]
 .show w R.pg=wc (.dic (zipK W.fns ((R.bs.set j y).map λx=>MV.ref x.gl)));rw[H];erw[dic _ _ h.hg]
 .show w R.pt=wc (.dic (zipK W.fns ((R.bs.set j y).map λx=>MV.ref x.tl)));rw[v];erw[dic _ _ h.ht]
 .rcases Yd u with⟨rfl,rfl⟩|⟨L,u⟩
  .rw[A]at U;cases U;erw[F]
  .erw[(h.ba i g z U u).fr (S i L) λa l o e=>fr a o e λc=>h.sep i j z x L u m a l c]
 .rcases Yd u with⟨b,N⟩|⟨n1,N⟩<;>rcases Yd Y with⟨e2,O⟩|⟨n2,O⟩
  .erw[absurd (b.trans e2.symm) L]
  .subst N;erw[λa l hb=>off C D n2 O a hb l]
  .subst O;erw[off i z n1 N]
  .erw[h.sep i C z D L N O]
 .erw[XJ _ (XJ _ (XJ _ (XJ _ (Vb.mpr ⟨x,Xb m,c⟩))))]
 .simp only[RunS.own,Xk,Vb]at l ⊢;rcases l with c|c|c|c|⟨z,u,c⟩
  .erw[.inl (.inl c)]
  .erw[.inl (.inr (.inl c))]
  .erw[.inl (.inr (.inr (.inl c)))]
  .erw[.inl (.inr (.inr (.inr (.inl c))))]
  .have⟨i,T,rfl⟩:=Yq u;rcases Yd (X6 T)with⟨_,e⟩|⟨_,e⟩
   .rw[e]at c;erw[(ad a c).imp (λd=>.inr (.inr (.inr (.inr ⟨x,Xb m,d⟩)))) id]
   .erw[.inl (.inr (.inr (.inr (.inr ⟨_,Xb e,c⟩))))]
noncomputable def askO(o:Option Stp)(j:Str->Int)(w:Nat):MV:=match o with
 |we=>.non
 |wc (.take f _)=>.tup [.str "take",.str f]
 |wc (.give f T)=>.tup [.str "give",.str f,.int (T.val j w)]
 |wc _=>.tup [.str "own"]
def _pT(j:List Stp)(l:Str->Int)(w i:Nat):dueM j l w i=askO j[i]? l w:=rfl
noncomputable def YX(o:Option Stp):MV:=match o with
 |we=>.tup [.str "done"]
 |wc (.take f _)=>.tup [.str "wait",.str f]
 |wc (.give f _)=>.tup [.str "wait",.str f]
 |wc _=>.tup [.str "own"]
noncomputable def Xs(o:Option Stp)(z:Str):Bool:=match o with
 |wc (.take f _)=>decide (f=z)
 |wc (.give f _)=>decide (f=z)
 |_=>wg
abbrev Vw:SpM:=λj M Q=>∃(o:Option Stp) (l:Str->Int) (w:Nat),j=[askO o l w]/\Q (YX o) M
def _7o:MonW Vw:=by walk_at "m"
def _cd(T:Txt E):FO E 1 "what_alone" Vw:=by
 erw[T.bO.ok T.g _7o 1 ["asked"] (fC T f0) Mc (fun l M Q h=>?_)];have⟨o,j,k,rfl,q⟩:=h;erw[⟨rfl,?_⟩];show wSs _ _ _ [wc (askO o j k)] M;delta Mc;rcases o with _|s
 .simp only[askO];simp!;delta Mb;simp!;erw[q]
 .cases s<;>simp only[askO]<;>simp!<;>rw[Ma]<;>simp!<;>first|(rw[M6];simp!;erw[q])|(rw[LZ];simp!;erw[q])
abbrev AE:SpM:=λj M Q=>∃(o:Option Stp) (l:Str->Int) (w:Nat) (z:Str),j=[askO o l w,.str z]/\Q (.bl (Xs o z)) M
def _7r:MonW AE:=by walk_at "m"
def _ce(T:Txt E):FO E 1 "is_wish_of" AE:=by
 erw[T.bY.ok T.g _7r 2 ["asked","ferry_name"] (fC T f0) Md (fun l M Q h=>?_)];have⟨o,j,k,z,rfl,q⟩:=h;erw[⟨rfl,?_⟩];show wSs _ _ _ [wc (askO o j k),wc (.str z)] M;delta Md;rcases o with _|s
 .simp only[askO];simp!;erw[q]
 .cases s<;>simp only[askO]<;>simp!<;>erw[q]
abbrev Rb:SpM:=λl M Q=>∃(z:Str) (e:Addr) (j:List (Key×MV)),l=[.str z,.ref e]/\M e=wc (.dic j)/\(valM j (Xn z)).isSome=wf/\Q .non M
def _40:MonW Rb:=by walk_at "m"
def _6t(T:Txt E):FO E 1 "refuse_unknown" Rb:=by
 erw[T.aq.ok T.g _40 2 ["name","known"] (fC T f0) Cg (fun w M Q h=>?_)];have⟨z,a,j,rfl,l,u,q⟩:=h;erw[⟨rfl,?_⟩];show wSs _ _ _ [wc (.str z),wc (.ref a)] M;delta Cg;simp!;erw[.inr ⟨_,_,l,rfl,?_⟩];rw[u];simp!;erw[q]
section
variable{M:MH}{W:Wld}{r:Addr}{R:RunS}{mm:Nat->Int}
def RunAt.gvl(h:RunAt M W r R mm)(G:W.Good){j:Nat}{f:Fer}{x:Boat}(l:W.fer[j]?=wc f)(u:R.bs[j]?=wc x):valM (zipK W.fns (R.bs.map λx=>MV.ref x.gl)) (Xn f.name)=wc (.ref x.gl):=YK G.fn_nd (U5 l) (by rw[Xe,u];rfl)
def RunAt.tkl(h:RunAt M W r R mm)(G:W.Good){j:Nat}{f:Fer}{x:Boat}(l:W.fer[j]?=wc f)(u:R.bs[j]?=wc x):valM (zipK W.fns (R.bs.map λx=>MV.ref x.tl)) (Xn f.name)=wc (.ref x.tl):=YK G.fn_nd (U5 l) (by rw[Xe,u];rfl)
def RunAt.btl(h:RunAt M W r R mm)(G:W.Good){j:Nat}{f:Fer}{x:Boat}(l:W.fer[j]?=wc f)(u:R.bs[j]?=wc x):valM (zipK W.fns (R.bs.map λx=>MV.ref x.b)) (Xn f.name)=wc (.ref x.b):=YK G.fn_nd (U5 l) (by rw[Xe,u];rfl)
def RunAt.nml(h:RunAt M W r R mm)(G:W.Good){i n:Nat}{I:Isl}(j:W.isl[i]?=wc I)(l:R.nums[i]?=wc n):valM (zipK W.ins (R.nums.map natM)) (Xn I.name)=wc (.int n):=YK G.in_nd (Y4 j) (by rw[Xe,l];rfl)
def RunAt.wdl(h:RunAt M W r R mm)(G:W.Good){i:Nat}{a:Addr}{I:Isl}(j:W.isl[i]?=wc I)(l:R.ws[i]?=wc a):valM (zipK W.ins (R.ws.map MV.ref)) (Xn I.name)=wc (.ref a):=YK G.in_nd (Y4 j) (by rw[Xe,l];rfl)
def RunAt.dnl(h:RunAt M W r R mm)(G:W.Good){i n:Nat}{I:Isl}(j:W.isl[i]?=wc I)(l:R.dn[i]?=wc n):valM (zipK W.ins (R.dn.map natM)) (Xn I.name)=wc (.int n):=YK G.in_nd (Y4 j) (by rw[Xe,l];rfl)
set_option tactic.hygienic true in
def RunAt.went(h:RunAt M W r R mm){M':MH}{i n d:Nat}{I:Isl}{p:Addr}{g:List (Key×MV)}(C:W.isl[i]?=wc I)(c:n<=I.stps.length)(D:M p=we)(fr:∀a o,M a=wc o->a≠R.pn->a≠R.pw->a≠R.ps->M' a=wc o)(hk:M' p=wc (.dic g))(wk:WdOk W.w I g)
  (h1:M' R.pn=wc (.dic (zipK W.ins ((R.nums.set i n).map natM))))(h2:M' R.pw=wc (.dic (zipK W.ins ((R.ws.set i p).map MV.ref))))(h3:M' R.ps=wc (.dic (zipK W.ins ((R.dn.set i d).map natM)))):
  RunAt M' W r {R with nums:=R.nums.set i n,ws:=R.ws.set i p,dn:=R.dn.set i d} mm/\Kept M M' r R {R with nums:=R.nums.set i n,ws:=R.ws.set i p,dn:=R.dn.set i d}:=by
 have F:=h.nd;simp only[Yf,Xk,not_or]at F;have⟨⟨a1,a2,G,Q,S,X⟩,⟨b2,H,v,s,b6⟩,⟨c3,c4,c5,c6⟩,⟨d4,d5,d6⟩,⟨e5,e6⟩,f6,P⟩:=F;have T:∀a w,M a=wc (.dic w)->a≠r:=λa w e z=>by subst z;rw[h.ob]at e;cases e
 have U:∀(k:Nat)a,R.ws[k]?=wc a->a≠R.pn/\a≠R.pw/\a≠R.ps:=λk a u=>⟨λz=>X (z▸Xb u),λz=>b6 (z▸Xb u),λz=>c6 (z▸Xb u)⟩;have Y:∀a o,M a=wc o->a≠p:=λa o e=>neM e D;erw[⟨⟨fr _ _ h.ob (T _ _ h.hn).symm (T _ _ h.hw).symm (T _ _ h.hs).symm,h1,h2,h3,fr _ _ h.hb (XW G) (XW H) (XW c3),fr _ _ h.hg (XW Q) (XW v) (XW c4),fr _ _ h.ht (XW S) (XW s) (XW c5),by show(R.nums.set i n).length=_;rw[ZT];erw[h.nl],by show(R.ws.set i p).length=_;rw[ZT];erw[h.wl],by show(R.dn.set i d).length=_;rw[ZT];erw[h.sl],h.bl,λk J m q Z=>?_,λk J a q u=>?_,λj f x hf A=>?_,h.sep,?_⟩,⟨λa o u c=>fr a o u ?_ ?_ ?_,λa u=>.inl u⟩⟩]
 .rcases Yd Z with⟨rfl,rfl⟩|⟨_,Z⟩
  .rw[C]at q;cases q;erw[c]
  .erw[h.nb k J m q Z]
 .rcases Yd u with⟨rfl,rfl⟩|⟨_,u⟩
  .rw[C]at q;cases q;erw[⟨g,hk,wk⟩]
  .have⟨w,e,o⟩:=h.wa k J a q u;have⟨n1,n2,n3⟩:=U k a u;erw[⟨w,fr _ _ e n1 n2 n3,o⟩]
 .have A:R.bs[j]?=wc x:=A;have b:=h.ba j f x hf A;erw[b.fr (Ug _) λa u o e=>fr a o e (λz=>b.dic (z▸h.hn) u) (λz=>b.dic (z▸h.hw) u) (λz=>b.dic (z▸h.hs) u)]
 .have N:∀a w,M a=wc (.dic w)->a≠p:=λa w e=>Y a _ e;have ms:∀a,a∈R.ws.set i p->a∈R.ws\/a=p:=λa u=>AW u;have O:p∉R.ws:=λz=>by
   have⟨k,y,e⟩:=Yq z;have hi:k<W.isl.length:=by rw[<-h.wl];erw[y]
   have⟨w,e2,_⟩:=h.wa k _ _ (X6 hi) (X6 y);rw[e,D]at e2;cases e2
  have B:(R.ws.set i p).Nodup:=by
   erw[List.pairwise_iff_getElem.mpr λk l y hl kl e=>?_];rw[ZT]at y hl;rw[D9,D9]at e;split at e<;>split at e
   .rename_i z1 z2;lia
   .erw[O (e▸XS hl)]
   .erw[O (e.symm▸XS y)]
   .have:=(B6 P).mp e;lia
  have L:∀a w,M a=wc (.dic w)->a∉R.ws->a∉R.ws.set i p:=λa w e c z=>(ms a z).elim c (N a w e);show(R.pn::R.pw::R.ps::R.pb::R.pg::R.pt::R.ws.set i p).Nodup;simp only[Yf,Xk,not_or];erw[⟨⟨a1,a2,G,Q,S,L _ _ h.hn X⟩,⟨b2,H,v,s,L _ _ h.hw b6⟩,⟨c3,c4,c5,L _ _ h.hs c6⟩,⟨d4,d5,L _ _ h.hb d6⟩,⟨e5,L _ _ h.hg e6⟩,L _ _ h.ht f6,B⟩]
 .erw[λz=>c (by simp[RunS.own,z])]
 .erw[λz=>c (by simp[RunS.own,z])]
 .erw[λz=>c (by simp[RunS.own,z])]
end
abbrev Rc:SpM:=λl M Q=>∃(e:Addr) (j:List (Key×MV)) (z:Str) (v:MV),l=[.ref e,.str z]/\M e=wc (.dic j)/\valM j (Xn z)=wc v/\Q v M
def _8W:MonW Rc:=by walk_at "m"
def CK(T:Txt E):FO E 2 "looked_up" Rc:=by
 erw[T.aS.ok T.g _8W 2 ["named","name"] (fC T (fc (_6t T) f0)) Mf (fun w M Q h=>?_)];have⟨e,j,z,v,rfl,l,u,q⟩:=h;erw[⟨rfl,?_⟩];show wSs _ _ _ [wc (.ref e),wc (.str z)] M;delta Mf;simp!;erw[ex3 z e j ⟨rfl,l,by rw[u];rfl,?_⟩]
 delta Me
 simp![l,u]
 erw[q]
abbrev CL:SpM:=λl M Q=>∃(r:Addr) (W:Wld) (R:RunS) (u:Nat->Int) (j:Nat) (f:Fer) (x:Boat),l=[.ref r,.str f.name]/\W.Good/\RunAt M W r R u/\W.fer[j]?=wc f/\R.bs[j]?=wc x/\∀p,M p=we->Q (.ref p) (updM M p (.lst (x.A.ws.map natM)))
def _93:MonW CL:=by walk_at "m"
def _dj(T:Txt E):FM E 3 "Run" "given" CL:=by
 erw[T.bS.ok T.aa T.ab 2 ["self","name"] (fC T (fc (CK T) f0)) MS (fun z M Q h=>?_)];have⟨r,W,R,m,j,f,x,rfl,G,h,l,u,q⟩:=h;erw[⟨rfl,?_⟩];show wSs _ _ _ [wc (.ref r),wc (.str f.name)] M;have w:=h.ob;have y:=(h.ba j f x l u).gv;delta MS
 simp![w,runO,valM]
 erw[ex4 _ _ _ _ ⟨rfl,h.hg,h.gvl G l u,?_⟩]
 simp![y]
 erw[q]
abbrev CM:SpM:=λl M Q=>∃(r:Addr) (W:Wld) (R:RunS) (u:Nat->Int) (j:Nat) (f:Fer) (x:Boat),l=[.ref r,.str f.name]/\W.Good/\RunAt M W r R u/\W.fer[j]?=wc f/\R.bs[j]?=wc x/\∀p,M p=we->Q (.ref p) (updM M p (.lst ((x.A.ws.take x.A.tn).map natM)))
def _91:MonW CM:=by walk_at "m"
def _dh(T:Txt E):FM E 3 "Run" "taken" CM:=by
 erw[T.bz.ok T.aa T.ab 2 ["self","name"] (fC T (fc (CK T) f0)) MU (fun z M Q h=>?_)];have⟨r,W,R,m,j,f,x,rfl,G,h,l,u,q⟩:=h;erw[⟨rfl,?_⟩];show wSs _ _ _ [wc (.ref r),wc (.str f.name)] M;have w:=h.ob;have y:=(h.ba j f x l u).tk;delta MU
 simp![w,runO,valM]
 erw[ex4 _ _ _ _ ⟨rfl,h.ht,h.tkl G l u,?_⟩]
 simp![y]
 erw[q]
def _hP{W:Wld}{I:Isl}{i:Nat}{s:Stp}(ok:IslOk W.w W.fns I)(u:I.stps[i]?=wc s)(w:Str->Int):∃n:Nat,XZ s w W.w i=(n:Int)/\n<=I.stps.length:=by
 have y:=(Xo.mp u).1;have st:=ok.st s (Xb u);have l:∃n:Nat,(i:Int)+1=(n:Int)/\n<=I.stps.length:=⟨i+1,by lia,y⟩
 cases s with
 |jump T j=>
  unfold XZ;by_cases c:T.val w W.w≠0
  .simp only[if_pos c];erw[⟨j.toNat,by have:=st.2.1;lia,by have:=st.2.1;have:=st.2.2;lia⟩]
  .simp only[if_neg c];erw[l]
 |take _ _=>erw[l]
 |give _ _=>erw[l]
 |put _ _=>erw[l]
def _jb{W:Wld}{I:Isl}{s:Stp}{j:List (Key×MV)}{u:MV}(w:1<=W.w)(ok:IslOk W.w W.fns I)(z:s∈I.stps)(l:WdOk W.w I j)(hw:∀f x,s=.take f x->∃v:Int,u=.int v/\0<=v/\v<2^W.w):WdOk W.w I (YD s j (rhoK j) W.w u):=by
 have st:=ok.st s z;cases s with
 |take f x=>
  have⟨v,rfl,m⟩:=hw f x rfl;erw[l.put ok.nd st.2 m]
 |put x T=>erw[l.put ok.nd st.1 (T.val_in w λy g=>(l.at ok.nd (st.2.2.2 y g)).2)]
 |give _ _=>erw[l]
 |jump _ _=>erw[l]
noncomputable def goR(R:RunS)(i n p d:Nat):RunS:={R with nums:=R.nums.set i n,ws:=R.ws.set i p,dn:=R.dn.set i (d+1)}
abbrev Ux:SpM:=λz M Q=>∃(r:Addr) (W:Wld) (R:RunS) (y:Nat->Int) (i n:Nat) (I:Isl) (s:Stp) (u:MV) (a:Addr) (j:List (Key×MV)),z=[.ref r,.str I.name,.tup (I.stps.map Stp.mv),u]/\W.Good/\RunAt M W r R y/\W.isl[i]?=wc I/\R.nums[i]?=wc n/\I.stps[n]?=wc s/\(∀f x,s=.take f x->∃v:Int,u=.int v/\0<=v/\v<2^W.w)/\R.ws[i]?=wc a/\M a=wc (.dic j)/\
 ∀w p d l,R.dn[i]?=wc d->XZ s (rhoK j) W.w n=((w:Nat):Int)->M p=we->l p=wc (.dic (YD s j (rhoK j) W.w u))->RunAt l W r (goR R i w p d) y->Kept M l r R (goR R i w p d)->Q .non l
def _92:MonW Ux:=by walk_at "m"
def _di(T:Txt E):FM E 52 "Run" "go_on" Ux:=by
 erw[T.cf.ok T.aa T.ab 4 ["self","name","steps","word","went"] (fC T (fc (Px T) f0)) MP (fun D M Q h=>?_)];have⟨r,W,R,mm,i,n,I,s,F,a,j,rfl,G,h,l,hn,J,hw,ha,hk,q⟩:=h;erw[⟨rfl,?_⟩];show wSs _ _ _ [wc (.ref r),wc (.str I.name),wc (.tup (I.stps.map Stp.mv)),wc F,we] M;have hi:i<W.isl.length:=(Xo.mp l).1;have i5:=G.i5;have ok:=G.io I (Xb l);obtain⟨d,hd⟩:∃d,R.dn[i]?=wc d:=⟨_,X6 (by rw[h.sl];erw[hi])⟩
 have⟨S,c,X⟩:=h.wa i I a l ha;obtain rfl:j=S:=by rw[hk]at c;cases c;rfl
 have H:=h.ob;have u:=h.hn;have w:=h.hw;have m:=h.hs;have vn:=h.nml G l hn;have vw:=h.wdl G l ha;have vd:=h.dnl G l hd;have nd:=h.nd;simp only[Yf,Xk,not_or]at nd;have⟨⟨a1,a2,_⟩,⟨b2,_⟩,_⟩:=nd;have v:∀b kv,M b=wc (.dic kv)->r≠b:=λb kv e z=>by subst z;rw[H]at e;cases e
 have r1:=v _ _ u;have r2:=v _ _ w;have r3:=v _ _ m;have x:∀D:List MV,D.length=W.isl.length->(zipK W.ins D).length<16777216:=λD e=>by rw[U4 (by rw[ins_len];erw[e]),ins_len];lia
 delta MP
 simp![H,runO,valM,Wld.mv,u,w,vn,vw]
 erw[ex10 _ a I.stps n W.w j (rhoK j) I.vars s F ⟨rfl,.inl rfl,J,CB (ok.st s (Xb J)),G.w1,G.w2,hk,by rw[X.len];unfold Isl.vars;rw[X5];have:=ok.nv;lia,X.reads ok.nd,λp g=>?_⟩]
 have⟨y,f,hn2⟩:=_hP ok J (rhoK j);replace q:=λp d M' h=>q y p d M' h f;rw[f];have wk':=_jb (u:=F) G.w1 ok (Xb J) X hw;generalize YD s j (rhoK j) W.w F=kvs' at*;have L:=SameM.new g (.dic kvs');have hk1:updM M p (.dic kvs') p=wc (.dic kvs'):=X9;have pn:R.pn≠p:=neM u g;have pw:R.pw≠p:=neM w g;have ps:R.ps≠p:=neM m g;have N:=L _ _ H;have O:=L _ _ u;have P:=L _ _ w;have U:=L _ _ m;generalize updM M p _=M1 at*;delta MN
 simp![N,runO,valM,O]
 erw[⟨x _ (by rw[X5];erw[h.nl]),?_⟩]
 rw[UW (i:=i) (by rw[X5,ins_len];erw[h.nl]) G.in_nd (Y4 l)]
 have e1:(R.nums.map natM).set i (.int y)=(R.nums.set i y).map natM:=by rw[UH]
 rw[e1];have Y:updM M1 R.pn (.dic (zipK W.ins ((R.nums.set i y).map natM))) r=_:=(X7 r1).trans N;have Z:updM M1 R.pn (.dic (zipK W.ins ((R.nums.set i y).map natM))) R.pn=_:=X9;have hw2:updM M1 R.pn (.dic (zipK W.ins ((R.nums.set i y).map natM))) R.pw=_:=(X7 (XW a1)).trans P;have hs2:updM M1 R.pn (.dic (zipK W.ins ((R.nums.set i y).map natM))) R.ps=_:=(X7 (XW a2)).trans U;have hk2:updM M1 R.pn (.dic (zipK W.ins ((R.nums.set i y).map natM))) p=_:=(X7 (XW pn)).trans hk1;have f2:∀b o,M1 b=wc o->b≠R.pn->updM M1 R.pn (.dic (zipK W.ins ((R.nums.set i y).map natM))) b=wc o:=λb o e z=>(X7 z).trans e;generalize updM M1 R.pn _=M2 at*;delta MM
 simp![Y,runO,valM,hw2]
 erw[⟨x _ (by rw[X5];erw[h.wl]),?_⟩]
 rw[UW (i:=i) (by rw[X5,ins_len];erw[h.wl]) G.in_nd (Y4 l)]
 have e2:(R.ws.map MV.ref).set i (.ref p)=(R.ws.set i p).map MV.ref:=by rw[UH]
 rw[e2];have ob3:updM M2 R.pw (.dic (zipK W.ins ((R.ws.set i p).map MV.ref))) r=_:=(X7 r2).trans Y;have hn3:updM M2 R.pw (.dic (zipK W.ins ((R.ws.set i p).map MV.ref))) R.pn=_:=(X7 a1).trans Z;have hw3:updM M2 R.pw (.dic (zipK W.ins ((R.ws.set i p).map MV.ref))) R.pw=_:=X9;have hs3:updM M2 R.pw (.dic (zipK W.ins ((R.ws.set i p).map MV.ref))) R.ps=_:=(X7 (XW b2)).trans hs2;have C:updM M2 R.pw (.dic (zipK W.ins ((R.ws.set i p).map MV.ref))) p=_:=(X7 (XW pw)).trans hk2;have f3:∀b o,M2 b=wc o->b≠R.pw->updM M2 R.pw (.dic (zipK W.ins ((R.ws.set i p).map MV.ref))) b=wc o:=λb o e z=>(X7 z).trans e;generalize updM M2 R.pw _=M3 at*;delta ML
 simp![ob3,runO,valM,hs3,vd]
 erw[⟨x _ (by rw[X5];erw[h.sl]),?_⟩]
 rw[UW (i:=i) (by rw[X5,ins_len];erw[h.sl]) G.in_nd (Y4 l)]
 have e3:(R.dn.map natM).set i (.int ((d:Int)+1))=(R.dn.set i (d+1)).map natM:=by rw[UH];rfl
 rw[e3];have⟨A,B⟩:=h.went (M':=updM M3 R.ps (.dic (zipK W.ins ((R.dn.set i (d+1)).map natM)))) l hn2 g (λb o e z1 z2 z3=>(X7 z3).trans (f3 b o (f2 b o (L b o e) z1) z2)) ((X7 (XW ps)).trans C) wk' ((X7 a2).trans hn3) ((X7 b2).trans hw3) X9;erw[q p d _ hd g ((X7 (XW ps)).trans C) A B]
def Re(w:Nat)(f:Fer)(o:Option Stp)(j:Str->Int)(v:MV):Prop:=v=.non\/(∃T,o=wc (.give f.name T)/\v=askO o j w)\/∃(x:Str) (n:Nat),o=wc (.take f.name x)/\n<2^w/\v=.tup [.str "take",.str f.name,.int n]
noncomputable def U6(w:Nat)(f:Fer)(o:Option Stp)(j:Str->Int):Option Nat:=match o with
 |wc (.give g T)=>if g=f.name then wc (T.val j w).toNat else we
 |_=>we
def Zu(w:Nat)(f:Fer)(z:Str)(m:Int)(c:Nat)(o:Option Stp)(j:Str->Int)(A:Ab):Ab:=if f.giver=z then A.giver m c (U6 w f o j)else A.taker m c (Xs o f.name)
def smpA(f:Fer)(z:Str)(c:Nat)(A:Ab):Nat:=if f.giver=z then Xi A.k (A.gSamp c)else Xi A.k (A.tSamp c)
def hitA(w:Nat)(f:Fer)(z:Str)(o:Option Stp)(j:Str->Int)(A:Ab):Bool:=if f.giver=z then A.gives (U6 w f o j)else A.takes (Xs o f.name)
def Yw(w:Nat)(f:Fer)(z:Str)(o:Option Stp)(j:Str->Int)(A:Ab):MV:=if hitA w f z o j A=wf then(if f.giver=z then askO o j w else .tup [.str "take",.str f.name,.int (A.ws.getD A.tn 0:Nat)])else .non
abbrev V0:SpM:=λm M Q=>∃(r:Addr) (W:Wld) (R:RunS) (u:Nat->Int) (j:Nat) (f:Fer) (z:Str) (c:Nat) (o:Option Stp) (l:Str->Int) (x:Boat),m=[.ref r,f.mv,.str z,.int c,askO o l W.w]/\W.Good/\RunAt M W r R u/\u j<=R.m/\W.fer[j]?=wc f/\(z=f.giver\/z=f.taker)/\(∀s,o=wc s->U2 W.fer z s)/\(∀g T,o=wc (.give g T)->0<=T.val l W.w/\T.val l W.w<2^W.w)/\(∀y∈R.bs,y.A.ws.length<=1000)/\R.bs[j]?=wc x/\
 ∀y w,RunAt w W r {R with bs:=R.bs.set j y} (λi=>if i=j then R.m+1 else u i)->Kept M w r R {R with bs:=R.bs.set j y}->y.A=Zu W.w f z R.m c o l x.A->Re W.w f o l (Yw W.w f z o l x.A)->Q (.tup [Yw W.w f z o l x.A,.int (smpA f z c x.A:Nat)]) w
def _4c:MonW V0:=by walk_at "m"
def _mf{w:Nat}{v:Int}(j:0<=v)(l:v<2^w):∃n:Nat,v=(n:Int)/\n<2^w:=by
 erw[⟨v.toNat,(ZV j).symm,?_⟩];have e:((2:Int)^w)=((2^w:Nat):Int):=by rw[Vi];rfl
 lia
def _7m(T:Txt E):FM E 5 "Run" "ring_ferry" V0:=by
 erw[T.bq.ok T.aa T.ab 5 ["self","ferry","name","choice","asked","boat","wished","told"] (mC T [("is_wish_of",AE),("Ferry_ring_giver",Vt),("Ferry_ring_taker",Wk)] [("Ferry_ring_giver",Vt),("Ferry_ring_taker",Wk)] [(1,"Ferry","ring_giver"),(2,"Ferry","ring_taker")] [] (fc (_ce T) f0) (fMc _3D (fMc _3C nl0)) (fMc ⟨_,_,rfl,fM (_64 T)⟩ (fMc ⟨_,_,rfl,fM (_63 T)⟩ nl0)) nl0) MK (fun vs M Q h=>?_)];have⟨r,W,R,N,j,f,z,c,o,l,x,rfl,G,h,Z,Y,hz,hE,hT,hL,B,q⟩:=h;erw[⟨rfl,?_⟩];show wSs _ _ _ [wc (.ref r),wc f.mv,wc (.str z),wc (.int c),wc (askO o l W.w),we,we,we] M;have hj:j<W.fer.length:=(Xo.mp Y).1;have fm:f∈W.fer:=Xb Y;have fok:=G.fo f fm;have b:=h.ba j f x Y B;have xl:=hL x (Xb B);have ob:=h.ob;have hb:=h.hb;have hg:=h.hg;have ht:=h.ht;have vb:=h.btl G Y B;have vg:=h.gvl G Y B;have vt:=h.tkl G Y B;have fe:=b.fy.fe;have C:∀i,i≠j->N i<=(λi=>if i=j then R.m+1 else N i) i:=λi ne=>by simp[ne]
 have m1:(λi=>if i=j then R.m+1 else N i) j=R.m+1:=by simp
 have cA:∀m,FrM M m [x.b,x.g,x.u]->∀a kv,M a=wc (.dic kv)->m a=wc (.dic kv):=λm fr a kv e=>fr a _ e λc=>b.dic e (by
  simp only[Boat.ads,Xk,XN,or_false]at c ⊢;rcases c with c|c|c<;>simp[c])
 have cB:∀m,FrM M m [x.b,x.g,x.u]->m r=wc (runO W R):=λm fr=>fr _ _ ob λc=>b.run ob (by
  simp only[Boat.ads,Xk,XN,or_false]at c ⊢;rcases c with c|c|c<;>simp[c])
 have glo:x.gl∉ [x.b,x.g,x.u]:=Qv b.fy b.gv;have tlo:x.tl∉ [x.b,x.g,x.u]:=Qv b.fy b.tk;have D:∀m,FrM M m [x.b,x.g,x.u]->FrM M m x.ads:=λm fr a o e O=>fr a o e λc=>O (by
  simp only[Boat.ads,Xk,XN,or_false]at c ⊢;rcases c with c|c|c<;>simp[c])
 delta MK
 simp![ob,runO,valM,Fer.mv,hb,vb]
 delta MJ
 simp![Fer.mv]
 erw[ex4 o l W.w f.name ⟨rfl,?_⟩];delta MI
 simp![Fer.mv]
 erw[XY (λL=>?_) (λL=>?_)]
 . -- the giver's end
  have J:Xs o f.name=wf->∃T,o=wc (.give f.name T):=λe=>by
   rcases o with _|s
   .cases e
   .cases s with
    |take g y=>
     obtain rfl:g=f.name:=of_decide_eq_true e;erw[absurd (L.trans ((hE _ rfl) f fm rfl).symm) fok.ne]
    |give g T=>
     obtain rfl:g=f.name:=of_decide_eq_true e;erw[⟨T,rfl⟩]
    |put _ _=>cases e
    |jump _ _=>cases e
  have go:∀(w:Option Nat)(v:MV),v=wM w->U6 W.w f o l=w->(w=we\/∃T n,o=wc (.give f.name T)/\askO o l W.w=.tup [.str "give",.str f.name,.int ((n:Nat):Int)]/\w=wc n/\n<2^W.w)->
    Vt [.ref x.b,.int R.m,.int c,v] M (fun v1 M1=>wSs ([("is_wish_of",AE),("Ferry_ring_giver",Vt),("Ferry_ring_taker",Wk)]:List (Str×SpM)) Ew {nx:=fun σ M=>wSs ([("is_wish_of",AE),("Ferry_ring_giver",Vt),("Ferry_ring_taker",Wk)]:List (Str×SpM)) Ev {nx:=fun _ m=>Q .non m,rt:=Q} σ M,rt:=Q} [wc (.ref r),wc f.mv,wc (.str z),wc (.int c),wc (askO o l W.w),wc (.ref x.b),wc (.bl (Xs o f.name)),wc v1] M1):=by
   intro w v hv eN hxo;subst hv;have eR:x.A.giver R.m c w=Zu W.w f z R.m c o l x.A:=by rw[Zu,if_pos L,eN]
   have eS:smpA f z c x.A=Xi x.A.k (x.A.gSamp c):=if_pos L;have eH:hitA W.w f z o l x.A=x.A.gives w:=by rw[hitA,if_pos L,eN]
   erw[ex8 x.b x.p x.g x.u x.A R.m c w ⟨rfl,b.fy,VJ b.gm Z,VJ b.tm Z,λS M1 X fr fy=>?_⟩];have d:=fr _ _ b.gv glo;have p:=fr _ _ b.tk tlo;have n1:x.gl≠S:=neM b.gv X;have n2:x.tl≠S:=neM b.tk X;have ads:∀(A:Ab),∀a∈(⟨x.b,S,x.g,x.u,x.gl,x.tl,A⟩:Boat).ads,a∈x.ads\/M a=we:=λA a ha=>by
    simp only[Boat.ads,Xk,XN,or_false]at ha ⊢;rcases ha with e|e|e|e|e|e
    .erw[.inl (.inl e)]
    .erw[.inr (e▸X)]
    .erw[.inl (.inr (.inr (.inl e)))]
    .erw[.inl (.inr (.inr (.inr (.inl e))))]
    .erw[.inl (.inr (.inr (.inr (.inr (.inl e)))))]
    .erw[.inl (.inr (.inr (.inr (.inr (.inr e)))))]
   delta Ew;simp!;by_cases gvs:x.A.gives w=wf
   .have P:(x.A.giver R.m c w).ws=x.A.ws++[w.getD 0]:=if_pos gvs;rcases hxo with e|⟨T,n,F,ea,rfl,O⟩
    .subst e;cases gvs
    rw[gvs];have g1:=cA _ fr _ _ hg;have r1:=cB _ fr;simp!;delta ME
    simp![Fer.mv,r1,runO,valM,g1,vg,d,ea]
    erw[⟨⟨_,rfl⟩,by rw[X5];lia,?_⟩]
    have eM:x.A.ws.map natM++[MV.int (n:Int)]=(x.A.giver R.m c (wc n)).ws.map natM:=by rw[P,XI];rfl
    rw[eM];have H:=fy.put d n1 ((x.A.giver R.m c (wc n)).ws.map natM);have gl2:updM M1 x.gl (.lst ((x.A.giver R.m c (wc n)).ws.map natM)) x.gl=_:=X9;have tl2:updM M1 x.gl (.lst ((x.A.giver R.m c (wc n)).ws.map natM)) x.tl=_:=(X7 (XW b.n1.1)).trans p;have fr2:FrM M (updM M1 x.gl (.lst ((x.A.giver R.m c (wc n)).ws.map natM))) x.ads:=λa o e O=>(X7 (λz=>O (by simp[Boat.ads,z]))).trans (D _ fr a o e O)
    generalize updM M1 x.gl _=M2 at*;delta MD;simp!;have tn:(x.A.giver R.m c (wc n)).tn<=x.A.ws.length:=by
     have:=b.fy.ok.lg1;have:=(b.fy.ok.tb _ (_r (by rw[b.fy.ok.tl];erw[b.fy.ok.gl.1]))).2
     have:=(b.fy.ok.tb _ (_r (by rw[b.fy.ok.tl];erw[b.fy.ok.gl.1]))).1
     have:=b.fy.ok.lt1;show x.A.tn<=_;lia
    have hy:BoatAt M2 f W.w (R.m+1) ⟨x.b,S,x.g,x.u,x.gl,x.tl,x.A.giver R.m c (wc n)⟩:=⟨H,gl2,by
      show M2 x.tl=wc (.lst (((x.A.giver R.m c (wc n)).ws.take (x.A.giver R.m c (wc n)).tn).map natM));rw[tl2,P,FS tn];rfl,⟨b.n1.1,n1,n2⟩,b.k,by show R.m<R.m+1;lia,by show x.A.tm<R.m+1;have:=b.tm;lia,λu I=>by
      have I:u∈(x.A.giver R.m c (wc n)).ws:=I;rw[P]at I;rcases Ye.mp I with I|I
      .erw[b.wd u I]
      .obtain rfl:u=n:=by simpa using I
       erw[O]⟩
    have⟨A1,A2⟩:=h.boat (y:=⟨x.b,S,x.g,x.u,x.gl,x.tl,x.A.giver R.m c (wc n)⟩) (q:=λi=>if i=j then R.m+1 else N i) Y B fr2 (by show BoatAt _ _ _ (if j=j then R.m+1 else N j) _;rw[if_pos rfl];erw[hy]) rfl rfl rfl (ads _) C
    rw[<-ea];have U:Yw W.w f z o l x.A=askO o l W.w:=by rw[Yw,eH,if_pos gvs,if_pos L]
    have:=q _ M2 A1 A2 eR (U▸.inr (.inl ⟨T,F,rfl⟩));rw[U,eS]at this;erw[this]
   .have P:(x.A.giver R.m c w).ws=x.A.ws:=if_neg gvs;rw[Bool.not_eq_true]at gvs;rw[gvs];simp!;delta MF;simp!;have hy:BoatAt M1 f W.w (R.m+1) ⟨x.b,S,x.g,x.u,x.gl,x.tl,x.A.giver R.m c w⟩:=⟨fy,by
      show M1 x.gl=wc (.lst ((x.A.giver R.m c w).ws.map natM));rw[P];erw[d],by
      show M1 x.tl=wc (.lst (((x.A.giver R.m c w).ws.take (x.A.giver R.m c w).tn).map natM));rw[P];erw[p],⟨b.n1.1,n1,n2⟩,b.k,by show R.m<R.m+1;lia,by show x.A.tm<R.m+1;have:=b.tm;lia,by
      show∀u∈(x.A.giver R.m c w).ws,u<2^W.w;rw[P];erw[b.wd]⟩
    have⟨A1,A2⟩:=h.boat (y:=⟨x.b,S,x.g,x.u,x.gl,x.tl,x.A.giver R.m c w⟩) (q:=λi=>if i=j then R.m+1 else N i) Y B (D _ fr) (by show BoatAt _ _ _ (if j=j then R.m+1 else N j) _;rw[if_pos rfl];erw[hy]) rfl rfl rfl (ads _) C
    have U:Yw W.w f z o l x.A=.non:=by rw[Yw,eH,gvs];rfl
    have:=q _ M1 A1 A2 eR (U▸.inl rfl);rw[U,eS]at this;erw[this]
  delta MG
  simp![fe,Y0,valM,ob,runO]
  by_cases hw:Xs o f.name=wf
  .have⟨T,F⟩:=J hw;have⟨v0,v1⟩:=hT _ T F;have⟨n,en,O⟩:=_mf v0 v1;have ea:askO o l W.w=.tup [.str "give",.str f.name,.int (n:Int)]:=by rw[F];show MV.tup [.str "give",.str f.name,.int (T.val l W.w)]=_;rw[en]
   have:=go (wc n) _ rfl (by subst F;show(if f.name=f.name then wc (T.val l W.w).toNat else we)=wc n;rw[if_pos rfl,en];rfl) (.inr ⟨T,n,F,ea,rfl,O⟩)
   rw[if_pos hw]
   simp![ea]
   rw[<-ea];erw[this]
  .have gn:U6 W.w f o l=we:=by
    rcases o with _|s
    .rfl
    .cases s with
     |give g T=>erw[if_neg λe=>hw (decide_eq_true e)]
     |take _ _=>rfl
     |put _ _=>rfl
     |jump _ _=>rfl
   have:=go we _ rfl gn (.inl rfl);rw[if_neg hw]
   try walk_at "s"
   erw[this]
 . -- the taker's end
  have zt:f.taker=z:=(hz.resolve_left λe=>L e.symm).symm;have J:Xs o f.name=wf->∃y,o=wc (.take f.name y):=λe=>by
   rcases o with _|s
   .cases e
   .cases s with
    |take g y=>
     obtain rfl:g=f.name:=of_decide_eq_true e;erw[⟨y,rfl⟩]
    |give g T=>
     obtain rfl:g=f.name:=of_decide_eq_true e;erw[absurd ((hE _ rfl) f fm rfl) L]
    |put _ _=>cases e
    |jump _ _=>cases e
  delta Ev
  simp![fe,Y0,valM,ob,runO]
  erw[ex8 x.b x.p x.g x.u x.A R.m c (Xs o f.name) ⟨rfl,b.fy,VJ b.gm Z,VJ b.tm Z,λM1 fr fy=>?_⟩];have d:=fr _ _ b.gv glo;have p:=fr _ _ b.tk tlo;have ads:∀(A:Ab),∀a∈(⟨x.b,x.p,x.g,x.u,x.gl,x.tl,A⟩:Boat).ads,a∈x.ads\/M a=we:=λA a ha=>.inl ha;have eR:x.A.taker R.m c (Xs o f.name)=Zu W.w f z R.m c o l x.A:=by rw[Zu,if_neg L]
  have eS:smpA f z c x.A=Xi x.A.k (x.A.tSamp c):=if_neg L;have eH:hitA W.w f z o l x.A=x.A.takes (Xs o f.name):=if_neg L;delta MC;simp!;by_cases tks:x.A.takes (Xs o f.name)=wf
  .have eT:takM x.A (Xs o f.name)=.int (x.A.ws.getD x.A.tn 0:Nat):=if_pos tks;have P:(x.A.taker R.m c (Xs o f.name)).tn=x.A.tn+1:=if_pos tks;have hw:Xs o f.name=wf:=((XU _ _).mp tks).1;have hlt:x.A.tn<x.A.ws.length:=by
    have m2:=_r (j:=x.A.tx) (by rw[b.fy.ok.tl];erw[b.fy.ok.gl.1])
    have t1:=b.fy.ok.tb _ m2;have t2:=b.fy.ok.lt1;have t3:XF x.A.tx≠x.A.tn:=of_decide_eq_true ((XU _ _).mp tks).2;lia
   have⟨y,F⟩:=J hw;have gd:x.A.ws.getD x.A.tn 0=x.A.ws[x.A.tn]:=by rw[Y6,X6 hlt];rfl
   rw[eT];have t1:=cA _ fr _ _ ht;have r1:=cB _ fr;simp!;delta Mz
   simp![Fer.mv,r1,runO,valM,t1,vt,p]
   erw[⟨⟨_,rfl⟩,by rw[X5,Yl];lia,?_⟩]
   have eM:(x.A.ws.take x.A.tn).map natM++[MV.int ((x.A.ws.getD x.A.tn 0:Nat):Int)]=(x.A.ws.take (x.A.tn+1)).map natM:=by
    rw[Z7,X6 hlt,XI,gd];rfl
   rw[eM];have H:=fy.put p b.n1.2.2 ((x.A.ws.take (x.A.tn+1)).map natM);have tl2:updM M1 x.tl (.lst ((x.A.ws.take (x.A.tn+1)).map natM)) x.tl=_:=X9;have gl2:updM M1 x.tl (.lst ((x.A.ws.take (x.A.tn+1)).map natM)) x.gl=_:=(X7 b.n1.1).trans d;have fr2:FrM M (updM M1 x.tl (.lst ((x.A.ws.take (x.A.tn+1)).map natM))) x.ads:=λa o e O=>(X7 (λz=>O (by simp[Boat.ads,z]))).trans (D _ fr a o e O)
   generalize updM M1 x.tl _=M2 at*;delta Mw
   simp![Fer.mv]
   have hy:BoatAt M2 f W.w (R.m+1) ⟨x.b,x.p,x.g,x.u,x.gl,x.tl,x.A.taker R.m c (Xs o f.name)⟩:=⟨H,gl2,by
     show M2 x.tl=wc (.lst ((x.A.ws.take (x.A.taker R.m c (Xs o f.name)).tn).map natM));rw[P];erw[tl2],b.n1,b.k,by show x.A.gm<R.m+1;have:=b.gm;lia,by show R.m<R.m+1;lia,b.wd⟩
   have⟨A1,A2⟩:=h.boat (y:=⟨x.b,x.p,x.g,x.u,x.gl,x.tl,x.A.taker R.m c (Xs o f.name)⟩) (q:=λi=>if i=j then R.m+1 else N i) Y B fr2 (by show BoatAt _ _ _ (if j=j then R.m+1 else N j) _;rw[if_pos rfl];erw[hy]) rfl rfl rfl (ads _) C
   have U:Yw W.w f z o l x.A=.tup [.str "take",.str f.name,.int (x.A.ws.getD x.A.tn 0:Nat)]:=by rw[Yw,eH,if_pos tks,if_neg L]
   have:=q _ M2 A1 A2 eR (U▸.inr (.inr ⟨y,_,F,by rw[gd];erw[b.wd _ (XS hlt)],rfl⟩))
   rw[U,eS]at this;erw[this]
  .have eT:takM x.A (Xs o f.name)=.non:=if_neg tks;have P:(x.A.taker R.m c (Xs o f.name)).tn=x.A.tn:=if_neg tks;rw[eT];simp!;delta MA;simp!;have hy:BoatAt M1 f W.w (R.m+1) ⟨x.b,x.p,x.g,x.u,x.gl,x.tl,x.A.taker R.m c (Xs o f.name)⟩:=⟨fy,d,by
     show M1 x.tl=wc (.lst ((x.A.ws.take (x.A.taker R.m c (Xs o f.name)).tn).map natM));rw[P];erw[p],b.n1,b.k,by show x.A.gm<R.m+1;have:=b.gm;lia,by show R.m<R.m+1;lia,b.wd⟩
   have⟨A1,A2⟩:=h.boat (y:=⟨x.b,x.p,x.g,x.u,x.gl,x.tl,x.A.taker R.m c (Xs o f.name)⟩) (q:=λi=>if i=j then R.m+1 else N i) Y B (D _ fr) (by show BoatAt _ _ _ (if j=j then R.m+1 else N j) _;rw[if_pos rfl];erw[hy]) rfl rfl rfl (ads _) C
   have U:Yw W.w f z o l x.A=.non:=by rw[Yw,eH,if_neg tks]
   have:=q _ M1 A1 A2 eR (U▸.inl rfl);rw[U,eS]at this;erw[this]
def CN(w:Nat)(o:Option Stp)(j:Str->Int)(v:MV):Prop:=v=YX o\/(∃f T,o=wc (.give f T)/\v=askO o j w)\/∃(f x:Str) (n:Nat),o=wc (.take f x)/\n<2^w/\v=.tup [.str "take",.str f,.int n]
def RunAt.tick{M:MH}{W:Wld}{r:Addr}{R:RunS}{y u:Nat->Int}(h:RunAt M W r R y)(c:∀i,i<W.fer.length->y i<=u i)(m:Int):RunAt (updM M r (runO W {R with m:=m})) W r {R with m:=m} u/\Kept M (updM M r (runO W {R with m:=m})) r R {R with m:=m}:=by
 have q:∀a l,M a=wc (.dic l)->a≠r:=λa l e z=>by subst z;rw[h.ob]at e;cases e
 have d:∀a l,M a=wc (.dic l)->updM M r (runO W {R with m:=m}) a=wc (.dic l):=λa l e=>(X7 (q a l e)).trans e;erw[⟨⟨X9,d _ _ h.hn,d _ _ h.hw,d _ _ h.hs,d _ _ h.hb,d _ _ h.hg,d _ _ h.ht,h.nl,h.wl,h.sl,h.bl,h.nb,λi I a p w=>by have⟨k,e,o⟩:=h.wa i I a p w;erw[⟨k,d _ _ e,o⟩],λj f x g L=>?_,h.sep,h.nd⟩,⟨λa o e N=>(X7 λz=>N (by simp[RunS.own,z])).trans e,λa w=>.inl w⟩⟩]
 have b:=h.ba j f x g L;erw[b.fr (c j (Xo.mp g).1) λa w o e=>(X7 λz=>b.run h.ob (by rw[<-z];erw[w])).trans e]
def RunAt.le{M:MH}{W:Wld}{r:Addr}{R:RunS}{u l:Nat->Int}(h:RunAt M W r R u)(w:∀i,u i<=l i):RunAt M W r R l:={h with ba:=λj f x y z=>(h.ba j f x y z).fr (w j) λ_ _ _ e=>e}
def RunAt.off{M:MH}{W:Wld}{r:Addr}{R:RunS}{y:Nat->Int}(h:RunAt M W r R y){p:Addr}{xs:List MV}(c:M p=wc (.lst xs))(m:p∉R.own r)(o:MO):RunAt (updM M p o) W r R y:=by
 have d:∀a l,M a=wc (.dic l)->updM M p o a=wc (.dic l):=λa l e=>(X7 λz=>by subst z;rw[c]at e;cases e).trans e
 erw[⟨(X7 λz=>m (by rw[<-z];erw[Y3 ..])).trans h.ob,d _ _ h.hn,d _ _ h.hw,d _ _ h.hs,d _ _ h.hb,d _ _ h.hg,d _ _ h.ht,h.nl,h.wl,h.sl,h.bl,h.nb,λi I a q w=>by have⟨k,e,u⟩:=h.wa i I a q w;erw[⟨k,d _ _ e,u⟩],λj f x L g=>(h.ba j f x L g).fr (Ug _) λa w u e=>(X7 λz=>m ?_).trans e,h.sep,h.nd⟩]
 rw[<-z];erw[XJ _ (XJ _ (XJ _ (XJ _ (Vb.mpr ⟨x,Xb g,w⟩))))]
def RunAt.ws_off{M:MH}{W:Wld}{r:Addr}{R:RunS}{m:Nat->Int}(h:RunAt M W r R m){i:Nat}{I:Isl}{a:Addr}(g:W.isl[i]?=wc I)(w:R.ws[i]?=wc a):a∉R.own r:=λz=>by
 have⟨c,e,_⟩:=h.wa i I a g w;have l:=h.nd;have u:=Xb w;simp only[Yf,Xk,not_or]at l;simp only[RunS.own,Xk,Vb]at z;rcases z with rfl|rfl|rfl|rfl|⟨x,d,z⟩
 .rw[h.ob]at e;cases e
 .erw[l.1.2.2.2.2.2 u]
 .erw[l.2.1.2.2.2.2 u]
 .erw[l.2.2.1.2.2.2 u]
 .have⟨j,y,rfl⟩:=Yq d;erw[(h.ba j _ _ (X6 (by rw[<-h.bl];erw[y])) (X6 y)).dic e z]
def newA(w:Nat)(z:Str)(m:Int)(c:Nat)(o:Option Stp)(j:Str->Int)(k:Nat)(f:Fer)(A:Ab):Ab:=if z=f.giver\/z=f.taker then Zu w f z m (c/2^(8*k)) o j A else A
def _kb{w:Nat}{z:Str}{m:Int}{c:Nat}{o:Option Stp}{j:Str->Int}{k:Nat}{f:Fer}{A:Ab}:(newA w z m c o j k f A).ws.length<=A.ws.length+1:=by
 unfold newA;split
 .unfold Zu;split
  .show(if A.gives _=wf then A.ws++[_]else A.ws).length<=_;split
   .rw[XR];erw[Xa _]
   .erw[YT _]
  .erw[YT _]
 .erw[YT _]
def Hit(W:Wld)(bs:List Boat)(z:Str)(o:Option Stp)(j:Str->Int)(k:Nat)(f:Fer)(a:Boat):Prop:=W.fer[k]?=wc f/\bs[k]?=wc a/\(z=f.giver\/z=f.taker)/\hitA W.w f z o j a.A=wf
def WhatTo(W:Wld)(bs:List Boat)(z:Str)(o:Option Stp)(l:Str->Int)(j:Nat)(v:MV):Prop:=(v=YX o/\∀k f a,k<j->¬Hit W bs z o l k f a)\/∃k f a,k<j/\Hit W bs z o l k f a/\v=Yw W.w f z o l a.A
def WhatTo.stay{W:Wld}{bs:List Boat}{z:Str}{o:Option Stp}{ρ:Str->Int}{j:Nat}{v:MV}(h:WhatTo W bs z o ρ j v)(n:∀f a,¬Hit W bs z o ρ j f a):WhatTo W bs z o ρ (j+1) v:=by
 rcases h with⟨e,h⟩|⟨k,f,a,l,h,e⟩
 .erw[.inl ⟨e,λk f a l=>?_⟩];rcases Dm.mp l with l|rfl
  .erw[h k f a l]
  .erw[n f a]
 .erw[.inr ⟨k,f,a,VH l,h,e⟩]
def BsTo(W:Wld)(bs l:List Boat)(z:Str)(m:Int)(c:Nat)(o:Option Stp)(w:Str->Int)(j:Nat):Prop:=∀k f a,k<j->W.fer[k]?=wc f->bs[k]?=wc a->∃u,l[k]?=wc u/\u.A=newA W.w z m c o w k f a.A
def BsTo.len{W:Wld}{bs l:List Boat}{z:Str}{m:Int}{c:Nat}{o:Option Stp}{ρ:Str->Int}{j:Nat}(h:BsTo W bs l z m c o ρ j)(w:l.length=W.fer.length)(q:bs.length=W.fer.length)(r:∀k,j<=k->l[k]?=bs[k]?){n:Nat} (g:∀y∈bs,y.A.ws.length<=n):∀y∈l,y.A.ws.length<=n+1:=λy p=>by
 have⟨k,u,rfl⟩:=Yq p;by_cases e:k<j
 .have d:k<bs.length:=by rw[q,<-w];erw[u]
  have⟨O,f,L⟩:=h k _ _ e (X6 (by rw[<-w];erw[u])) (X6 d)
  rw[X6 u]at f;cases f;rw[L];erw[Xy _kb (Bl (g _ (XS d)))]
 .have N:=(r k (Nat.le_of_not_lt e)).symm.trans (X6 u);erw[Nat.le_succ_of_le (g _ (Xb N))]
def GoTo(W:Wld)(M g:MH)(r:Addr)(R w:RunS)(bs:List Boat)(i n:Nat)(j:List (Key×MV))(o:Option Stp)(v:MV):Prop:=
 (w={R with bs:=bs,m:=R.m+1}/\v=YX o/\∀s,o=wc s->∃z,Xs o z=wf)\/
 ∃s l y p d,o=wc s/\w=goR {R with bs:=bs,m:=R.m+1} i y p d/\R.dn[i]?=wc d/\XZ s (rhoK j) W.w n=((y:Nat):Int)/\g p=wc (.dic (YD s j (rhoK j) W.w l))/\(∀u,M p=wc u->p∈R.own r)/\
  ((∀z,Xs o z=wg)/\v=YX o/\l=.non\/(∃f T,s=.give f T/\v=askO o (rhoK j) W.w/\l=.non)\/∃f x m,s=.take f x/\v=.tup [.str "take",.str f,.int m]/\l=.int m)
abbrev Wn:SpM:=λw M Q=>∃(r:Addr) (W:Wld) (R:RunS) (i:Nat) (I:Isl) (c n:Nat) (o:Option Stp) (a:Addr) (j:List (Key×MV)),w=[.ref r,.str I.name,.int c]/\W.Good/\RunAt M W r R (λ_=>R.m)/\W.isl[i]?=wc I/\(∀y∈R.bs,y.A.ws.length<=900)/\R.nums[i]?=wc n/\I.stps[n]?=o/\R.ws[i]?=wc a/\M a=wc (.dic j)/\
 ∀bs l u v p,RunAt u W r l (λ_=>l.m)->Kept M u r R l->BsTo W R.bs bs I.name R.m c o (rhoK j) W.fer.length->WhatTo W R.bs I.name o (rhoK j) W.fer.length v->GoTo W M u r R l bs i n j o v->Q (.tup [.str I.name,.int n,v,.ref p]) u
def Rf:MonW Wn:=by walk_at "m"
def _jy{w:Nat}{f:Fer}{z:Str}{o:Option Stp}{j:Str->Int}{A:Ab}(h:Re w f o j (Yw w f z o j A))(l:hitA w f z o j A=wf):∃g,Yw w f z o j A=.tup g/\CN w o j (.tup g):=by
 rcases h with e|⟨T,u,e⟩|⟨y,m,u,d,e⟩
 .rw[Yw,if_pos l]at e;by_cases c:f.giver=z
  .rw[if_pos c]at e;cases o with
   |none=>rw[hitA,if_pos c]at l;cases l
   |some s=>cases s<;>cases e
  .rw[if_neg c]at e;cases e
 .rw[e,u];erw[⟨_,rfl,.inr (.inl ⟨_,T,rfl,rfl⟩)⟩]
 .rw[e];erw[⟨_,rfl,.inr (.inr ⟨_,y,m,u,d,rfl⟩)⟩]
def _fR{w:Nat}{o:Option Stp}{l:Str->Int}{v:MV}(h:CN w o l v):(∃(z:Str) (j:List MV),v=.tup (.str z::j)/\(z="done"\/z="wait")/\v=YX o/\∀s,o=wc s->∃y,Xs o y=wf)\/(∃(z:Str) (j:List MV) (s:Stp),v=.tup (.str z::j)/\¬(z="done"\/z="wait")/\¬z="take"/\o=wc s/\(((∀y,Xs o y=wg)/\v=YX o/\MV.non=.non)\/∃f T,s=.give f T/\v=askO o l w)/\∀f x,s≠.take f x)\/∃(f x:Str) (n:Nat),o=wc (.take f x)/\n<2^w/\v=.tup [.str "take",.str f,.int n]:=by
 have u:¬((("own":Str)="done")\/(("own":Str)="wait")):=by rw[_p,_p];decide
 have m:¬(("own":Str)="take"):=by rw[_p];decide
 have g:¬((("give":Str)="done")\/(("give":Str)="wait")):=by rw[_p,_p];decide
 have d:¬(("give":Str)="take"):=by rw[_p];decide
 rcases h with rfl|⟨f,T,rfl,rfl⟩|h
 .rcases o with _|s
  .erw[.inl ⟨_,_,rfl,.inl rfl,rfl,λs e=>nomatch e⟩]
  .cases s with
   |take f x=>erw[.inl ⟨_,_,rfl,.inr rfl,rfl,λs e=>⟨f,decide_eq_true rfl⟩⟩]
   |give f x=>erw[.inl ⟨_,_,rfl,.inr rfl,rfl,λs e=>⟨f,decide_eq_true rfl⟩⟩]
   |put x T=>erw[.inr (.inl ⟨_,_,_,rfl,u,m,rfl,.inl ⟨λ_=>rfl,rfl,rfl⟩,λf x e=>nomatch e⟩)]
   |jump T x=>erw[.inr (.inl ⟨_,_,_,rfl,u,m,rfl,.inl ⟨λ_=>rfl,rfl,rfl⟩,λf x e=>nomatch e⟩)]
 .erw[.inr (.inl ⟨_,_,_,rfl,g,d,rfl,.inr ⟨_,_,rfl,rfl⟩,λf x e=>nomatch e⟩)]
 .erw[.inr (.inr h)]
def CO{z a b:Str}:inV (toV (.str z)) ([MV.str a,.str b].map toV)=decide (z=a\/z=b):=by
 have:=Aq (z:=z) (j:=[a,b])
 simpa using this
def _el(T:Txt E):FM E 53 "Run" "ring" Wn:=by
 erw[T.bu.ok T.aa T.ab 3 ["self","name","choice","steps","number","asked","what","samples","j","ferry","told"] (mC T [("island_of",UY),("two_to",UT),("what_alone",Vw),("wish",Vr),("Run_go_on",Ux),("Run_ring_ferry",V0)] [("Run_go_on",Ux),("Run_ring_ferry",V0)] [(4,"Run","go_on"),(5,"Run","ring_ferry")] [] (fc (Fx T) (fc (Ap T) (fc (_cd T) (fc (Pt T) f0)))) (fMc _92 (fMc _4c nl0)) (fMc ⟨_,_,rfl,fM (_di T)⟩ (fMc ⟨_,_,rfl,fM (_7m T)⟩ nl0)) nl0) Mv (fun vs M Q h=>?_)];erw[ee10 h λr W R i I c n o a L h=>?_];have⟨rfl,G,h,X,hL,hn,ho,A,N,q⟩:=h;erw[⟨rfl,?_⟩];show wSs _ _ _ [wc (.ref r),wc (.str I.name),wc (.int c),we,we,we,we,we,we,we,we] M;have hi:i<W.isl.length:=(Xo.mp X).1;have im:I∈W.isl:=Xb X;have ok:=G.io I im;have f6:=G.f6;have⟨kv0,hk0,wk⟩:=h.wa i I a X A;obtain rfl:L=kv0:=by rw[N]at hk0;cases hk0;rfl
 have ob:=h.ob;have hpn:=h.hn;have hpw:=h.hw;have vn:=h.nml G X hn;have vw:=h.wdl G X A;delta Mv
 simp![ob,runO,valM]
 erw[ex3 W i I ⟨rfl,G,X,?_⟩]
 simp![Isl.mv]
 delta Mu
 simp![ob,runO,valM,hpn,vn]
 delta Mt
 simp![ob,runO,valM,Wld.mv,hpw,vw]
 erw[ex8 _ a I.stps n W.w L (rhoK L) I.vars ⟨rfl,.inl rfl,λs hs=>CB (ok.st s hs),h.nb i I n X hn,G.w1,G.w2,N,wk.reads ok.nd,?_⟩];rw[_pT];rw[ho];have hE:∀s,o=wc s->U2 W.fer I.name s:=λs e=>G.en I im s (Xb (ho.trans e));have hT:∀g T,o=wc (.give g T)->0<=T.val (rhoK L) W.w/\T.val (rhoK L) W.w<2^W.w:=λg T e=>T.val_in G.w1 λy hy=>(wk.at ok.nd ((ok.st _ (Xb (ho.trans e))).2.2.2 y hy)).2;obtain⟨w,hρ⟩:∃w,rhoK L=w:=⟨_,rfl⟩;rw[hρ]at hT q ⊢;delta Ms;simp!;erw[ex3 o w W.w ⟨rfl,?_⟩];delta Mr;simp!;intro p hp;have s1:=SameM.new hp (.lst []);have hp1:updM M p (.lst []) p=wc (.lst []):=X9;have h1:=h.keep s1;have k1:Kept M (updM M p (.lst [])) r R R:=Kept.new s1;have own_some:∀b∈R.own r,∃u,M b=wc u:=λb hb=>by
  simp only[RunS.own,Xk,Vb]at hb;rcases hb with rfl|rfl|rfl|rfl|⟨x,hx,hb⟩
  .erw[⟨_,ob⟩]
  .erw[⟨_,hpn⟩]
  .erw[⟨_,hpw⟩]
  .erw[⟨_,h.hs⟩]
  .have⟨j,hj,rfl⟩:=Yq hx;have⟨u,e,_⟩:=(h.ba j _ _ (X6 (by rw[<-h.bl];erw[hj])) (X6 hj)).at_ b hb
   erw[⟨u,e⟩]
 have pno:p∉R.own r:=λz=>by
  have⟨u,e⟩:=own_some p z;rw[hp]at e;cases e
 generalize updM M p _=M1 at*;have ob1:=h1.ob;delta Mq
 simp![ob1,runO,valM,Wld.mv,X5]
 obtain⟨J,hJ⟩:∃J:Nat->Sm->MH->Prop,∀j σ M',J j σ M'↔∃(bs:List Boat) (xs:List MV) (v:MV) (U O l:Option MV),RunAt M' W r {R with bs:=bs} (λk=>if k<j then R.m+1 else R.m)/\Kept M M' r R {R with bs:=bs}/\CN W.w o w v/\WhatTo W R.bs I.name o w j v/\(M' p=wc (.lst xs)/\xs.length<=j)/\p∉RunS.own {R with bs:=bs} r/\(∀k,j<=k->bs[k]?=R.bs[k]?)/\BsTo W R.bs bs I.name R.m c o w j/\
  σ=[wc (.ref r),wc (.str I.name),wc (.int c),wc (.tup (I.stps.map Stp.mv)),wc (.int n),wc (askO o w W.w),wc v,wc (.ref p),U,O,l]:=⟨_,λ_ _ _=>XX⟩
 erw[⟨by lia,by lia,J,(hJ _ _ _).mpr (ex6 R.bs _ _ _ _ _ ⟨by simpa using h1,k1,.inl rfl,.inl ⟨rfl,λk f a N=>absurd N (WD _)⟩,⟨hp1,Xa _⟩,pno,λ_ _=>rfl,λk f a N=>absurd N (WD _),rfl⟩),λj σ M' h=>trivial,?_,?_⟩]
 .rintro j y σ M2 hy hj;erw[ee6 ((hJ _ _ _).mp hj) λbs xs v U O l h=>?_];have⟨hR,hK,hv,hw,⟨H,xl⟩,hpo,Y,P,rfl⟩:=h;have⟨B,rfl⟩:=Wg hy;have B:j<W.fer.length:=by simpa using B
  have ej:((0:Int)+(j:Nat))=(j:Nat):=by lia
  have hf:W.fer[j]?=wc W.fer[j]:=X6 B;generalize W.fer[j]=f at*;have bl1:bs.length=W.fer.length:=hR.bl;obtain⟨x,hx⟩:∃x,bs[j]?=wc x:=⟨_,X6 (by rw[bl1];erw[B])⟩
  have hx0:R.bs[j]?=wc x:=(Y j (Xa _)).symm.trans hx;have ob2:=hR.ob;have af:atI (W.fer.map Fer.mv) (j:Int)=wc f.mv:=Yn (by rw[Xe,hf];rfl)
  rw[ej]
  suffices key:∀D:EndM,D.nx=J (j+1)->wSs ([("island_of",UY),("two_to",UT),("what_alone",Vw),("wish",Vr),("Run_go_on",Ux),("Run_ring_ferry",V0)]:List (Str×SpM)) Eu D [wc (.ref r),wc (.str I.name),wc (.int c),wc (.tup (I.stps.map Stp.mv)),wc (.int n),wc (askO o w W.w),wc v,wc (.ref p),wc (.int j),O,l] M2 from key _ rfl
  intro D hD;delta Eu
  simp![ob2,runO,valM,Wld.mv,af]
  delta Mp
  simp![Fer.mv]
  erw[⟨rfl,rfl,?_⟩];rw[CO];simp!;erw[XY (λcz=>?_) (λcz=>?_)]
  .delta Mo
   simp![ob2,runO,valM]
   have e8:(8:Int)*(j:Int)=((8*j:Nat):Int):=by lia
   rw[e8];erw[⟨8*j,rfl,by lia,?_⟩]
   simp!;have hc2:(c:Int)/2^(8*j)=((c/2^(8*j):Nat):Int):=by rw[Int.natCast_ediv,Vi];rfl
   rw[hc2];erw[⟨⟨Ao _,Int.lt_of_le_of_lt (Po (by lia)) (by decide)⟩,?_⟩]
   erw[ex11 r W ({R with bs:=bs}) _ j f I.name _ o w x ⟨rfl,G,hR,by simp,hf,cz,hE,hT,λy hy=>Xy (P.len bl1 h.bl Y hL y hy) (by decide),hx,λy S a3 a4 eA a5=>?_⟩]
   have a3:RunAt S W r {R with bs:=bs.set j y} (λi=>if i=j then R.m+1 else if i<j then R.m+1 else R.m):=a3;have a4:Kept M2 S r {R with bs:=bs} {R with bs:=bs.set j y}:=a4;have hp3:=a4.fr _ _ H hpo;have pno2:p∉RunS.own {R with bs:=bs.set j y} r:=λz=>by
    rcases a4.nw p z with y|y
    .erw[hpo y]
    .rw[H]at y;cases y
   have a3':RunAt S W r {R with bs:=bs.set j y} (λk=>if k<j+1 then R.m+1 else R.m):=a3.le λk=>by
    by_cases e1:k=j
    .subst e1;rw[if_pos rfl,if_pos (ZC _)];erw[Ug _]
    .rw[if_neg e1];by_cases F:k<j
     .rw[if_pos F,if_pos (by lia)];erw[Ug _]
     .rw[if_neg F,if_neg (by lia)];erw[Ug _]
   have k3:=hK.trans a4;delta Mn
   simp![Fer.mv,hp3]
   erw[⟨⟨_,rfl⟩,by lia,?_⟩]
   obtain⟨ys,hys,yl⟩:∃ys,xs++[MV.tup [.str f.name,.int (smpA f I.name (c/2^(8*j)) x.A:Nat)]]=ys/\ys.length<=j+1:=⟨_,rfl,by rw[XR];erw[Bl xl]⟩
   rw[hys];have r4:=a3'.off hp3 pno2 (.lst ys);have p4:updM S p (.lst ys) p=wc (.lst ys):=X9;have k4:Kept M (updM S p (.lst ys)) r R {R with bs:=bs.set j y}:=⟨λb u e hb=>(X7 (neM e hp)).trans (k3.fr b u e hb),k3.nw⟩;generalize updM S p _=Z at*;have bs4:∀k,j+1<=k->(bs.set j y)[k]?=R.bs[k]?:=λk N=>(B3 (by lia)).trans (Y k (by lia))
   have to4:BsTo W R.bs (bs.set j y) I.name R.m c o w (j+1):=λk g a N C A=>by
    rcases Dm.mp N with N|rfl
    .have⟨a',h1,h2⟩:=P k g a N C A;erw[⟨a',(B3 (by lia)).trans h1,h2⟩]
    .rw[hf]at C;cases C;rw[hx0]at A;cases A;erw[⟨y,by rw[AX (by rw[bl1];erw[B])],by rw[eA,newA,if_pos cz]⟩]
   have fin:∀v3 w8 w9 w10,CN W.w o w v3->WhatTo W R.bs I.name o w (j+1) v3->J (j+1) [wc (.ref r),wc (.str I.name),wc (.int c),wc (.tup (I.stps.map Stp.mv)),wc (.int n),wc (askO o w W.w),wc v3,wc (.ref p),w8,w9,w10] Z:=λv3 w8 w9 w10 hv3 hw3=>(hJ _ _ _).mpr (ex6 _ ys v3 w8 w9 w10 ⟨r4,k4,hv3,hw3,⟨p4,yl⟩,pno2,bs4,to4,rfl⟩);delta Mm;by_cases hh:hitA W.w f I.name o w x.A=wf
   .have wt:WhatTo W R.bs I.name o w (j+1) (Yw W.w f I.name o w x.A):=.inr ⟨j,f,x,ZC _,⟨hf,hx0,cz,hh⟩,rfl⟩;have⟨us,et,wi⟩:=_jy a5 hh;rw[et]at wt ⊢;simp!;delta Ml;simp!;rw[hD];erw[fin _ _ _ _ wi wt]
   .have et:Yw W.w f I.name o w x.A=.non:=if_neg hh;rw[et];simp!;rw[hD];erw[fin _ _ _ _ hv (hw.stay λg a C=>hh (by
     have⟨z1,z2,_,z4⟩:=C;rw[hf]at z1;cases z1;rw[hx0]at z2;cases z2;erw[z4]))]
  .rw[hD];erw[(hJ _ _ _).mpr (ex6 bs xs v _ _ _ ⟨hR.le λk=>?_,hK,hv,hw.stay λg a C=>cz (by
     have⟨z1,_,z3,_⟩:=C;rw[hf]at z1;cases z1;erw[z3]),⟨H,Nat.le_succ_of_le xl⟩,hpo,λk N=>Y k (by lia),λk g a N C A=>?_,rfl⟩)]
   .show(if k<j then R.m+1 else R.m)<=(if k<j+1 then R.m+1 else R.m);by_cases F:k<j
    .rw[if_pos F,if_pos (by lia)];erw[Ug _]
    .rw[if_neg F];by_cases e3:k<j+1
     .rw[if_pos e3];lia
     .rw[if_neg e3];erw[Ug _]
   .rcases Dm.mp N with N|rfl
    .erw[P k g a N C A]
    .rw[hf]at C;cases C;erw[⟨a,(Y k (Xa _)).trans A,by rw[newA,if_neg cz]⟩]
 .rintro σ M2 hj;erw[ee6 ((hJ _ _ _).mp hj) λbs xs v U O l h=>?_];have⟨hR,hK,hv,hw,⟨H,xl⟩,hpo,Y,P,rfl⟩:=h;have hw:WhatTo W R.bs I.name o w W.fer.length v:=hw;have P:BsTo W R.bs bs I.name R.m c o w W.fer.length:=P;have ob2:=hR.ob;have⟨t1,t2⟩:=hR.tick (u:=λ_=>R.m+1) (λk N=>by show(if _ then _ else _)<=_;split<;>lia) (R.m+1)
  have k2:=hK.trans t2;delta Mj
  simp![ob2,runO,valM,putM]
  have eo:updM M2 r (runO W {R with bs:=bs,m:=R.m+1})=updM M2 r (.ins "Run" [("world",W.mv),("moment",.int (R.m+1)),("next_numbers",.ref R.pn),("words_now",.ref R.pw),("steps_so_far",.ref R.ps),("boats",.ref R.pb),("given_so_far",.ref R.pg),("taken_so_far",.ref R.pt)]):=rfl;rw[eo]at t1 k2;generalize updM M2 r _=S at*;have ret:∀(R3:RunS)(Z:MH)(D:EndM),D.rt=Q->RunAt Z W r R3 (fun _=>R3.m)->Kept M Z r R R3->GoTo W M Z r R R3 bs i n L o v->∀U O l,wSs ([("island_of",UY),("two_to",UT),("what_alone",Vw),("wish",Vr),("Run_go_on",Ux),("Run_ring_ferry",V0)]:List (Str×SpM)) Am D [wc (.ref r),wc (.str I.name),wc (.int c),wc (.tup (I.stps.map Stp.mv)),wc (.int n),wc (askO o w W.w),wc v,wc (.ref p),U,O,l] Z:=by
   intro R3 Z D hD a1 a2 a3 U O l;delta Am;simp!;rw[hD];erw[q bs R3 Z _ p a1 a2 P hw a3]
  have stay:v=YX o->(∀s,o=wc s->∃z,Xs o z=wf)->∀D:EndM,D.rt=Q->∀U O l,wSs ([("island_of",UY),("two_to",UT),("what_alone",Vw),("wish",Vr),("Run_go_on",Ux),("Run_ring_ferry",V0)]:List (Str×SpM)) Am D [wc (.ref r),wc (.str I.name),wc (.int c),wc (.tup (I.stps.map Stp.mv)),wc (.int n),wc (askO o w W.w),wc v,wc (.ref p),U,O,l] S:=fun e1 F D hD=>ret {R with bs:=bs,m:=R.m+1} S D hD t1 k2 (.inl ⟨rfl,e1,F⟩);have ob3:=t1.ob;have hk3:=k2.fr _ _ N (h.ws_off X A);have go:∀(s:Stp)(wd:MV),o=wc s->(∀f x,s=.take f x->∃v:Int,wd=.int v/\0<=v/\v<2^W.w)->((∀z,Xs o z=wg)/\v=YX o/\wd=.non\/(∃f T,s=.give f T/\v=askO o (rhoK L) W.w/\wd=.non)\/∃f x m,s=.take f x/\v=.tup [.str "take",.str f,.int m]/\wd=.int m)->∀U O l,Ux [.ref r,.str I.name,.tup (I.stps.map Stp.mv),wd] S (fun _ Z=>wSs ([("island_of",UY),("two_to",UT),("what_alone",Vw),("wish",Vr),("Run_go_on",Ux),("Run_ring_ferry",V0)]:List (Str×SpM)) Am {nx:=fun _ M'=>Q .non M',rt:=Q} [wc (.ref r),wc (.str I.name),wc (.int c),wc (.tup (I.stps.map Stp.mv)),wc (.int n),wc (askO o w W.w),wc v,wc (.ref p),U,O,l] Z):=fun s wd es hw hd U O l=>
   ⟨r,W,{R with bs:=bs,m:=R.m+1},_,i,n,I,s,wd,a,L,rfl,G,t1,X,hn,ho.trans es,hw,A,hk3,λn' p' d Z e1 F e3 e4 a1 a2=>ret _ Z _ rfl (a1.le λ_=>Ug _) (k2.trans a2) (.inr ⟨s,wd,n',p',d,es,rfl,e1,F,e4,(λu e=>Decidable.byContradiction λz=>by rw[k2.fr _ _ e z]at e3;cases e3),hd⟩) U O l⟩
  delta Mi;rcases _fR hv with⟨z,us,rfl,hz,hw1,hw2⟩|⟨z,us,s,rfl,hz,hz2,es,hs⟩|⟨f,y,m,es,hm,rfl⟩
  .simp!;erw[⟨rfl,rfl,?_⟩];rw[CO,decide_eq_true hz]
   try walk_at "s"
   erw[stay hw1 hw2 _ rfl _ _ _]
  .have this:=go s .non es (λf x e=>absurd e (hs.2 f x)) (hs.1.imp_right fun⟨f,T,e1,F⟩=>.inl ⟨f,T,e1,by rw[hρ];erw[F],rfl⟩) U O l
   simp!;erw[⟨rfl,rfl,?_⟩];rw[CO,decide_eq_false hz]
   try walk_at "s"
   delta Et
   simp![ob3,runO,valM,hz2]
   erw[this]
  .have this:=go _ (.int (m:Int)) es (λf x e=>⟨_,rfl,by lia,by
    have e:((2:Int)^W.w)=((2^W.w:Nat):Int):=by rw[Vi];rfl
    lia⟩) (.inr (.inr ⟨f,y,m,rfl,rfl,rfl⟩)) U O l
   simp!;erw[⟨rfl,rfl,?_⟩];rw[CO];simp!;delta Et
   simp![ob3,runO,valM]
   erw[this]
noncomputable def RunS.all(R:RunS)(r:Addr):List Addr:=R.own r++R.pb::R.pg::R.pt::R.ws
structure Fd where
 F:Str
 e:IE
 d:Dc
noncomputable def fldS(x:Fd):IS:=.fset "Run" (.var 0) x.F x.e
def fld{y:List (Str×SpM)}{r:Addr}{v:MV}{x:Fd}{fs:List (Str×MV)}{D:EndM}{M:MH}(ok:Lays y [wc (.ref r),wc v] x.e x.d M)(z:M r=wc (.ins "Run" fs))(c:fs.length<1000)
  (q:∀p j u,FrM M u [r]->u r=wc (.ins "Run" (putM fs x.F (.ref p)))->Got x.d p j u->Laid M u (p::j.flatten)->D.nx [wc (.ref r),wc v] u):wS y (fldS x) D [wc (.ref r),wc v] M:=by
 rw[fldS,Jp];erw[ok _ λp j M1 m g l=>⟨r,fs,rfl,m _ _ z,c,?_⟩];have d:∀a∈p::j.flatten,updM M1 r (.ins "Run" (putM fs x.F (.ref p))) a=M1 a:=fun a w=>X7 (neM z (l.2 a w).1).symm;erw[q p j _ (λa o e n=>(X7 (by simpa using n)).trans (m _ _ e)) X9 (g.move d) ⟨l.1,λa w=>⟨(l.2 a w).1,by rw[d a w];erw[(l.2 a w).2]⟩⟩]
def mkF:List Fd->ISs
 |[]=>.nil
 |d::ds=>.cons (fldS d) (mkF ds)
def chain:List Fd->(List (Str×MV)->List Addr->(MH->Prop)->Prop)->Prop
 |[],k=>k [] [] λ_=>True
 |x::ds,k=>∀p j,chain ds λfs A P=>k ((x.F,.ref p)::fs) (p::j.flatten++A) λM=>Got x.d p j M/\P M
theorem Rg:∀{j:List Fd} {k l:List (Str×MV)->List Addr->(MH->Prop)->Prop},(∀fs A P,k fs A P->l fs A P)->chain j k->chain j l
 |[],_,_,h,c=>h _ _ _ c
 |_::_,_,_,h,c=>λp u=>Rg (λ_ _ _ z=>h _ _ _ z) (c p u)
theorem flds{L:List (Str×SpM)}{r:Addr}{v:MV}{D:EndM}:∀(l:List Fd){fs:List (Str×MV)} {M:MH},(∀x∈l,∀M,Lays L [wc (.ref r),wc v] x.e x.d M)->M r=wc (.ins "Run" fs)->(fs.map (·.1)++l.map Fd.F).Nodup->fs.length+l.length<1000->
  chain l (fun w A P=>∀u,FrM M u [r]->u r=wc (.ins "Run" (fs++w))->A.Nodup->(∀a∈A,M a=we)->P u->D.nx [wc (.ref r),wc v] u)->wSs L (mkF l) D [wc (.ref r),wc v] M
 |[],fs,M,_,hr,_,_,h=>h M (FrM.refl _ _) (by rw[YS];erw[hr]) Wx (λ_ h=>(XN h).elim) trivial
 |d::l,fs,M,ok,hr,n2,N,h=>by
  rw[mkF,US];have N:fs.length+(l.length+1)<1000:=N;erw[fld (ok d (Y3 ..) M) hr (by lia) λp O M1 fr g c new=>?_]
  have T:putM fs d.F (.ref p)=fs++[(d.F,.ref p)]:=Fu λq U z=>(Yy.mp n2).2.2 _ (XA.mpr ⟨q,U,rfl⟩) _ (Y3 ..) z;rw[T]at g;erw[flds l (λd hd=>ok d (XJ _ hd)) g (by simpa using n2) (by rw[XR];show _+1+_<_;lia) (Rg (λw A P k u y W Y f Z=>?_) (h p O))]
  have st:∀a∈p::O.flatten,u a=M1 a:=λa j=>by
   have⟨R,o,m⟩:=new.2 a j;rw[m];erw[y _ _ m (λz=>by rw[Y1.mp z,hr]at R;cases R)]
  erw[k u (fr.trans y) (by rw[W,UE];rfl) (Yy.mpr ⟨new.1,Y,λa j b B z=>?_⟩) (λa j=>?_) ⟨c.move st,Z⟩]
  .have⟨_,o,m⟩:=new.2 a j;rw[z,f b B]at m;cases m
  .rcases Ye.mp j with j|j
   .erw[(new.2 a j).1]
   .cases e:M a with
    |none=>rfl
    |some o=>
     have:=fr a o e (λz=>?_)
     .rw[f a j]at this;cases this
     .rw[Y1.mp z]at j;rw[f r j]at g;cases g
def abOf(W:Wld)(j:Nat):Ab:=match W.fer[j]? with
 |wc f=>ab0 f.k f.st
 |we=>ab0 0 1
def Uy(W:Wld)(l u w:List (List Addr))(j:Nat):Boat:=⟨hd (l.getD j []),(l.getD j []).getD 1 default,(l.getD j []).getD 2 default,(l.getD j []).getD 3 default,hd (u.getD j []),hd (w.getD j []),abOf W j⟩
def HF{α β:Type}{d:α}{f:α->β}{L:List α}{n:Nat}(h:L.length=n):(Xq n).map (λj=>f (L.getD j d))=L.map f:=by
 apply Ww;intro i;rw[Xe,Xe];by_cases hi:i<n
 .rw[VC hi,X6 (by rw[h];erw[hi]),BA,BA,Y6,X6 (by rw[h];erw[hi])];rfl
 .rw[Zj (by rw[UF];lia),Zj (by lia)];rfl
theorem CP:∀{L:List (List Addr)} {i j:Nat} {x y:List Addr},L.flatten.Nodup->L[i]?=wc x->L[j]?=wc y->i≠j->∀a∈x,a∉y
 |[],_,_,_,_,_,h,_,_=>by simp at h
 |l::L,0,0,_,_,_,_,_,ne=>absurd rfl ne
 |l::L,0,j+1,x,y,nd,h1,h2,_=>λa u w=>by
  rw[Zx,Yy]at nd;obtain rfl:l=x:=by simpa using h1
  erw[nd.2.2 a u a (VE.mpr ⟨y,Xb (by simpa using h2),w⟩) rfl]
 |l::L,i+1,0,x,y,nd,h1,h2,_=>λa u w=>by
  rw[Zx,Yy]at nd;obtain rfl:l=y:=by simpa using h2
  erw[nd.2.2 a w a (VE.mpr ⟨x,Xb (by simpa using h1),u⟩) rfl]
 |l::L,i+1,j+1,x,y,nd,h1,h2,ne=>by
  rw[Zx,Yy]at nd;erw[CP nd.2.1 (by simpa using h1) (by simpa using h2) (λe=>ne (by rw[e]))]
def dBts(W:Wld):Dc:=⟨W.fns,λN=>.ref (hd N),λj N M=>∃b p g u,N=[b,p,g,u]/\∀f,W.fer[j]?=wc f->FyAt M b p g u (ab0 f.k f.st),λj N M2 c w ⟨b,p,g,u,e,h⟩=>by
  subst e;erw[ex4 b p g u ⟨rfl,λf z=>?_⟩];have l:=h f z;have⟨m,d,y⟩:=l.pls;erw[⟨l.ok,(w b (by simp)).trans l.fe,⟨m,(w p (by simp)).trans d,y⟩,(w g (by simp)).trans l.gi,(w u (by simp)).trans l.ta,l.ne⟩]⟩
abbrev Wo:SpM:=fun u M Q=>∃(r:Addr) (W:Wld),u=[.ref r,W.mv]/\M r=wc (.ins "Run" [])/\W.Good/\∀R l,FrM M l [r]->RunAt l W r R (fun _=>R.m)->R.m=0->(∀(j:Nat)f y,W.fer[j]?=wc f->R.bs[j]?=wc y->y.A=ab0 f.k f.st)->(∀a∈R.all r,a=r\/M a=we)->R.nums=(W.isl.map fun _=>0)->R.dn=(W.isl.map fun _=>0)->(∀(i:Nat)I a,W.isl[i]?=wc I->R.ws[i]?=wc a->l a=wc (.dic (wd0 I)))->Q .non l
def Rh:MonW Wo:=by walk_at "m"
def _9D(T:Txt E):FI E 6 "Run" Wo:=by
 erw[T.cq.oi T.aa T.ab T.g 2 ["self","world"] (mC T [("Ferry___init__",Uv)] [("Ferry___init__",Uv)] [] [(0,"Ferry")] f0 (fMc Qu nl0) nl0 (fMc ⟨_,_,rfl,fI (_7n T)⟩ nl0)) Mh (fun vs M Q h=>?_)];have⟨r,W,rfl,hr,G,q⟩:=h;erw[⟨rfl,?_⟩];show wSs _ _ _ [wc (.ref r),wc W.mv] M;have F:=(U1 (u:=[("Ferry___init__",Uv)]) (fMc Qu nl0));have oB:∀M,Lays ([("Ferry___init__",Uv)]:List (Str×SpM)) [wc (.ref r),wc W.mv] _ (dBts W) M:=fun M=>CH (x:=1) (E:=.make 0 "Ferry" (.ix (.var 0) (.int 3)) (.cons (.ix (.var 0) (.int 4)) .nil)) F G rfl rfl fun j f C M=>by
  have fo:=G.fo f (Xb C)
  simp![Fer.mv]
  intro b P;erw[ex3 b f.k f.st ⟨rfl,X9,by have:=fo.k3;lia,fo.s1,fo.s3,λp g u M3 hp A hu fr Z=>?_⟩]
  have D:∀z,updM M b (.ins "Ferry" []) z=we->z≠b/\M z=we:=fun z hz=>by
   have n:z≠b:=(neM X9 hz).symm;erw[⟨n,by rw[X7 n]at hz;erw[hz]⟩]
  have⟨pl,H,_⟩:=Z.pls;have sm:SameM M M3:=λa o ea=>by
   have n:a≠b:=neM ea P;erw[fr a o ((X7 n).trans ea) (by simpa using n)]
  try walk_at "s"
  erw[⟨sm,[b,p,g,u],rfl,⟨?_,?_⟩,b,p,g,u,rfl,λf' hf'=>by rw[C]at hf';cases hf';erw[Z]⟩]
  .simp only[Yf,Xk,XN,or_false,not_or,not_false_eq_true,Wx,and_true];erw[⟨⟨(D p hp).1.symm,(D g A).1.symm,(D u hu).1.symm⟩,⟨YJ H Z.gi (by intro z;cases z),YJ H Z.ta (by intro z;cases z)⟩,Z.ne⟩]
  .simp only[AY];erw[⟨⟨P,_,Z.fe⟩,⟨(D _ hp).2,_,H⟩,⟨(D _ A).2,_,Z.gi⟩,⟨(D _ hu).2,_,Z.ta⟩,λ_ h=>by cases h⟩]
 have oN:∀M,Lays ([("Ferry___init__",Uv)]:List (Str×SpM)) [wc (.ref r),wc W.mv] _ (dNum W.ins) M:=fun M=>CG (x:=1) F G rfl rfl fun j u _=>FB j _;have oW:∀M,Lays ([("Ferry___init__",Uv)]:List (Str×SpM)) [wc (.ref r),wc W.mv] _ (dWds W) M:=fun M=>CG (x:=1) F G rfl rfl (QW G);have oL:∀M,Lays ([("Ferry___init__",Uv)]:List (Str×SpM)) [wc (.ref r),wc W.mv] _ (dLst W) M:=fun M=>CH (x:=1) F G rfl rfl fun j u _=>QX j _;delta Mh
 simp![hr,putM]
 delta Mg
 simp![X9,putM]
 show wSs _ (mkF [⟨"next_numbers",_,dNum W.ins⟩,⟨"words_now",_,dWds W⟩,⟨"steps_so_far",_,dNum W.ins⟩,⟨"boats",_,dBts W⟩,⟨"given_so_far",_,dLst W⟩,⟨"taken_so_far",_,dLst W⟩]) _ _ _;erw[flds _ ?_ X9 ?_ (show 8<1000 by decide) ?_]
 .simp only[AY];erw[⟨oN,oW,oN,oB,oL,oL,λ_ h=>by cases h⟩]
 .show(["world","moment","next_numbers","words_now","steps_so_far","boats","given_so_far","taken_so_far"]:List Str).Nodup;decide
 rintro pn nn pw v ps ns pb R pg U pt Y J fr r' nd new ⟨g1,g2,g3,g4,g5,g6,_⟩;have⟨e1,n1⟩:=g1.num (y:=W.isl) ins_len.symm;have⟨e3,n3⟩:=g3.num (y:=W.isl) ins_len.symm;have w:∀{L:List (List Addr)} {j:Nat} {N} {a:Addr},L[j]?=wc N->a∈N->a∈L.flatten:=λh O=>VE.mpr ⟨_,Xb h,O⟩;have bl:R.length=W.fer.length:=g4.l.trans fns_len;have gl:U.length=W.fer.length:=g5.l.trans fns_len;have tl:Y.length=W.fer.length:=g6.l.trans fns_len;have wl:v.length=W.isl.length:=g2.l.trans ins_len;have back:∀{a x y},updM (updM M r x) r y a=we->M a=we:=fun{a x y} h=>by
  by_cases z:a=r
  .rw[z,X9]at h;cases h
  .rwa [X7 z,X7 z]at h
 replace new:=λa O=>back (new a O);have e2:v.flatten=v.map hd:=Fz λj N h=>by
  have⟨p,_,e,_⟩:=g2.c j N h;erw[⟨p,e⟩]
 rw[e2,e1,e3]at nd new;simp only[Yr,YR,YS,Yf,Xk,Ye,not_or,Yy]at nd new;have⟨q1,q2,wn,⟨q3,q4,bn,⟨q5,gn,⟨q6,tn⟩,gd⟩,bd⟩,wd⟩:=nd;have gD:∀{L:List (List Addr)} {j:Nat} {N},L[j]?=wc N->L.getD j []=N:=λh=>by rw[Y6,h];rfl
 have at_:∀{j:Nat} {f},W.fer[j]?=wc f->∃b p g u x y,R[j]?=wc [b,p,g,u]/\U[j]?=wc [x]/\Y[j]?=wc [y]/\FyAt J b p g u (ab0 f.k f.st)/\J x=wc (.lst [])/\J y=wc (.lst [])/\Uy W R U Y j=⟨b,p,g,u,x,y,ab0 f.k f.st⟩:=fun{j f} C=>by
  have S:=(Xo.mp C).1;have P:=X6 (show j<R.length by lia)
  have A:=X6 (show j<U.length by lia)
  have X:=X6 (show j<Y.length by lia)
  have⟨b,p,g,u,e,Z⟩:=g4.c j _ P;have⟨x,_,e',s,rfl⟩:=g5.c j _ A;have⟨y,_,e'',hy,rfl⟩:=g6.c j _ X;rw[e]at P;rw[e']at A;rw[e'']at X;erw[ex6 b p g u x y ⟨P,A,X,Z f C,s,hy,?_⟩];unfold Uy abOf;rw[gD P,gD A,gD X,C];rfl
 have bg:∀{a},a∈R.flatten->a∉U.flatten:=λh z=>bd _ h _ (.inr (.inl z)) rfl;have bt:∀{a},a∈R.flatten->a∉Y.flatten:=λh z=>bd _ h _ (.inr (.inr (.inr z))) rfl;have gt:∀{a},a∈U.flatten->a∉Y.flatten:=λh z=>gd _ h _ (.inr z) rfl;have bat:∀{j:Nat} {x},((Xq W.fer.length).map (Uy W R U Y))[j]?=wc x->j<W.fer.length/\x=Uy W R U Y j:=fun{j x} h=>by
  have S:=(Xo.mp h).1;rw[X5,UF]at S;rw[Xe,VC S]at h;erw[⟨S,(Y2 h).symm⟩]
 have ads:∀{j:Nat} {x:Boat} {a},((Xq W.fer.length).map (Uy W R U Y))[j]?=wc x->a∈x.ads->(∃N,R[j]?=wc N/\a∈N)\/(∃N,U[j]?=wc N/\a∈N)\/∃N,Y[j]?=wc N/\a∈N:=fun{j x a} h O=>by
  have⟨S,rfl⟩:=bat h;erw[ee6 (at_ (X6 S)) λb p g u x y h=>?_];have⟨P,A,X,_,_,_,e⟩:=h;rw[e]at O;simp only[Boat.ads,Xk,XN,or_false]at O;rcases O with c|c|c|c|c|c
  .erw[.inl ⟨_,P,by simp[c]⟩]
  .erw[.inl ⟨_,P,by simp[c]⟩]
  .erw[.inl ⟨_,P,by simp[c]⟩]
  .erw[.inl ⟨_,P,by simp[c]⟩]
  .erw[.inr (.inl ⟨_,A,by simp[c]⟩)]
  .erw[.inr (.inr ⟨_,X,by simp[c]⟩)]
 have eb:∀{L:List (List Addr)},L.length=W.fer.length->(Xq W.fer.length).map (λj=>MV.ref (hd (L.getD j [])))=L.map λN=>MV.ref (hd N):=λh=>HF (d:=[]) (f:=λN=>MV.ref (hd N)) h;have wat:∀(i:Nat)I a,W.isl[i]?=wc I->(v.map hd)[i]?=wc a->J a=wc (.dic (wd0 I)):=λi I a hI O=>by
  rw[Xe]at O;have⟨N,l,rfl⟩:=VO.mp O;have⟨p,o,rfl,h,c⟩:=g2.c i N l;rw[c I hI]at h;erw[h]
 erw[q ⟨0,W.isl.map λ_=>0,v.map hd,W.isl.map λ_=>0,(Xq W.fer.length).map (Uy W R U Y),pn,pw,ps,pb,pg,pt⟩ J ((((FrM.refl M [r]).upd (Y1.mpr rfl) _).upd (Y1.mpr rfl) _).trans fr) ⟨r',?_,?_,?_,?_,?_,?_,by rw[X5],by rw[X5];erw[wl],by rw[X5],by rw[X5,UF],λi I m hI hm=>?_,λi I a hI O=>⟨_,wat i I a hI O,(FA (G.io I (Xb hI)).nd (G.io I (Xb hI)).wd).2⟩,λj f x C s=>?_,λi j x y D s hy a O P=>?_,?_⟩ rfl (λj f y C hy=>?_) (λa O=>?_) rfl rfl wat]
 .erw[n1]
 .show J pw=wc (.dic (zipK W.ins ((v.map hd).map MV.ref)));rw[Y9];erw[g2.di]
 .erw[n3]
 .show J pb=wc (.dic (zipK W.fns (((Xq W.fer.length).map (Uy W R U Y)).map (λx=>MV.ref x.b))));rw[Y9];erw[eb bl▸g4.di]
 .show J pg=wc (.dic (zipK W.fns (((Xq W.fer.length).map (Uy W R U Y)).map (λx=>MV.ref x.gl))));rw[Y9];erw[eb gl▸g5.di]
 .show J pt=wc (.dic (zipK W.fns (((Xq W.fer.length).map (Uy W R U Y)).map (λx=>MV.ref x.tl))));rw[Y9];erw[eb tl▸g6.di]
 .have hm:(W.isl.map λ_=>0)[i]?=wc m:=hm;rw[Xe,hI]at hm;cases hm;erw[Yg _]
 .have⟨_,rfl⟩:=bat s;erw[ee6 (at_ C) λb p g u x y h=>?_];have⟨P,A,X,Z,h1,h2,e⟩:=h;have pm:p∈R.flatten:=w P (by simp)
  have xm:x∈U.flatten:=w A (by simp)
  have ym:y∈Y.flatten:=w X (by simp)
  rw[e];erw[⟨Z,h1,h2,⟨λz:x=y=>gt xm (z▸ym),λz:x=p=>bg pm (z▸xm),λz:y=p=>bt pm (z▸ym)⟩,rfl,(by decide:(-1:Int)<0),(by decide:(-1:Int)<0),λz hz=>by cases hz⟩]
 .rcases ads s O with⟨N,l,c⟩|⟨N,l,c⟩|⟨N,l,c⟩<;>rcases ads hy P with⟨K,B,d⟩|⟨K,B,d⟩|⟨K,B,d⟩
  .erw[CP bn l B D a c d]
  .erw[bg (w l c) (w B d)]
  .erw[bt (w l c) (w B d)]
  .erw[bg (w B d) (w l c)]
  .erw[CP gn l B D a c d]
  .erw[gt (w l c) (w B d)]
  .erw[bt (w B d) (w l c)]
  .erw[gt (w B d) (w l c)]
  .erw[CP tn l B D a c d]
 .show(pn::pw::ps::pb::pg::pt::v.map hd).Nodup;simp only[Yf,Xk,not_or];erw[⟨⟨q1.1,q1.2.2.1,q1.2.2.2.1,q1.2.2.2.2.2.1,q1.2.2.2.2.2.2.2.1,q1.2.1⟩,⟨q2.2.1,q2.2.2.1,q2.2.2.2.2.1,q2.2.2.2.2.2.2.1,q2.1⟩,⟨q3.1,q3.2.2.1,q3.2.2.2.2.1,λz=>wd _ z _ (.inl rfl) rfl⟩,⟨q4.2.1,q4.2.2.2.1,λz=>wd _ z _ (.inr (.inl rfl)) rfl⟩,⟨q5.2.1,λz=>wd _ z _ (.inr (.inr (.inr (.inl rfl)))) rfl⟩,λz=>wd _ z _ (.inr (.inr (.inr (.inr (.inr (.inl rfl)))))) rfl,wn⟩]
 .have⟨_,rfl⟩:=bat hy;erw[ee6 (at_ C) λ_ _ _ _ _ _ h=>?_];have⟨_,_,_,_,_,_,e⟩:=h;rw[e]
 .simp only[RunS.all,RunS.own,Ye,Xk,Vb]at O;erw[Decidable.or_iff_not_imp_left.mpr λar=>new a ?_];rcases O with(c|c|c|c|⟨x,s,c⟩)|c|c|c|c
  .erw[(ar c).elim]
  .erw[.inl c]
  .erw[.inr (.inl c)]
  .erw[.inr (.inr (.inr (.inl c)))]
  .have⟨j,S⟩:=ZS s;rcases ads S c with⟨N,l,d⟩|⟨N,l,d⟩|⟨N,l,d⟩
   .erw[.inr (.inr (.inr (.inr (.inr (.inl (w l d))))))]
   .erw[.inr (.inr (.inr (.inr (.inr (.inr (.inr (.inl (w l d))))))))]
   .erw[.inr (.inr (.inr (.inr (.inr (.inr (.inr (.inr (.inr (w l d)))))))))]
  .erw[.inr (.inr (.inr (.inr (.inl c))))]
  .erw[.inr (.inr (.inr (.inr (.inr (.inr (.inl c))))))]
  .erw[.inr (.inr (.inr (.inr (.inr (.inr (.inr (.inr (.inl c))))))))]
  .erw[.inr (.inr (.inl c))]
abbrev CQ:SpM:=λj M Q=>∃(r:Addr) (W:Wld) (R:RunS) (l:Nat->Int) (i n:Nat) (I:Isl),j=[.ref r,.str I.name]/\W.Good/\RunAt M W r R l/\W.isl[i]?=wc I/\R.nums[i]?=wc n/\Q (.int n) M
def _7t:MonW CQ:=by walk_at "m"
def _ci(T:Txt E):FM E 3 "Run" "number" CQ:=by
 erw[T.cj.ok T.aa T.ab 2 ["self","name"] (fC T (fc (CK T) f0)) MQ (fun w M Q h=>?_)];have⟨r,W,R,y,i,n,I,rfl,G,h,j,l,q⟩:=h;erw[⟨rfl,?_⟩];show wSs _ _ _ [wc (.ref r),wc (.str I.name)] M;have u:=h.ob;delta MQ
 simp![u,runO,valM]
 erw[ex4 _ _ _ _ ⟨rfl,h.hn,h.nml G j l,?_⟩];erw[q]
abbrev CS:SpM:=λl M Q=>∃(r:Addr) (W:Wld) (R:RunS) (u:Nat->Int) (i:Nat) (I:Isl) (a:Addr) (j:List (Key×MV)),l=[.ref r,.str I.name]/\W.Good/\RunAt M W r R u/\W.isl[i]?=wc I/\R.ws[i]?=wc a/\M a=wc (.dic j)/\∀p,M p=we->Q (.ref p) (updM M p (.dic j))
def _90:MonW CS:=by walk_at "m"
def _dg(T:Txt E):FM E 3 "Run" "words" CS:=by
 erw[T.c8.ok T.aa T.ab 2 ["self","name"] (fC T (fc (CK T) f0)) MR (fun z M Q h=>?_)];have⟨r,W,R,m,i,I,a,j,rfl,G,h,l,u,w,q⟩:=h;erw[⟨rfl,?_⟩];show wSs _ _ _ [wc (.ref r),wc (.str I.name)] M;have y:=h.ob;delta MR
 simp![y,runO,valM]
 erw[ex4 _ _ _ _ ⟨rfl,h.hw,h.wdl G l u,?_⟩]
 simp![w]
 erw[q]
def RunAt.own_some{M:MH}{W:Wld}{r:Addr}{R:RunS}{y:Nat->Int}(h:RunAt M W r R y):∀a∈R.own r,∃o,M a=wc o:=λb l=>by
 simp only[RunS.own,Xk,Vb]at l;rcases l with rfl|rfl|rfl|rfl|⟨x,z,l⟩
 .erw[⟨_,h.ob⟩]
 .erw[⟨_,h.hn⟩]
 .erw[⟨_,h.hw⟩]
 .erw[⟨_,h.hs⟩]
 .have⟨j,w,rfl⟩:=Yq z;have⟨u,e,_⟩:=(h.ba j _ _ (X6 (by rw[<-h.bl];erw[w])) (X6 w)).at_ b l
  erw[⟨u,e⟩]
noncomputable abbrev rgM(x:Str×Nat):MV:=.tup [.str x.1,.int x.2]
abbrev AF:SpM:=λg M Q=>∃(y z:Addr) (l:List Int) (m:List MV) (j:List Isl),g=[.ref y,.ref z]/\M y=wc (.lst (l.map MV.int))/\l.length<=80/\M z=wc (.lst m)/\IslsIn M j m/\1<=j.length/\j.length<=5/\
 ∀p (u:List (Str×Nat))w,SameM M w->M p=we->w p=wc (.lst (u.map rgM))->u.length=l.length->(∀x∈u,∃I∈j,x.1=I.name)->Q (.ref p) w
def Ri:MonW AF:=by walk_at "m"
def _cg(T:Txt E):FO E 1 "_law_rings" AF:=by
 erw[T.bo.ok T.g Ri 2 ["cells","islands","rings","cell"] (fC T f0) Ox (fun vs M Q h=>?_)];have⟨B,C,N,m,O,rfl,D,cl,X,F,i1,i5,q⟩:=h;erw[⟨rfl,?_⟩];show wSs _ _ _ [wc (.ref B),wc (.ref C),we,we] M;have yl:=F.1;delta Ox;simp!;intro p P;have G:=SameM.new P (.lst []);have R:updM M p (.lst []) p=wc (.lst []):=X9;generalize updM M p _=M1 at*;have U:=G _ _ D;delta Ow
 simp![U]
 obtain⟨J,d⟩:∃J:Nat->Sm->MH->Prop,∀j f u,J j f u↔∃(w:List (Str×Nat)) (v:Option MV),SameM M u/\u p=wc (.lst (w.map rgM))/\w.length=j/\(∀x∈w,∃I∈O,x.1=I.name)/\f=[wc (.ref B),wc (.ref C),wc (.ref p),v]:=⟨_,λ_ _ _=>XX⟩;erw[⟨J,(d _ _ _).mpr ⟨[],_,G,R,rfl,(λx h=>nomatch h),rfl⟩,λj f u h=>?_,?_,?_⟩]
 .have⟨_,_,s,_⟩:=(d _ _ _).mp h;erw[s _ _ D]
 .rintro j y f u H h;have⟨w,v,s,l,W,Y,rfl⟩:=(d _ _ _).mp h;have⟨S,rfl⟩:=Yj (show(N.map MV.int)[j]?=wc y from H);generalize N[j]=x at*;have r:=s _ _ X;have Z:=F.keep s;delta Ov
  simp![l,r]
  have o:=Z9 x (show(m.length:Int)≠0 by lia)
  have i:=ZW x (show(0:Int)<(m.length:Int) by lia)
  obtain⟨k,n⟩:∃k:Nat,x%(m.length:Int)=(k:Int):=⟨_,(ZV o).symm⟩;rw[n]at i ⊢;have e:k<m.length:=by lia
  have L:k<O.length:=by lia
  have⟨a,b,ey,_⟩:=Z.2 k _ _ (X6 L) (X6 e);erw[⟨⟨_,rfl⟩,by lia,_,Yn (X6 e),?_⟩]
  rw[ey]
  simp![r,l]
  have c0:=Z9 (x/(m.length:Int)) (show(1000000000000000000000000000000:Int)≠0 by decide)
  obtain⟨c,A⟩:∃c:Nat,x/(m.length:Int)%1000000000000000000000000000000=(c:Int):=⟨_,(ZV c0).symm⟩;rw[A];have S:j<N.length:=S;erw[⟨⟨by lia,by lia⟩,by rw[X5];lia,(d _ _ _).mpr ⟨w++[(O[k].name,c)],_,s.upd P _,by rw[X9,XI];rfl,by rw[XR,W];rfl,(λz g=>?_),rfl⟩⟩]
  rcases Ye.mp g with g|g
  .erw[Y z g]
  .rw[Y1]at g;subst g;erw[⟨_,XS L,rfl⟩]
 .rintro f u h;have⟨w,v,s,l,W,Y,rfl⟩:=(d _ _ _).mp h;delta Ou;simp!;erw[q p w u s P l (W.trans (X5 _)) Y]
structure Sk where
 a:Nat
 kv:List (Key×MV)
 c:Str->Nat
def Sk.first(I:Isl):Sk:=⟨0,zipK I.vars ((I.prs.map (·.2)).map MV.int),λ_=>0⟩
def Sk.go(w:Nat)(S:Sk)(s:Stp)(j:MV):Sk:=⟨(XZ s (rhoK S.kv) w S.a).toNat,YD s S.kv (rhoK S.kv) w j,λz=>if Xs (wc s) z=wf then S.c z+1 else S.c z⟩
inductive Kn (W:Wld):Nat->Nat->Sk->Prop
 |init {i:Nat} {I:Isl}:W.isl[i]?=some I->Kn W i 0 (Sk.first I)
 |own {i n:Nat} {S:Sk} {I:Isl} {s:Stp}:Kn W i n S->W.isl[i]?=some I->I.stps[S.a]?=some s->(∀f x,s≠.take f x)->Kn W i (n+1) (S.go W.w s .non)
 |take {i n:Nat} {S:Sk} {I:Isl} {f x:Str} {g m:Nat} {S':Sk} {I':Isl} {T:Tm}:Kn W i n S->W.isl[i]?=some I->I.stps[S.a]?=some (.take f x)->Kn W g m S'->W.isl[g]?=some I'->I'.stps[S'.a]?=some (.give f T)->S'.c f=S.c f->Kn W i (n+1) (S.go W.w (.take f x) (.int (T.val (rhoK S'.kv) W.w)))
section
variable{W:Wld}
def go_c{w:Nat}{S:Sk}{s:Stp}{j:MV}(z:Str):S.c z<=(S.go w s j).c z/\(Xs (wc s) z=wf->S.c z<(S.go w s j).c z):=by
 show _<=(if _ then _ else _)/\(_->_<if _ then _ else _);split
 .erw[⟨YT _,λ_=>ZC _⟩]
 .erw[⟨Xa _,λe=>absurd e (by assumption)⟩]
def FF(W:Wld)(i n:Nat)(S:Sk):Prop:=∀l,l<=n->∃j,Kn W i l j/\(∀z,j.c z<=S.c z)/\(l<n->∀(I:Isl)(s:Stp)z,W.isl[i]?=wc I->I.stps[j.a]?=wc s->Xs (wc s) z=wf->j.c z<S.c z)
def Rj{i n:Nat}{S:Sk}{I:Isl}{s:Stp}{u:MV}(h:Kn W i n S)(w:FF W i n S)(y:W.isl[i]?=wc I)(m:I.stps[S.a]?=wc s)(g:Kn W i (n+1) (S.go W.w s u)):FF W i (n+1) (S.go W.w s u):=λj q=>by
 rcases Nat.lt_trichotomy j n with l|rfl|l
 .have⟨d,k,c,f⟩:=w j (ZF l);erw[⟨d,k,λz=>Xy (c z) (go_c z).1,λ_ I s z a b e=>Yz (f l I s z a b e) (go_c z).1⟩]
 .erw[⟨S,h,λz=>(go_c z).1,λ_ r p z a b e=>?_⟩];rw[y]at a;cases a;rw[m]at b;cases b;erw[(go_c z).2 e]
 .obtain rfl:j=n+1:=by lia
  erw[⟨_,g,λz=>Xa _,λl=>absurd l (ZE _)⟩]
def Kn.pre{i n:Nat}{S:Sk}(h:Kn W i n S):FF W i n S:=by
 induction h with
 |init j=>erw[λq m=>⟨_,Nat.le_zero.mp m▸.init j,λz=>Xa _,λl=>by lia⟩]
 |own h j u d w=>erw[Rj h w j u (.own h j u d)]
 |take h j u g c y f w r=>erw[Rj h w j u (.take h j u g c y f)]
def Kn.inv0{i:Nat}{S:Sk}(h:Kn W i 0 S):∃I,W.isl[i]?=wc I/\S=.first I:=by
 cases h with
 |init j=>erw[⟨_,j,rfl⟩]
def Kn.inv{i n:Nat}{y:Sk}(h:Kn W i (n+1) y):∃S I s wd,Kn W i n S/\W.isl[i]?=wc I/\I.stps[S.a]?=wc s/\y=S.go W.w s wd/\((∀f x,s≠.take f x)/\wd=.non\/∃f x g m j z T,s=.take f x/\Kn W g m j/\W.isl[g]?=wc z/\z.stps[j.a]?=wc (.give f T)/\j.c f=S.c f/\wd=.int (T.val (rhoK j.kv) W.w)):=by
 cases h with
 |own h l u d=>erw[⟨_,_,_,_,h,l,u,rfl,.inl ⟨d,rfl⟩⟩]
 |take h l u g c w q=>erw[⟨_,_,_,_,h,l,u,rfl,.inr ⟨_,_,_,_,_,_,_,rfl,g,c,w,q,rfl⟩⟩]
def Uq(W:Wld)(i n:Nat):Prop:=∀S j,Kn W i n S->Kn W i n j->S=j
def FG(G:W.Good){i j:Nat}{I J:Isl}(l:W.isl[i]?=wc I)(u:W.isl[j]?=wc J)(e:I.name=J.name):i=j:=
 (UG (by rw[ins_len];erw[(Xo.mp l).1]) G.in_nd).mp ((Y4 l).trans ((Y4 u).trans (by rw[e])).symm)
def giv(G:W.Good){f:Str}{g m O z:Nat}{S d:Sk}{I q:Isl}{T r:Tm}(h:Kn W g m S)(y:W.isl[g]?=wc I)(p:I.stps[S.a]?=wc (.give f T))(e:Kn W O z d)(j:W.isl[O]?=wc q)(w:q.stps[d.a]?=wc (.give f r))(C:S.c f=d.c f)(u:∀n,n<=m->Uq W g n):S=d/\T=r:=by
 have P:=Xb y;have L:=Xb j;have R:=Xb p;have⟨x,U,rfl⟩:=XA.mp ((G.io I P).st _ R).1;have Y:=G.en I P _ R x U rfl;have Z:=G.en q L _ (Xb w) x U rfl;obtain rfl:=FG G y j (Y.symm.trans Z);rw[y]at j;cases j;have A:Xs (wc (.give x.name T)) x.name=wf:=decide_eq_true rfl;have N:Xs (wc (.give x.name r)) x.name=wf:=decide_eq_true rfl;rcases Nat.lt_trichotomy m z with l|rfl|l
 .have⟨B,k,_,c⟩:=e.pre m (ZF l);obtain rfl:=u m (Xa _) _ _ h k;have:=c l _ _ _ y p A;lia
 .obtain rfl:=u m (Xa _) _ _ h e;rw[p]at w;cases w;erw[⟨rfl,rfl⟩]
 .have⟨B,k,_,c⟩:=h.pre z (ZF l);obtain rfl:=u z (ZF l) _ _ e k;have:=c l _ _ _ y w N;lia
def Kn.uni(G:W.Good){i n:Nat}{S:Sk}(h:Kn W i n S):∀w,w<=n->Uq W i w:=by
 induction h with
 |init d=>
  intro w y A B a b;obtain rfl:=Nat.le_zero.mp y;have⟨p,u,rfl⟩:=a.inv0;have⟨Z,j,rfl⟩:=b.inv0;rw[u]at j;cases j
  rfl
 |own h d c L m=>
  intro w y;rcases Nat.lt_or_eq_of_le y with l|rfl
  .erw[m w (WC l)]
  have one:∀A,Kn W _ (_+1) A->A=_:=λA a=>by
   have⟨N,p,O,P,k,u,j,rfl,z⟩:=a.inv;obtain rfl:=m _ (Xa _) _ _ h k;rw[d]at u;cases u;rw[c]at j;cases j;rcases z with⟨_,rfl⟩|⟨f,x,_,_,_,_,_,e,_⟩
   .erw[rfl]
   .erw[absurd e (L f x)]
  erw[λA B a b=>(one A a).trans (one B b).symm]
 |take h d c g R q T m U=>
  intro w y;rcases Nat.lt_or_eq_of_le y with l|rfl
  .erw[m w (WC l)]
  have one:∀A,Kn W _ (_+1) A->A=_:=λA a=>by
   have⟨N,p,O,P,k,u,j,rfl,z⟩:=a.inv;obtain rfl:=m _ (Xa _) _ _ h k;rw[d]at u;cases u;rw[c]at j;cases j;rcases z with⟨z,_⟩|⟨f,x,C,D,F,I,J,e,Y,u,j,r,rfl⟩
   .erw[absurd rfl (z _ _)]
   .cases e;have⟨rfl,rfl⟩:=giv G g R q Y u j (T.trans r.symm) U;erw[rfl]
  erw[λA B a b=>(one A a).trans (one B b).symm]
def Gv(W:Wld)(f:Str)(k v:Nat):Prop:=∃g m S I T,Kn W g m S/\W.isl[g]?=wc I/\I.stps[S.a]?=wc (.give f T)/\S.c f=k/\T.val (rhoK S.kv) W.w=(v:Int)
end
structure KnAt (W:Wld)(M:MH)(R:RunS):Prop where
 st:∀(i:Nat)I a n d,W.isl[i]?=wc I->R.ws[i]?=wc a->R.nums[i]?=wc n->R.dn[i]?=wc d->∃kv c,M a=wc (.dic kv)/\Kn W i d ⟨n,kv,c⟩/\∀(j:Nat)f x,W.fer[j]?=wc f->R.bs[j]?=wc x->(f.giver=I.name->c f.name=x.A.ws.length)/\(f.taker=I.name->c f.name=x.A.tn)
 gv:∀(j:Nat)f x (k:Nat)v,W.fer[j]?=wc f->R.bs[j]?=wc x->x.A.ws[k]?=wc v->Gv W f.name k v
def RunS.in_own{R:RunS}{r a:Addr}(h:a∈R.own r):a∈R.all r:=AZ _ h
def KnAt.move{W:Wld}{M M':MH}{R:RunS}(h:KnAt W M R)(s:∀a∈R.ws,∀o,M a=wc o->M' a=wc o):KnAt W M' R:=
 ⟨λi I a n d l j u hd=>by have⟨w,c,e,k⟩:=h.st i I a n d l j u hd;erw[⟨w,c,s _ (Xb j) _ e,k⟩],h.gv⟩
def KnAt.first{W:Wld}{M:MH}{R:RunS}(c:R.nums=W.isl.map λ_=>0)(q:R.dn=W.isl.map λ_=>0)(hw:∀(i:Nat)I a,W.isl[i]?=wc I->R.ws[i]?=wc a->M a=wc (.dic (zipK I.vars ((I.prs.map (·.2)).map MV.int))))(z:∀(j:Nat)f y,W.fer[j]?=wc f->R.bs[j]?=wc y->y.A=ab0 f.k f.st):KnAt W M R:=by
 erw[⟨λi I a n d l r m hd=>?_,λj f x k v u w g=>?_⟩]
 .rw[c,Xe,l]at m;rw[q,Xe,l]at hd;cases m;cases hd;erw[⟨_,λ_=>0,hw i I a l r,.init l,λj f x u w=>by rw[z j f x u w];erw[⟨λ_=>rfl,λ_=>rfl⟩]⟩]
 .rw[z j f x u w]at g;cases g
noncomputable def tlen:MV->Nat
 |.tup xs=>xs.length
 |_=>0
def CT{w:Nat}{f:Fer}{z:Str}{o:Option Stp}{j:Str->Int}{A:Ab}(h:hitA w f z o j A=wf)(c:f.giver=z):∃T,o=wc (.give f.name T)/\A.gives (U6 w f o j)=wf/\U6 w f o j=wc (T.val j w).toNat:=by
 rw[hitA,if_pos c]at h;have l:(U6 w f o j).isSome=wf:=((XU _ _).mp h).1;rcases o with _|s
 .cases l
 .cases s with
  |give g T=>
   by_cases e:g=f.name
   .subst e;erw[⟨T,rfl,h,if_pos rfl⟩]
   .rw[show U6 w f (wc (.give g T)) j=we from if_neg e]at l;cases l
  |take _ _=>cases l
  |put _ _=>cases l
  |jump _ _=>cases l
def V1{w:Nat}{f:Fer}{z:Str}{o:Option Stp}{j:Str->Int}{A:Ab}(h:hitA w f z o j A=wf):Xs o f.name=wf:=by
 by_cases c:f.giver=z
 .have⟨T,rfl,_⟩:=CT h c;erw[decide_eq_true rfl]
 .rw[hitA,if_neg c]at h;erw[((XU _ _).mp h).1]
def _jA{A:Ab}(ok:A.Ok){b:Bool}(h:A.takes b=wf):A.tn<A.ws.length:=by
 have j:=_r (j:=A.tx) (by rw[ok.tl];erw[ok.gl.1])
 have l:=ok.tb _ j;have u:=ok.lt1;have w:XF A.tx≠A.tn:=of_decide_eq_true ((XU _ _).mp h).2;lia
section
variable{w:Nat}{z:Str}{m:Int}{c:Nat}{o:Option Stp}{ρ:Str->Int}{k:Nat}{f:Fer}{A:Ab}
def FH(h:¬((z=f.giver\/z=f.taker)/\hitA w f z o ρ A=wf)):(newA w z m c o ρ k f A).ws=A.ws/\(newA w z m c o ρ k f A).tn=A.tn:=by
 unfold newA;by_cases e:z=f.giver\/z=f.taker
 .rw[if_pos e];have h:¬hitA w f z o ρ A=wf:=λy=>h ⟨e,y⟩;unfold Zu;by_cases g:f.giver=z
  .rw[hitA,if_pos g]at h;rw[if_pos g];erw[⟨if_neg h,rfl⟩]
  .rw[hitA,if_neg g]at h;rw[if_neg g];erw[⟨rfl,if_neg h⟩]
 .rw[if_neg e];erw[⟨rfl,rfl⟩]
def _mJ(g:f.giver=z)(h:hitA w f z o ρ A=wf):(newA w z m c o ρ k f A).ws=A.ws++[(U6 w f o ρ).getD 0]/\(newA w z m c o ρ k f A).tn=A.tn:=by
 unfold newA;rw[if_pos (.inl g.symm),Zu,if_pos g];rw[hitA,if_pos g]at h;erw[⟨if_pos h,rfl⟩]
def _mI(g:¬f.giver=z)(t:z=f.taker)(h:hitA w f z o ρ A=wf):(newA w z m c o ρ k f A).ws=A.ws/\(newA w z m c o ρ k f A).tn=A.tn+1:=by
 unfold newA;rw[if_pos (.inr t),Zu,if_neg g];rw[hitA,if_neg g]at h;erw[⟨rfl,if_pos h⟩]
end
def Rk{W:Wld}(G:W.Good){i j:Nat}{f g:Fer}(l:W.fer[i]?=wc f)(u:W.fer[j]?=wc g)(e:f.name=g.name):i=j:=
 (UG (by rw[fns_len];erw[(Xo.mp l).1]) G.fn_nd).mp ((U5 l).trans ((U5 u).trans (by rw[e])).symm)
def ZnO(W:Wld)(R:RunS)(bs:List Boat)(z:Str)(o:Option Stp):Prop:=∀(j:Nat)f l,W.fer[j]?=wc f->bs[j]?=wc l->∃x,R.bs[j]?=wc x/\(f.giver=z->l.A.ws.length=x.A.ws.length+if Xs o f.name=wf then 1 else 0)/\(f.taker=z->l.A.tn=x.A.tn+if Xs o f.name=wf then 1 else 0)/\(f.giver≠z->l.A.ws=x.A.ws)/\(f.taker≠z->l.A.tn=x.A.tn)/\∀(k:Nat)v,l.A.ws[k]?=wc v->x.A.ws[k]?=wc v\/Gv W f.name k v
section
variable{W:Wld}{M M':MH}{r:Addr}{R:RunS}{bs:List Boat}{i n n' d:Nat}{I:Isl}{p:Addr}{s:Stp}{wd:MV}{kvs:List (Key×MV)}{c:Str->Nat}
def KnAt.went(G:W.Good)(h:KnAt W M R)(B:∀(j:Nat)J b,W.isl[j]?=wc J->R.ws[j]?=wc b->∀u,M b=wc u->M' b=wc u)(U:W.isl[i]?=wc I)(to:ZnO W R bs I.name (wc s))(C:M' p=wc (.dic (YD s kvs (rhoK kvs) W.w wd)))(D:XZ s (rhoK kvs) W.w n=((n':Nat):Int))(Y:Kn W i (d+1) (Sk.go W.w ⟨n,kvs,c⟩ s wd))(hc:∀(j:Nat)f x,W.fer[j]?=wc f->R.bs[j]?=wc x->(f.giver=I.name->c f.name=x.A.ws.length)/\(f.taker=I.name->c f.name=x.A.tn)):KnAt W M' (goR {R with bs:=bs,m:=R.m+1} i n' p d):=by
 erw[⟨λj J a b e L y g q=>?_,λj f x k v w N F=>?_⟩]
 .have y:(R.ws.set i p)[j]?=wc a:=y;have g:(R.nums.set i n')[j]?=wc b:=g;have q:(R.dn.set i (d+1))[j]?=wc e:=q;by_cases ij:j=i
  .subst ij;rw[U]at L;cases L;have⟨_,rfl⟩:=(Yd y).resolve_right λz=>z.1 rfl;have⟨_,rfl⟩:=(Yd g).resolve_right λz=>z.1 rfl;have⟨_,rfl⟩:=(Yd q).resolve_right λz=>z.1 rfl;have Q:Sk.go W.w ⟨n,kvs,c⟩ s wd=⟨b,YD s kvs (rhoK kvs) W.w wd,λz=>if Xs (wc s) z=wf then c z+1 else c z⟩:=by
    unfold Sk.go;show(⟨(XZ s (rhoK kvs) W.w n).toNat,_,_⟩:Sk)=_;rw[D];rfl
   rw[Q]at Y;erw[⟨_,_,C,Y,λj f x w N=>?_⟩];have⟨O,l,S,X,_⟩:=to j f x w N;have⟨P,T⟩:=hc j f O w l;erw[⟨λz=>?_,λz=>?_⟩]
   .rw[S z,<-P z];show(if _ then _ else _)=_;split<;>rfl
   .rw[X z,<-T z];show(if _ then _ else _)=_;split<;>rfl
  .have⟨_,y⟩:=(Yd y).resolve_left λz=>ij z.1;have⟨_,g⟩:=(Yd g).resolve_left λz=>ij z.1;have⟨_,q⟩:=(Yd q).resolve_left λz=>ij z.1;have⟨H,o,e1,e2,e3⟩:=h.st j J a b e L y g q;erw[⟨H,o,B j J a L y _ e1,e2,λZ f x w N=>?_⟩];have⟨O,l,_,_,t3,t4,_⟩:=to Z f x w N;have⟨P,T⟩:=e3 Z f O w l;have A:J.name≠I.name:=λz=>ij (FG G L U z);erw[⟨λz=>by rw[t3 (by rw[z];erw[A])];erw[P z],λz=>by rw[t4 (by rw[z];erw[A])];erw[T z]⟩]
 .have⟨O,l,_,_,_,_,t5⟩:=to j f x w N;erw[(t5 k v F).elim (h.gv j f O k v w l) id]
def KnAt.stay(h:KnAt W M R)(T:∀(j:Nat)J b,W.isl[j]?=wc J->R.ws[j]?=wc b->∀u,M b=wc u->M' b=wc u)(to:∀(j:Nat)f y,W.fer[j]?=wc f->bs[j]?=wc y->∃x,R.bs[j]?=wc x/\y.A.ws=x.A.ws/\y.A.tn=x.A.tn):KnAt W M' {R with bs:=bs,m:=R.m+1}:=by
 erw[⟨λj J a b e L N U Y=>?_,λj f x k v w z O=>?_⟩]
 .have⟨Z,A,B,C,D⟩:=h.st j J a b e L N U Y;erw[⟨Z,A,T j J a L N _ B,C,λP f x w z=>?_⟩];have⟨g,l,q,F⟩:=to P f x w z;rw[q,F];erw[D P f g w l]
 .have⟨g,l,q,_⟩:=to j f x w z;rw[q]at O;erw[h.gv j f g k v w l O]
end
def CanR(W:Wld)(R:RunS):Stp->Prop
 |.take f _=>∃(j:Nat) (g:Fer) (b:Boat),W.fer[j]?=wc g/\R.bs[j]?=wc b/\g.name=f/\b.A.tn<b.A.ws.length
 |.give f _=>∃(j:Nat) (g:Fer) (b:Boat),W.fer[j]?=wc g/\R.bs[j]?=wc b/\g.name=f/\b.A.ws.length<b.A.tn+2^g.k
 |_=>True
def _ku{A:Ab}(ok:A.Ok){o:Option Nat}(h:A.gives o=wf):A.ws.length<A.tn+2^A.k:=by
 have j:=(ok.gb _ (_r (j:=A.gx) ok.gl.1)).1;have l:=ok.lg1;have u:A.ws.length<XF A.gx+2^A.k:=of_decide_eq_true ((XU _ _).mp h).2;lia
def KnAt.ring{W:Wld}{M M':MH}{r:Addr}{R R':RunS}{bs:List Boat}{i n m:Nat}{I:Isl}{a:Addr}{N:List (Key×MV)}{o:Option Stp}{v:MV}(G:W.Good)(hR:RunAt M W r R (λ_=>R.m))(h:KnAt W M R)(S:W.isl[i]?=wc I)(hn:R.nums[i]?=wc n)(ho:I.stps[n]?=o)(ha:R.ws[i]?=wc a)(hk:M a=wc (.dic N))(hbl:bs.length=W.fer.length)(k:Kept M M' r R R')(to:BsTo W R.bs bs I.name R.m m o (rhoK N) W.fer.length)(wt:WhatTo W R.bs I.name o (rhoK N) W.fer.length v)(go:GoTo W M M' r R R' bs i n N o v):KnAt W M' R'/\(R'.dn=R.dn/\(∀s,o=wc s->∃z,Xs o z=wf)/\(∀(j:Nat)f x,W.fer[j]?=wc f->R.bs[j]?=wc x->¬((I.name=f.giver\/I.name=f.taker)/\hitA W.w f I.name o (rhoK N) x.A=wf))\/∃s d,o=wc s/\R.dn[i]?=wc d/\R'.dn=R.dn.set i (d+1)/\CanR W R s):=by
 have im:=Xb S;have ms:∀(j:Nat)J b,W.isl[j]?=wc J->R.ws[j]?=wc b->∀u,M b=wc u->M' b=wc u:=λj J b hJ B u e=>k.fr _ _ e (hR.ws_off hJ B);have Y:∀(j:Nat)f Z,W.fer[j]?=wc f->bs[j]?=wc Z->∃x,R.bs[j]?=wc x/\Z.A=newA W.w I.name R.m m o (rhoK N) j f x.A:=λj f Z O C=>by
  have hj:=(Xo.mp O).1;obtain⟨x,q⟩:∃x,R.bs[j]?=wc x:=⟨_,X6 (by rw[hR.bl];erw[hj])⟩
  have⟨a',e1,e2⟩:=to j f _ hj O q;rw[C]at e1;cases e1;erw[⟨_,q,e2⟩]
 have P:(∀(j:Nat)f x,W.fer[j]?=wc f->R.bs[j]?=wc x->¬((I.name=f.giver\/I.name=f.taker)/\hitA W.w f I.name o (rhoK N) x.A=wf))->∀(j:Nat)f Z,W.fer[j]?=wc f->bs[j]?=wc Z->∃x,R.bs[j]?=wc x/\Z.A.ws=x.A.ws/\Z.A.tn=x.A.tn:=λnh j f Z O C=>by
  have⟨x,q,e⟩:=Y j f Z O C;rw[e];erw[⟨x,q,FH (nh j f x O q)⟩]
 rcases go with⟨rfl,D,hs⟩|⟨s,wd,n',p,d,es,rfl,hd,hl,hp,_,hc⟩
 .suffices nh:∀(j:Nat)f x,W.fer[j]?=wc f->R.bs[j]?=wc x->¬((I.name=f.giver\/I.name=f.taker)/\hitA W.w f I.name o (rhoK N) x.A=wf)from⟨h.stay ms (P nh),.inl ⟨rfl,hs,nh⟩⟩
  intro j f x O C z;rcases wt with⟨_,nh⟩|⟨k,g,b,_,⟨_,_,_,L⟩,ev⟩
  .erw[nh j f x (Xo.mp O).1 ⟨O,C,z⟩]
  .rw[Yw,if_pos L]at ev;have X:=congrArg tlen (D.symm.trans ev);by_cases cg:g.giver=I.name
   .have⟨T,rfl,_⟩:=CT L cg;rw[if_pos cg]at X;cases X
   .rw[if_neg cg]at X;have hw:=V1 L;rcases o with _|s
    .cases hw
    .cases s with
     |take _ _=>cases X
     |give _ _=>cases X
     |put _ _=>cases hw
     |jump _ _=>cases hw
 .subst es;have⟨kv0,c,e1,K,F⟩:=h.st i I a n d S ha hn hd;obtain rfl:N=kv0:=by rw[hk]at e1;cases e1;rfl
  have hE:=G.en I im s (Xb ho);rcases hc with⟨nw,D,rfl⟩|⟨f0,T,rfl,D,rfl⟩|⟨f0,x0,u,rfl,D,rfl⟩
  .erw[⟨h.went G ms S (λj f Z O C=>?_) hp hl (.own K S ho λf x e=>by subst e;erw[by have:=nw f;rw[show Xs (wc (Stp.take f x)) f=wf from decide_eq_true rfl]at this;cases this]) F,.inr ⟨s,d,rfl,hd,rfl,?_⟩⟩]
   rotate_left
   .cases s with
    |take f x=>erw[absurd (nw f) (by rw[show Xs (wc (Stp.take f x)) f=wf from decide_eq_true rfl];decide)]
    |give f x=>erw[absurd (nw f) (by rw[show Xs (wc (Stp.give f x)) f=wf from decide_eq_true rfl];decide)]
    |put _ _=>trivial
    |jump _ _=>trivial
   have⟨x,q,t1,t2⟩:=P (λj f x O C z=>absurd (V1 z.2) (by rw[nw f.name];decide)) j f Z O C
   rw[t1,t2,if_neg (by rw[nw f.name];decide)]
   erw[⟨x,q,λ_=>rfl,λ_=>rfl,λ_=>rfl,λ_=>rfl,λ_ _=>.inl⟩]
  .rcases wt with⟨e,_⟩|⟨k,g,b,_,⟨U,B,_,L⟩,ev⟩
   .have X:=congrArg tlen (D.symm.trans e);cases X
   .have gn:f0=g.name:=of_decide_eq_true (V1 L);subst gn;have Q:g.giver=I.name:=hE g (Xb U) rfl;have gt:g.taker≠I.name:=λz=>(G.fo g (Xb U)).ne (Q.trans z.symm);have tv:=T.val_in G.w1 λy hy=>by
     have⟨_,e5,wk⟩:=hR.wa i I a S ha;rw[hk]at e5;cases e5;erw[(wk.at (G.io I im).nd (((G.io I im).st _ (Xb ho)).2.2.2 y hy)).2]
    erw[⟨h.went G ms S (λj f Z O C=>?_) hp hl (.own K S ho λf x e=>nomatch e) F,.inr ⟨_,d,rfl,hd,rfl,k,g,b,U,B,rfl,?_⟩⟩]
    rotate_left
    .have⟨_,_,e,_⟩:=CT L Q;rw[<-(hR.ba k g b U B).k];erw[_ku (hR.ba k g b U B).fy.ok e]
    by_cases jk:j=k
    .subst jk;rw[U]at O;cases O;have⟨x,q,e⟩:=Y j g Z U C;rw[B]at q;cases q;have⟨H,n2⟩:=_mJ (m:=R.m) (c:=m) (k:=j) Q L;have⟨T',eT,_,eN⟩:=CT L Q;cases eT;rw[eN]at H;rw[e,H,n2,if_pos (V1 L)];erw[⟨b,B,λ_=>by rw[XR];rfl,λz=>absurd z gt,λz=>absurd Q z,λ_=>rfl,λk v D=>?_⟩]
     rcases Nat.lt_or_ge k b.A.ws.length with l|l
     .rw[Zv l]at D;erw[.inl D]
     .rw[Zi l]at D;have hk0:k - b.A.ws.length=0:=by
       have:=(Xo.mp D).1;simp only[UD]at this;lia
      rw[hk0]at D;cases D;erw[.inr ⟨i,d,_,I,T,K,S,ho,((F j g b U B).1 Q).trans (by lia),(ZV tv.1).symm⟩]
    .have nm:¬Xs (wc (Stp.give g.name T)) f.name=wf:=λz=>jk (Rk G O U (of_decide_eq_true z:g.name=f.name).symm);have⟨x,q,e⟩:=Y j f Z O C;have⟨H,n2⟩:=FH (w:=W.w) (z:=I.name) (m:=R.m) (c:=m) (o:=wc (.give g.name T)) (ρ:=rhoK N) (k:=j) (f:=f) (A:=x.A) λz=>nm (V1 z.2);rw[e,H,n2,if_neg nm];erw[⟨x,q,λ_=>rfl,λ_=>rfl,λ_=>rfl,λ_=>rfl,λ_ _=>.inl⟩]
  .rcases wt with⟨e,_⟩|⟨k,g,b,_,⟨U,B,gend,L⟩,ev⟩
   .have X:=congrArg tlen (D.symm.trans e);cases X
   .have gn:f0=g.name:=of_decide_eq_true (V1 L);subst gn;have Q:g.taker=I.name:=hE g (Xb U) rfl;have gt:¬g.giver=I.name:=λz=>(G.fo g (Xb U)).ne (z.trans Q.symm);have hlt:b.A.tn<b.A.ws.length:=by
     rw[hitA,if_neg gt]at L;erw[_jA (hR.ba k g b U B).fy.ok L]
    rw[Yw,if_pos L,if_neg gt]at ev;have eu:u=((b.A.ws[b.A.tn]:Nat):Int):=by
     have:=D.symm.trans ev;injection this with this;injection this with _ this;injection this with _ this;injection this with this _;injection this with this;rw[this,Y6,X6 hlt];rfl
    have⟨g',m',S',I',T',k1,k2,k3,k4,k5⟩:=h.gv k g b b.A.tn _ U B (X6 hlt);have K2:=Kn.take K S ho k1 k2 k3 (k4.trans ((F k g b U B).2 Q).symm);rw[k5,<-eu]at K2;erw[⟨h.went G ms S (λj f Z O C=>?_) hp hl K2 F,.inr ⟨_,d,rfl,hd,rfl,k,g,b,U,B,rfl,hlt⟩⟩];by_cases jk:j=k
    .subst jk;rw[U]at O;cases O;have⟨x,q,e⟩:=Y j g Z U C;rw[B]at q;cases q;have⟨H,n2⟩:=_mI (m:=R.m) (c:=m) (k:=j) gt Q.symm L;rw[e,H,n2,if_pos (V1 L)];erw[⟨b,B,λz=>absurd z gt,λ_=>rfl,λ_=>rfl,λz=>absurd Q z,λ_ _=>.inl⟩]
    .have nm:¬Xs (wc (Stp.take g.name x0)) f.name=wf:=λz=>jk (Rk G O U (of_decide_eq_true z:g.name=f.name).symm);have⟨x,q,e⟩:=Y j f Z O C;have⟨H,n2⟩:=FH (w:=W.w) (z:=I.name) (m:=R.m) (c:=m) (o:=wc (.take g.name x0)) (ρ:=rhoK N) (k:=j) (f:=f) (A:=x.A) λz=>nm (V1 z.2);rw[e,H,n2,if_neg nm];erw[⟨x,q,λ_=>rfl,λ_=>rfl,λ_=>rfl,λ_=>rfl,λ_ _=>.inl⟩]
def _b{W:Wld}(G:W.Good){j:Nat}{F:Fer}(u:W.fer[j]?=wc F):W.fat F.name=j:=by
 have l:W.fns[j]?=wc F.name:=by unfold Wld.fns;rw[Xe,u];rfl
 have:=(YL (Xb l)).1;erw[(UG (by have:=(YL (Xb l)).2;unfold Wld.fns;rw[X5];erw[this]) G.fn_nd).mp (this.trans l.symm)]
def Wp{j:Type}{l:List j}{i k:Nat}{v d:j}:(l.set i v).getD k d=if k=i/\i<l.length then v else l.getD k d:=by
 rw[Y6,Y6,V9];by_cases h:i=k
 .subst h;by_cases l':i<l.length
  .rw[if_pos rfl,if_pos l',if_pos ⟨rfl,l'⟩];rfl
  .rw[if_pos rfl,if_neg l',if_neg (λz=>l' z.2),Zj (by lia)]
 .rw[if_neg h,if_neg (λz=>h z.1.symm)]
def XQ(W:Wld)(S:Std)(k:Nat):Option Stp:=match W.isl[k]? with
 |wc I=>YM W S k I
 |we=>we
def CU(W:Wld)(S:Std)(i:Nat):(Xv W S (i+1)).1=match XQ W S i with|wc s=>Zs W S i s (Xv W S i).1|we=>(Xv W S i).1:=by
 show(YW W S i (Xv W S i)).1=_;unfold YW XQ;cases W.isl[i]? with
 |none=>rfl
 |some I=>
  dsimp only;cases YM W S i I with
  |none=>rfl
  |some s=>rfl
theorem FJ{W:Wld}{S:Std}{l:Type}{d:l}(j:Std->List l)(v:Nat->Stp->l)(h:∀i s B,j (Zs W S i s B)=(j B).set i (v i s))(w:∀i,(j (Xv W S i).1).length=W.isl.length)(k:Nat):∀i:Nat,i<=W.isl.length->(j (Xv W S i).1).getD k d=if k<i then(match XQ W S k with|wc s=>v k s|we=>(j S).getD k d)else(j S).getD k d
 |0,_=>by rw[if_neg (by lia)];rfl
 |i+1,hi=>by
  have u:=FJ (d:=d) j v h w k i (by lia)
  rw[CU];by_cases e:k=i
  .subst e;rw[if_pos (ZC k)];rw[if_neg (ZE k)]at u;cases XQ W S k with
   |none=>erw[u]
   |some s=>dsimp only;rw[h,Wp,if_pos ⟨rfl,by rw[w];lia⟩]
  .have y:(k<i+1)↔k<i:=by lia
   simp only[y];rw[<-u];cases XQ W S i with
   |none=>rfl
   |some s=>dsimp only;rw[h,Wp,if_neg (λz=>e z.1)]
def Vx{W:Wld}{S:Std}{i:Nat}{s:Stp}(h:XQ W S i=wc s):∃I,W.isl[i]?=wc I/\I.stps[S.num.getD i 0]?=wc s/\canM W S s=wf:=by
 unfold XQ at h;cases j:W.isl[i]? with
 |none=>rw[j]at h;cases h
 |some I=>
  rw[j]at h;have⟨a,b⟩:=CD h;erw[⟨I,rfl,a,b⟩]
def CV{W:Wld}{f j:Str}(h:f∈W.fns)(l:j∈W.fns)(e:W.fat f=W.fat j):f=j:=by
 have a:=(YL h).1;rw[e,(YL l).1]at a;erw[(Y2 a).symm]
def Wq(W:Wld)(S:Std)(j:Nat)(f:Str):List Int:=match XQ W S j with
 |wc (.give f' T)=>if f'=f then [T.val (rhoK (S.wd.getD j [])) W.w]else []
 |_=>[]
def AG(W:Wld)(S:Std)(j:Nat)(f:Str):Nat:=match XQ W S j with
 |wc (.take f' _)=>if f'=f then 1 else 0
 |_=>0
theorem Rm{W:Wld}(G:W.Good){c:Nat}{S:Std}(p:SOk W c S){j:Nat}{F:Fer}(y:W.fer[j]?=wc F){l:Nat} (q:W.ins[l]?=wc F.giver):∀i:Nat,i<=W.isl.length->(Xv W S i).1.giv.getD j []=if l<i then S.giv.getD j []++Wq W S l F.name else S.giv.getD j []
 |0,_=>by rw[if_neg (by lia)];rfl
 |i+1,hi=>by
  have w:=Rm G p y q i (by lia)
  have N:=(Vv G p i).1.gl;have O:=(Xo.mp y).1;have L:F.name∈W.fns:=XA.mpr ⟨F,Xb y,rfl⟩;rw[CU];by_cases e:l=i
  .subst e;rw[if_pos (ZC l)];rw[if_neg (ZE l)]at w;unfold Wq;cases hd:XQ W S l with
   |none=>dsimp only;rw[w,YS]
   |some s=>
    cases s with
    |give u T=>
     have⟨I,m,f,_⟩:=Vx hd;have r:u∈W.fns:=(_t G m f).1;dsimp only;show((Xv W S l).1.giv.set (W.fat u) _).getD j []=_;rw[Wp];by_cases g:u=F.name
     .subst g;rw[_b G y,if_pos ⟨rfl,by rw[N];erw[O]⟩,if_pos rfl,w]
     .rw[if_neg (λz=>g (CV r L (by rw[_b G y];erw[z.1.symm]))),if_neg g,w,YS]
    |take u x=>dsimp only;rw[YS];erw[w]
    |put x T=>dsimp only;rw[YS];erw[w]
    |jump T k=>dsimp only;rw[YS];erw[w]
  .have P:(l<i+1)↔l<i:=by lia
   have:(match XQ W S i with|wc s=>Zs W S i s (Xv W S i).1|we=>(Xv W S i).1).giv.getD j []=(Xv W S i).1.giv.getD j []:=by
    cases hd:XQ W S i with
    |none=>rfl
    |some s=>
     cases s with
     |give u T=>
      have⟨I,m,f,_⟩:=Vx hd;have r:u∈W.fns:=(_t G m f).1;dsimp only;show((Xv W S i).1.giv.set (W.fat u) _).getD j []=_;rw[Wp,if_neg λz=>?_];have g:u=F.name:=CV r L (by rw[_b G y];erw[z.1.symm])
      have R:F.giver=I.name:=G.en I (Xb m) _ (Xb f) F (Xb y) g.symm;have d:=Y4 m;rw[<-R]at d;erw[e ((UG (Xo.mp q).1 G.in_nd).mp (q.trans d.symm))]
     |take u x=>rfl
     |put x T=>rfl
     |jump T k=>rfl
   rw[this,w];simp only[P]
theorem Rn{W:Wld}(G:W.Good){c:Nat}{S:Std}(p:SOk W c S){j:Nat}{F:Fer}(w:W.fer[j]?=wc F){l:Nat} (q:W.ins[l]?=wc F.taker):∀i:Nat,i<=W.isl.length->(Xv W S i).1.tak.getD j 0=if l<i then S.tak.getD j 0+AG W S l F.name else S.tak.getD j 0
 |0,_=>by rw[if_neg (by lia)];rfl
 |i+1,hi=>by
  have y:=Rn G p w q i (by lia)
  have N:=(Vv G p i).1.tl;have O:=(Xo.mp w).1;have L:F.name∈W.fns:=XA.mpr ⟨F,Xb w,rfl⟩;rw[CU];by_cases e:l=i
  .subst e;rw[if_pos (ZC l)];rw[if_neg (ZE l)]at y;unfold AG;cases hd:XQ W S l with
   |none=>erw[y]
   |some s=>
    cases s with
    |take u x=>
     have⟨I,m,f,_⟩:=Vx hd;have r:u∈W.fns:=(_t G m f).1;dsimp only;show((Xv W S l).1.tak.set (W.fat u) _).getD j 0=_;rw[Wp];by_cases g:u=F.name
     .subst g;rw[_b G w,if_pos ⟨rfl,by rw[N];erw[O]⟩,if_pos rfl]
     .rw[if_neg (λz=>g (CV r L (by rw[_b G w];erw[z.1.symm]))),if_neg g,y];rfl
    |give u T=>erw[y]
    |put x T=>erw[y]
    |jump T k=>erw[y]
  .have P:(l<i+1)↔l<i:=by lia
   have:(match XQ W S i with|wc s=>Zs W S i s (Xv W S i).1|we=>(Xv W S i).1).tak.getD j 0=(Xv W S i).1.tak.getD j 0:=by
    cases hd:XQ W S i with
    |none=>rfl
    |some s=>
     cases s with
     |take u x=>
      have⟨I,m,f,_⟩:=Vx hd;have r:u∈W.fns:=(_t G m f).1;dsimp only;show((Xv W S i).1.tak.set (W.fat u) _).getD j 0=_;rw[Wp,if_neg λz=>?_];have g:u=F.name:=CV r L (by rw[_b G w];erw[z.1.symm])
      have R:F.taker=I.name:=G.en I (Xb m) _ (Xb f) F (Xb w) g.symm;have d:=Y4 m;rw[<-R]at d;erw[e ((UG (Xo.mp q).1 G.in_nd).mp (q.trans d.symm))]
     |give u T=>rfl
     |put x T=>rfl
     |jump T k=>rfl
   rw[this,y];simp only[P]
def AH{W:Wld}{z:Str}(h:z∈W.ins):∃(i:Nat) (I:Isl),W.isl[i]?=wc I/\I.name=z:=by
 have⟨I,j,rfl⟩:=XA.mp h;have⟨i,l⟩:=ZS j;erw[⟨i,I,l,rfl⟩]
def dnM(W:Wld):Nat->Nat->Nat
 |0,_=>0
 |k+1,i=>dnM W k i+if(XQ W (Xh W k) i).isSome=wf then 1 else 0
def GvI(W:Wld)(f:Str)(k:Nat)(v:Int):Prop:=∃g m S I T,Kn W g m S/\W.isl[g]?=wc I/\I.stps[S.a]?=wc (.give f T)/\S.c f=k/\T.val (rhoK S.kv) W.w=v
structure PlAt (W:Wld)(k:Nat):Prop where
 st:∀(i:Nat)I,W.isl[i]?=wc I->∃c,Kn W i (dnM W k i) ⟨(Xh W k).num.getD i 0,(Xh W k).wd.getD i [],c⟩/\∀(j:Nat)f,W.fer[j]?=wc f->(f.giver=I.name->c f.name=((Xh W k).giv.getD j []).length)/\(f.taker=I.name->c f.name=(Xh W k).tak.getD j 0)
 gv:∀(j:Nat)f (m:Nat)v,W.fer[j]?=wc f->((Xh W k).giv.getD j [])[m]?=wc v->GvI W f.name m v
def PlAt.zero{W:Wld}:PlAt W 0:=by
 have w:∀(j:Nat)f,W.fer[j]?=wc f->(Xh W 0).giv.getD j []=[]:=λj f l=>Uw (by show(W.fer.map _)[j]?=_;rw[Xe,l];rfl)
 erw[⟨λi I u=>?_,λj f m v l h=>by rw[w j f l]at h;cases h⟩]
 have y:(Xh W 0).num.getD i 0=0:=Uw (by show(W.isl.map _)[i]?=_;rw[Xe,u];rfl)
 have z:(Xh W 0).wd.getD i []=wd0 I:=Uw (by show(W.isl.map _)[i]?=_;rw[Xe,u];rfl)
 rw[y,z];erw[⟨λ_=>0,.init u,λj f l=>⟨λ_=>by rw[w j f l];rfl,λ_=>(Uw (by show(W.fer.map _)[j]?=_;rw[Xe,l];rfl)).symm⟩⟩]
def PlAt.next{W:Wld}(G:W.Good){k:Nat}(h:PlAt W k):PlAt W (k+1):=by
 have A:=Wm G k;have le:=Xa W.isl.length;have giv:∀(j:Nat)f (r:Nat),W.fer[j]?=wc f->W.ins[r]?=wc f.giver->(Xh W (k+1)).giv.getD j []=(Xh W k).giv.getD j []++Wq W (Xh W k) r f.name:=λj f r u L=>(Rm G A u L _ le).trans (if_pos (by rw[<-ins_len];erw[(Xo.mp L).1]))
 have P:∀(j:Nat)f (r:Nat),W.fer[j]?=wc f->W.ins[r]?=wc f.taker->(Xh W (k+1)).tak.getD j 0=(Xh W k).tak.getD j 0+AG W (Xh W k) r f.name:=λj f r u L=>(Rn G A u L _ le).trans (if_pos (by rw[<-ins_len];erw[(Xo.mp L).1]))
 erw[⟨λi I q=>?_,λj f m v u d=>?_⟩]
 .have M:=(Xo.mp q).1;have p:=Y4 q;have⟨c,K,O⟩:=h.st i I q;have B:(Xh W (k+1)).num.getD i 0=_:=(FJ (·.num) (λi s=>(XZ s (rhoK ((Xh W k).wd.getD i [])) W.w ((Xh W k).num.getD i 0)).toNat) (λ_ _ _=>rfl) (λi=>(Vv G A i).1.nl) i _ le).trans (if_pos M);have C:(Xh W (k+1)).wd.getD i []=_:=(FJ (·.wd) (λi s=>YD s ((Xh W k).wd.getD i []) (rhoK ((Xh W k).wd.getD i [])) W.w (Z2 W (Xh W k) s)) (λ_ _ _=>rfl) (λi=>(Vv G A i).1.wl) i _ le).trans (if_pos M);have D:dnM W (k+1) i=dnM W k i+if(XQ W (Xh W k) i).isSome=wf then 1 else 0:=rfl;cases hd:XQ W (Xh W k) i with
  |none=>
   rw[hd]at B C D;rw[D,B,C];erw[⟨c,K,λj f u=>⟨λz=>?_,λz=>?_⟩⟩]
   .rw[giv j f i u (by rw[z];erw[p]),Wq,hd,YS]
    erw[(O j f u).1 z]
   .rw[P j f i u (by rw[z];erw[p]),AG,hd]
    erw[(O j f u).2 z]
  |some s=>
   rw[hd]at B C D;have⟨I',R,N,U⟩:=Vx hd;rw[q]at R;cases R;have J:=G.en I (Xb q) s (Xb N);have Q:Kn W i (dnM W k i+1) (Sk.go W.w ⟨(Xh W k).num.getD i 0,(Xh W k).wd.getD i [],c⟩ s (Z2 W (Xh W k) s)):=by
    cases s with
    |take f x=>
     have⟨g,L,rfl⟩:=XA.mp (_t G q N).1;have⟨j,F⟩:=ZS L;have lt:=of_decide_eq_true U;rw[_b G F]at lt;have⟨g',m,S2,I2,T,S,X,H,o,n⟩:=h.gv j g _ _ F (X6 lt);have b:=Kn.take K q N S X H (o.trans ((O j g F).2 (J g L rfl)).symm);have e:Z2 W (Xh W k) (.take g.name x)=.int (((Xh W k).giv.getD j [])[(Xh W k).tak.getD j 0]'lt):=by
      unfold Z2;dsimp only;rw[_b G F,Uw (X6 lt)]
     rw[e,<-n];erw[b]
    |give f T=>erw[.own K q N λ_ _ e=>nomatch e]
    |put f T=>erw[.own K q N λ_ _ e=>nomatch e]
    |jump f T=>erw[.own K q N λ_ _ e=>nomatch e]
   rw[D,B,C];erw[⟨λz=>if Xs (wc s) z=wf then c z+1 else c z,Q,λj f u=>⟨λz=>?_,λz=>?_⟩⟩]
   .have Y:=Xb u;rw[giv j f i u (by rw[z];erw[p]),XR,<-(O j f u).1 z,Wq,hd]
    cases s with
    |give w T=>
     dsimp only;by_cases e:w=f.name
     .rw[if_pos (show Xs (wc (.give w T)) f.name=wf from decide_eq_true e),if_pos e];rfl
     .rw[if_neg (show¬Xs (wc (.give w T)) f.name=wf from λy=>e (of_decide_eq_true y)),if_neg e];rfl
    |take w T=>erw[if_neg λy=>(G.fo f Y).ne (z.trans (J f Y (of_decide_eq_true y:w=f.name).symm).symm)]
    |put w T=>rfl
    |jump w T=>rfl
   .have Y:=Xb u;rw[P j f i u (by rw[z];erw[p]),<-(O j f u).2 z,AG,hd]
    cases s with
    |take w T=>
     dsimp only;by_cases e:w=f.name
     .rw[if_pos (show Xs (wc (.take w T)) f.name=wf from decide_eq_true e),if_pos e]
     .rw[if_neg (show¬Xs (wc (.take w T)) f.name=wf from λy=>e (of_decide_eq_true y)),if_neg e];rfl
    |give w T=>erw[if_neg λy=>(G.fo f Y).ne ((J f Y (of_decide_eq_true y:w=f.name).symm).trans z.symm)]
    |put w T=>rfl
    |jump w T=>rfl
 .have⟨r,Z⟩:=ZS (G.fo f (Xb u)).g;rw[giv j f r u Z]at d;rcases Nat.lt_or_ge m ((Xh W k).giv.getD j []).length with l|l
  .rw[Zv l]at d;erw[h.gv j f m v u d]
  .rw[Zi l,Wq]at d;cases hd:XQ W (Xh W k) r with
   |none=>rw[hd]at d;cases d
   |some s=>
    rw[hd]at d;cases s with
    |give w T=>
     dsimp only at d;by_cases e:w=f.name
     .subst e;rw[if_pos rfl]at d;have⟨I,q,N,_⟩:=Vx hd;have⟨c,K,O⟩:=h.st r I q;have a:f.giver=I.name:=Y2 (Z.symm.trans (Y4 q));have l1:=(Xo.mp d).1;rw[UD]at l1;have e0:m - ((Xh W k).giv.getD j []).length=0:=by lia
      rw[e0]at d;erw[⟨r,_,_,I,T,K,q,N,((O j f u).1 a).trans (by lia),Y2 d⟩]
     .rw[if_neg e]at d;cases d
    |take w T=>cases d
    |put w T=>cases d
    |jump w T=>cases d
theorem plAt{W:Wld}(G:W.Good):∀k:Nat,PlAt W k
 |0=>.zero
 |k+1=>(plAt G k).next G
def RunLe(W:Wld)(k:Nat)(R:RunS):Prop:=∀(i:Nat)I d,W.isl[i]?=wc I->R.dn[i]?=wc d->d<=dnM W k i
section
variable{W:Wld}{M:MH}{r:Addr}{R R':RunS}{mm:Nat->Int}{k i n d:Nat}{I:Isl}{a:Addr}{kv:List (Key×MV)}
theorem RunAt.isl(h:RunAt M W r R mm)(u:W.isl[i]?=wc I):∃n a j d,R.nums[i]?=wc n/\R.ws[i]?=wc a/\M a=wc (.dic j)/\WdOk W.w I j/\R.dn[i]?=wc d:=by
 have l:=(Xo.mp u).1;obtain⟨a,w⟩:∃a,R.ws[i]?=wc a:=⟨_,X6 (by rw[h.wl];erw[l])⟩
 have⟨j,e,o⟩:=h.wa i I _ u w;erw[ex4 _ _ j _ ⟨X6 (by rw[h.nl];erw[l]),w,e,o,X6 (by rw[h.sl];erw[l])⟩]
def RunLe.ahead(G:W.Good)(p:RunAt M W r R mm)(h:KnAt W M R)(L:RunLe W k R){q:Nat}{g:Fer}{b:Boat}(w:W.fer[q]?=wc g)(e:R.bs[q]?=wc b){z:Str} (N:z∈W.ins):(g.giver=z->b.A.ws.length<=((Xh W k).giv.getD q []).length)/\(g.taker=z->b.A.tn<=(Xh W k).tak.getD q 0):=by
 have⟨_,J,j,rfl⟩:=AH N;have⟨n,a,O,d,P,T,_,_,hd⟩:=p.isl j;have⟨kv,c,_,K,U⟩:=h.st _ J a n d j T P hd;have⟨Y,Z,u⟩:=(plAt G k).st _ J j;have l:=L _ J d j hd;have⟨C,A,B,_⟩:=Z.pre d l;obtain rfl:=K.uni G d (Xa _) _ _ K A;have y:=U q g b w e;have m:=u q g w;have f:c g.name<=Y g.name:=B _;erw[⟨λz=>by rw[<-y.1 z,<-m.1 z];erw[f],λz=>by rw[<-y.2 z,<-m.2 z];erw[f]⟩]
def RunLe.ring(G:W.Good)(Y:RunAt M W r R mm)(h:KnAt W M R)(L:RunLe W k R)(w:W.isl[i]?=wc I)(Z:R.nums[i]?=wc n)(to:R'.dn=R.dn\/∃s d,I.stps[n]?=wc s/\R.dn[i]?=wc d/\R'.dn=R.dn.set i (d+1)/\CanR W R s):RunLe W (k+1) R':=by
 intro j J e U y;have up:dnM W (k+1) j=dnM W k j+if(XQ W (Xh W k) j).isSome=wf then 1 else 0:=rfl;have up1:dnM W k j<=dnM W (k+1) j:=by rw[up];erw[UJ ..]
 rcases to with z|⟨s,d,A,hd,z,m⟩
 .rw[z]at y;erw[Xy (L j J e U y) up1]
 rw[z]at y;rcases Yd y with⟨rfl,rfl⟩|⟨_,y⟩
 rotate_left
 .erw[Xy (L j J e U y) up1]
 rw[w]at U;cases U;have l0:=L j I d w hd;by_cases l:d+1<=dnM W k j
 .erw[Xy l up1]
 have⟨c,K,B⟩:=(plAt G k).st j I w;have C:dnM W k j=d:=by lia
 rw[C]at K;have⟨n0,a,_,_,p,F,_⟩:=Y.isl w;rw[Z]at p;cases p;have⟨kv,c',_,Q,N⟩:=h.st j I a n d w F Z hd;have e:=K.uni G d (Xa _) _ _ K Q;injection e with e1 e2 e3;subst e3;have D:=G.en I (Xb w) s (Xb A);have S:XQ W (Xh W k) j=wc s:=by
  unfold XQ YM;rw[w];dsimp only;rw[e1,A];erw[if_pos ?_];cases s with
  |take f x=>
   have⟨q,g,b,u,O,rfl,lt⟩:=m;have P:=Xb u;have t:=D g P rfl;have X:=((B q g u).2 t).symm.trans ((N q g b u O).2 t);have H:=(L.ahead G Y h u O (G.fo g P).g).1 rfl;erw[decide_eq_true ?_];rw[_b G u];lia
  |give f T=>
   have⟨q,g,b,u,O,rfl,lt⟩:=m;have P:=Xb u;have t:=D g P rfl;have X:=((B q g u).1 t).symm.trans ((N q g b u O).1 t);have H:=(L.ahead G Y h u O (G.fo g P).t).2 rfl;have v:((2:Int)^g.k)=((2^g.k:Nat):Int):=by rw[Vi];rfl
   have o:(W.fer.map (·.k)).getD q 0=g.k:=Uw (by rw[Xe,u];rfl)
   erw[decide_eq_true ?_];rw[_b G u,o,v];lia
  |put _ _=>rfl
  |jump _ _=>rfl
 rw[up,if_pos (by rw[S];rfl),C]
 erw[Xa _]
end
def OffR(j M:MH)(r:Addr)(l R:RunS):Prop:=∀a o,j a=wc o->a∉l.own r->M a=wc o/\a∉R.own r
def OffR.kept{j M M':MH}{r:Addr}{l R u:RunS}(h:OffR j M r l R)(k:Kept M M' r R u):OffR j M' r l u:=λa o e n=>by
 have⟨w,y⟩:=h a o e n;erw[⟨k.fr a o w y,λz=>?_⟩];rcases k.nw a z with z|z
 .erw[y z]
 .rw[w]at z;cases z
def OffR.keep{j M M':MH}{r:Addr}{l R:RunS}(h:OffR j M r l R)(s:SameM M M'):OffR j M' r l R:=λa o e n=>⟨s _ _ (h a o e n).1,(h a o e n).2⟩
theorem GoTo.bs{W:Wld}{M M':MH}{l:RunS}{r:Addr}{R:RunS}{bs:List Boat}{i n:Nat}{j:List (Key×MV)}{o:Option Stp}{v:MV}(h:GoTo W M M' r R l bs i n j o v):l.bs=bs:=by
 rcases h with⟨rfl,_⟩|⟨_,_,_,_,_,_,rfl,_⟩<;>rfl
noncomputable def V2(j:List Str)(p:Nat×List Str)(z:Str):Nat×List Str:=if z∈p.2 then(if(p.2.erase z).length=0 then(p.1+1,j)else(p.1,p.2.erase z))else p
structure Seen (A:Ab)(L n0 d0 rt rg:Nat):Prop where
 l:A.gx.length+2<=L
 n:n0<=A.ws.length
 d:d0<=A.tn
 lt:1<=rt->n0<=A.lt
 lg:1<=rg->d0<=A.lg
 tx:∀(e:Nat)x,e+1<rt->A.tx[e]?=wc x->n0<=x
 gx:∀(e:Nat)x,e+1<rg->A.gx[e]?=wc x->d0<=x
def Ro{j:List Nat}{e x:Nat}(h:j.dropLast[e]?=wc x):j[e]?=wc x:=by
 rw[List.dropLast_eq_take,List.getElem?_take]at h;split at h
 .erw[h]
 .cases h
def Rp{j:List Nat}(h:1<=j.length):j[j.length - 1]?=wc (XF j):=by
 have e:=Wi h;have l:j.dropLast.length=j.length - 1:=V8;obtain⟨m,u⟩:∃m,m=j.length - 1:=⟨_,rfl⟩;rw[<-u]
 conv=>lhs;rw[e]
 rw[Zi (by lia),l,u,Nat.sub_self];rfl
section
variable{A:Ab}{L n0 d0 rt rg:Nat}
theorem Seen.taker(ok:A.Ok)(h:Seen A L n0 d0 rt rg)(m:Int)(c:Nat)(w:Bool):Seen (A.taker m c w) L n0 d0 (rt+1) rg:=by
 erw[⟨h.l,h.n,?_,λ_=>h.n,h.lg,λe x l j=>?_,h.gx⟩]
 .show d0<=if _ then _ else _;have:=h.d;split<;>lia
 .have j:(A.tSamp c::A.tx.dropLast)[e]?=wc x:=j;cases e with
  |zero=>cases j;erw[Xy (h.lt (by lia)) (ok.tSamp c).1]
  |succ e=>erw[h.tx e x (by lia) (Ro j)]
theorem Seen.giver(ok:A.Ok)(h:Seen A L n0 d0 rt rg)(m:Int)(c:Nat)(w:Option Nat):Seen (A.giver m c w) L n0 d0 rt (rg+1):=by
 have l:=ok.gl.1;erw[⟨?_,?_,h.d,h.lt,λ_=>h.d,h.tx,λe x u j=>?_⟩]
 .show(A.gSamp c::A.gx.dropLast).length+2<=L;have:=h.l;rw[Yi,V8];lia
 .show n0<=(if _ then _ else _:List Nat).length;have:=h.n;split
  .rw[XR];lia
  .erw[this]
 .have j:(A.gSamp c::A.gx.dropLast)[e]?=wc x:=j;cases e with
  |zero=>cases j;erw[Xy (h.lg (by lia)) (ok.gSamp c).1]
  |succ e=>erw[h.gx e x (by lia) (Ro j)]
theorem Seen.takes(ok:A.Ok)(h:Seen A L n0 d0 rt rg)(j:L<=rt+1)(lt:A.tn<n0):A.takes wf=wf:=by
 have l:=ok.gl.1;have u:=ok.tl;have w:=h.l;have:=h.tx _ _ (by lia) (Rp (j:=A.tx) (by lia))
 erw[(XU _ _).mpr ⟨rfl,decide_eq_true (by lia)⟩]
theorem Seen.gives(ok:A.Ok)(h:Seen A L n0 d0 rt rg)(j:L<=rg+1){v:Nat}(lt:A.ws.length<d0+2^A.k):A.gives (wc v)=wf:=by
 have l:=ok.gl.1;have u:=h.l;have:=h.gx _ _ (by lia) (Rp (j:=A.gx) (by lia))
 erw[(XU _ _).mpr ⟨rfl,decide_eq_true (by lia)⟩]
def Seen.rung(ok:A.Ok){f:Fer}(j:f.giver≠f.taker){cnt:Str->Nat}(h:Seen A L n0 d0 (cnt f.taker) (cnt f.giver)){w:Nat}{z:Str}{m:Int}{c:Nat}{o:Option Stp}{l:Str->Int}{k:Nat}:Seen (newA w z m c o l k f A) L n0 d0 (if f.taker=z then cnt f.taker+1 else cnt f.taker) (if f.giver=z then cnt f.giver+1 else cnt f.giver):=by
 unfold newA;by_cases g:f.giver=z
 .subst g;rw[if_pos (.inl rfl),Zu,if_pos rfl,if_neg j.symm,if_pos rfl];erw[h.giver ok _ _ _]
 .by_cases t:f.taker=z
  .subst t;rw[if_pos (.inr rfl),Zu,if_neg g,if_pos rfl,if_neg g];erw[h.taker ok _ _ _]
  .rw[if_neg λy=>y.elim (λy=>g y.symm) λy=>t y.symm,if_neg t,if_neg g];erw[h]
end
def RunGe(W:Wld)(k:Nat)(R:RunS):Prop:=∀(i:Nat)I d,W.isl[i]?=wc I->R.dn[i]?=wc d->dnM W k i<=d
structure Blk (W:Wld)(L k:Nat)(R:RunS)(cnt:Str->Nat):Prop where
 lo:RunGe W k R
 go:∀(i:Nat)I d,W.isl[i]?=wc I->R.dn[i]?=wc d->L<=cnt I.name->dnM W (k+1) i<=d
 se:∀(j:Nat)f x,W.fer[j]?=wc f->R.bs[j]?=wc x->∃n0 d0,Seen x.A L n0 d0 (cnt f.taker) (cnt f.giver)/\((Xh W k).giv.getD j []).length<=n0/\(Xh W k).tak.getD j 0<=d0
section
variable{W:Wld}{M M':MH}{r:Addr}{R R':RunS}{mm:Nat->Int}{k i n d m L:Nat}{I:Isl}{cnt:Str->Nat}
def RunGe.behind(G:W.Good)(N:RunAt M W r R mm)(h:KnAt W M R)(L:RunGe W k R){q:Nat}{g:Fer}{b:Boat}(w:W.fer[q]?=wc g)(O:R.bs[q]?=wc b){z:Str} (P:z∈W.ins):(g.giver=z->((Xh W k).giv.getD q []).length<=b.A.ws.length)/\(g.taker=z->(Xh W k).tak.getD q 0<=b.A.tn):=by
 have⟨_,J,j,rfl⟩:=AH P;have⟨n,a,T,d,U,Y,_,_,hd⟩:=N.isl j;have⟨D,c,_,K,Z⟩:=h.st _ J a n d j Y U hd;have⟨A,y,u⟩:=(plAt G k).st _ J j;have l:=L _ J d j hd;have⟨F,B,C,_⟩:=K.pre _ l;obtain rfl:=y.uni G _ (Xa _) _ _ y B;have f:=Z q g b w O;have p:=u q g w;have e:A g.name<=c g.name:=C _;erw[⟨λz=>by rw[<-f.1 z,<-p.1 z];erw[e],λz=>by rw[<-f.2 z,<-p.2 z];erw[e]⟩]
def Blk.start(G:W.Good)(y:RunAt M W r R mm)(h:KnAt W M R)(lo:RunGe W k R)(c:1<=L)(g:∀(j:Nat)f x,W.fer[j]?=wc f->R.bs[j]?=wc x->x.A.gx.length+2<=L):Blk W L k R λ_=>0:=by
 erw[⟨lo,λi I d q hd l=>by lia,λj f x u w=>?_⟩]
 have z:=G.fo f (Xb u);erw[⟨_,_,⟨g j f x u w,Xa _,Xa _,λl=>by lia,λl=>by lia,λe x l=>by lia,λe x l=>by lia⟩,(lo.behind G y h u w z.g).1 rfl,(lo.behind G y h u w z.t).2 rfl⟩]
def Blk.ring(G:W.Good)(P:RunAt M W r R (λ_=>R.m))(h:KnAt W M R)(B:Blk W L k R cnt)(p:W.isl[i]?=wc I)(hn:R.nums[i]?=wc n){ρ:Str->Int} {bs:List Boat} (hbs:R'.bs=bs)(hbl:bs.length=W.fer.length)(tb:BsTo W R.bs bs I.name R.m m (I.stps[n]?) ρ W.fer.length)(to:R'.dn=R.dn/\(∀s,I.stps[n]?=wc s->∃z,Xs I.stps[n]? z=wf)/\(∀(j:Nat)f x,W.fer[j]?=wc f->R.bs[j]?=wc x->¬((I.name=f.giver\/I.name=f.taker)/\hitA W.w f I.name I.stps[n]? ρ x.A=wf))\/∃s d,I.stps[n]?=wc s/\R.dn[i]?=wc d/\R'.dn=R.dn.set i (d+1)/\CanR W R s):Blk W L k R' λy=>if y=I.name then cnt y+1 else cnt y:=by
 have up:∀(j w:Nat),R'.dn[j]?=wc w->∃d,R.dn[j]?=wc d/\d<=w/\(j≠i->w=d):=λj w hd=>by
  rcases to with⟨e,_⟩|⟨s,d,_,O,e,_⟩
  .rw[e]at hd;erw[⟨w,hd,Xa _,λ_=>rfl⟩]
  .rw[e]at hd;rcases Yd hd with⟨rfl,rfl⟩|⟨_,hd⟩
   .erw[⟨d,O,YT _,λz=>absurd rfl z⟩]
   .erw[⟨w,hd,Xa _,λ_=>rfl⟩]
 erw[⟨λj J w Y hd=>?_,λj J w Y hd A=>?_,λj f x' C hx=>?_⟩]
 .have⟨d,O,h2,_⟩:=up j w hd;erw[Xy (B.lo j J d Y O) h2]
 .have⟨d,O,h2,h3⟩:=up j w hd;by_cases ij:j=i
  rotate_left
  .rw[if_neg λz=>ij (FG G Y p z)]at A;rw[h3 ij];erw[B.go j J d Y O A]
  subst ij;rw[p]at Y;cases Y;rw[if_pos rfl]at A;by_cases l:dnM W (k+1) j<=d
  .erw[Xy l h2]
  have lo:=B.lo j I d p O;have⟨c,K,hk⟩:=(plAt G k).st j I p;have D:dnM W (k+1) j=dnM W k j+if(XQ W (Xh W k) j).isSome=wf then 1 else 0:=rfl;cases dm:XQ W (Xh W k) j with
  |none=>rw[D,dm]at l;erw[absurd lo l]
  |some s=>
   rw[dm]at D;have D:dnM W (k+1) j=dnM W k j+1:=D;have ed:dnM W k j=d:=by lia
   rw[D];rw[ed]at K ⊢;rcases to with⟨_,ws,nh⟩|⟨s',d2,_,h5,h4,_⟩
   rotate_left
   .rw[O]at h5;cases h5;rw[h4]at hd;rcases Yd hd with⟨_,rfl⟩|⟨z,_⟩
    .erw[Xa _]
    .erw[absurd rfl z]
   have⟨_,a,_,_,F,ha,_⟩:=P.isl p;rw[hn]at F;cases F;have⟨kv,c',_,K',Q⟩:=h.st j I a n d p ha hn O;have eq:=K.uni G d (Xa _) _ _ K K';injection eq with o _ e3;subst e3;have⟨I',X,H,v⟩:=Vx dm;rw[p]at X;cases X;rw[o]at H;have en:=G.en I (Xb p) s (Xb H);have si:=(G.io I (Xb p)).st s (Xb H);have⟨z,hz⟩:=ws s H;rw[H]at hz nh;cases s with
   |take f x=>
    have⟨g,Z,rfl⟩:=XA.mp si.1;have⟨q,u⟩:=ZS Z;obtain⟨b,N⟩:∃b,R.bs[q]?=wc b:=⟨_,X6 (by rw[P.bl];erw[(Xo.mp u).1])⟩
    have⟨n0,d0,S,g1,g2⟩:=B.se q g b u N;have t:=en g Z rfl;have e4:=((hk q g u).2 t).symm.trans ((Q q g b u N).2 t);have lt:=of_decide_eq_true v;rw[_b G u]at lt;have ok:=(P.ba q g b u N).fy.ok;erw[absurd ⟨.inr t.symm,?_⟩ (nh q g b u N)];rw[hitA,if_neg λy=>(G.fo g Z).ne (y.trans t.symm),show Xs (wc (Stp.take g.name x)) g.name=wf from decide_eq_true rfl];erw[S.takes ok (by rw[t];erw[A]) (by lia)]
   |give f T=>
    have⟨g,Z,rfl⟩:=XA.mp si.1;have⟨q,u⟩:=ZS Z;obtain⟨b,N⟩:∃b,R.bs[q]?=wc b:=⟨_,X6 (by rw[P.bl];erw[(Xo.mp u).1])⟩
    have⟨n0,d0,S,g1,g2⟩:=B.se q g b u N;have t:=en g Z rfl;have e4:=((hk q g u).1 t).symm.trans ((Q q g b u N).1 t);have lt:=of_decide_eq_true v;have e6:((2:Int)^g.k)=((2^g.k:Nat):Int):=by rw[Vi];rfl
    have e7:(W.fer.map (·.k)).getD q 0=g.k:=Uw (by rw[Xe,u];rfl)
    rw[_b G u,e7,e6]at lt;have ba:=P.ba q g b u N;erw[absurd ⟨.inl t.symm,?_⟩ (nh q g b u N)];rw[hitA,if_pos t,show U6 W.w g (wc (Stp.give g.name T)) ρ=wc (T.val ρ W.w).toNat from if_pos rfl];erw[S.gives ba.fy.ok (by rw[t];erw[A]) (by rw[ba.k];lia)]
   |put _ _=>cases hz
   |jump _ _=>cases hz
 .rw[hbs]at hx;have hj:=(Xo.mp C).1;obtain⟨x,U⟩:∃x,R.bs[j]?=wc x:=⟨_,X6 (by rw[P.bl];erw[hj])⟩
  have⟨a',o,e2⟩:=tb j f _ hj C U;rw[hx]at o;cases o;have⟨n0,d0,S,g1,g2⟩:=B.se j f x C U;rw[e2];erw[⟨n0,d0,S.rung (P.ba j f x C U).fy.ok (G.fo f (Xb C)).ne,g1,g2⟩]
end
def Stch(W:Wld)(L:Nat)(p:Nat×List Str)(R:RunS):Prop:=∃(k b:Nat) (cnt:Str->Nat),p.1=k*L+b/\b<L/\Blk W L k R cnt/\∀z∈W.ins,b+(if z∈p.2 then 0 else 1)<=cnt z
def Stch.ring{W:Wld}{L:Nat}{p:Nat×List Str}{R u:RunS}{z:Str}(h:Stch W L p R)(st:∀k cnt,Blk W L k R cnt->Blk W L k u λy=>if y=z then cnt y+1 else cnt y)(O:∀k,RunGe W k u->(∀(j:Nat)f x,W.fer[j]?=wc f->u.bs[j]?=wc x->x.A.gx.length+2<=L)->Blk W L k u λ_=>0):Stch W L (V2 W.ins p z) u:=by
 have⟨k,b,cnt,c,q,B,r⟩:=h;have w:=st _ _ B;unfold V2;by_cases hm:z∈p.2
 rotate_left
 .rw[if_neg hm];erw[⟨k,b,_,c,q,w,λy l=>?_⟩];have:=r y l;split<;>split<;>lia
 have up:∀y∈W.ins,b+(if y∈p.2.erase z then 0 else 1)<=if y=z then cnt y+1 else cnt y:=λy l=>by
  have g:=r y l;by_cases e:y=z
  .subst e;rw[if_pos hm]at g;rw[if_pos rfl];split<;>lia
  .rw[if_neg e];have P:(y∈p.2.erase z)↔y∈p.2:=List.mem_erase_of_ne e;simp only[P];erw[g]
 rw[if_pos hm];by_cases e0:(p.2.erase z).length=0
 rotate_left
 .rw[if_neg e0];erw[⟨k,b,_,c,q,w,up⟩]
 rw[if_pos e0];have all:∀y∈W.ins,b+1<=if y=z then cnt y+1 else cnt y:=λy l=>by
  have g:=up y l;rw[Wu.mp e0,if_neg XN]at g;erw[g]
 by_cases m:b+1=L
 .erw[⟨k+1,0,λ_=>0,?_,by lia,O _ (λi I d N hd=>w.go i I d N hd ?_) λj f x T U=>by have⟨_,_,S,_⟩:=w.se j f x T U;erw[S.l],λy l=>?_⟩]
  .show p.1+1=_;rw[Nat.succ_mul];lia
  .rw[<-m];erw[all _ (Xb (Y4 N))]
  .show 0+(if y∈W.ins then 0 else 1)<=0;rw[if_pos l];erw[Xa _]
 .erw[⟨k,b+1,_,by show p.1+1=_;lia,by lia,w,λy l=>?_⟩]
  show b+1+(if y∈W.ins then 0 else 1)<=_;rw[if_pos l];erw[all y l]
def Stch.ge{W:Wld}{L:Nat}{p:Nat×List Str}{R:RunS}(h:Stch W L p R):RunGe W (p.1/L) R:=by
 have⟨k,b,cnt,j,l,B,_⟩:=h;have e:p.1/L=k:=by rw[j,UK,Nat.add_mul_div_right _ _ (by lia),Nat.div_eq_of_lt l,Nat.zero_add]
 rw[e];erw[B.lo]
noncomputable def Z3(fs:List Fer)(a:Nat):Nat:=fs.foldl (λl f=>max l (2+f.st)) a
theorem FK:∀(fs:List Fer)(a:Nat),a<=Z3 fs a/\∀f∈fs,f.st+2<=Z3 fs a
 |[],a=>⟨Xa _,λ_ h=>nomatch h⟩
 |f::fs,a=>by
  have⟨u,l⟩:=FK fs (max a (2+f.st));have e:Z3 (f::fs) a=Z3 fs (max a (2+f.st)):=rfl;rw[e];erw[⟨by lia,λg j=>?_⟩]
  rcases Xk.mp j with rfl|j
  .lia
  .erw[l g j]
theorem Rq:∀(fs:List Fer){a:Nat},a<=5->(∀f∈fs,f.st<=3)->Z3 fs a<=5
 |[],_,h,_=>h
 |f::fs,a,h,g=>Rq fs (a:=max a (2+f.st)) (by have:=g f (Y3 ..);lia) λx j=>g x (XJ _ j)
section
variable{W:Wld}{M:MH}{r:Addr}{R:RunS}{mm:Nat->Int}
def Stch.first(G:W.Good)(u:RunAt M W r R mm)(h:KnAt W M R)(w:∀(j:Nat)f y,W.fer[j]?=wc f->R.bs[j]?=wc y->y.A=ab0 f.k f.st):Stch W (Z3 W.fer 2) (0,W.ins) R:=by
 have⟨q,m⟩:=FK W.fer 2;erw[⟨0,0,λ_=>0,by simp,by lia,Blk.start G u h (λi I d _ _=>Yg _) (by lia) λj f x l g=>?_,λz c=>?_⟩]
 .rw[w j f x l g];show(Xj f.st 0).length+2<=_;rw[Z5];erw[m f (Xb l)]
 .show 0+(if z∈W.ins then 0 else 1)<=0;rw[if_pos c];erw[Xa _]
set_option tactic.hygienic true in
def _gs(G:W.Good)(q:RunAt M W r R mm)(h:KnAt W M R){k:Nat}(L:RunLe W k R){j:Nat}{f:Fer}{x:Boat}(u:W.fer[j]?=wc f)(w:R.bs[j]?=wc x):(((Xh W k).giv.getD j []).map MV.int).take x.A.ws.length=x.A.ws.map natM:=by
 have l:=(L.ahead G q h u w (G.fo f (Xb u)).g).1 rfl;apply Ww;intro m;rw[List.getElem?_take,Xe,Xe];split
 .rename_i p
  have y:=X6 (show m<((Xh W k).giv.getD j []).length by lia)
  have z:=X6 p;rw[y,z];have⟨g,n,S,I,T,a,b,c,d,e⟩:=h.gv j f x m _ u w z;have⟨Z,A,B,C,D,N,O,P,U,Y⟩:=(plAt G k).gv j f m _ u y;have⟨rfl,rfl⟩:=giv G a b c N O P (d.trans U.symm) (a.uni G);show wc (MV.int _)=wc (MV.int _);rw[<-Y,e]
 .rw[Zj (by lia)];rfl
end
def _hm(W:Wld)(S:Std)(i:Nat):(Xv W S (i+1)).2=match XQ W S i with|wc _=>(Xv W S i).2++[W.ins.getD i ""]|we=>(Xv W S i).2:=by
 show(YW W S i (Xv W S i)).2=_;unfold YW XQ;cases h:W.isl[i]? with
 |none=>rfl
 |some I=>
  dsimp only;cases YM W S i I with
  |none=>rfl
  |some s=>dsimp only;rw[Uw (Y4 h)]
theorem Rr(l:List Str):∀(j:List Str)(p:Nat×List Str),j.Perm p.2->j≠ []->j.foldl (V2 l) p=(p.1+1,l)
 |[],_,_,h=>absurd rfl h
 |z::j,p,h,_=>by
  have w:z∈p.2:=h.mem_iff.mp (Y3 ..);have u:j.Perm (p.2.erase z):=(List.cons_perm_iff_perm_erase.mp h).2;rw[Vc,V2,if_pos w];by_cases e:(p.2.erase z).length=0
  .rw[if_pos e,Wu.mp (u.length_eq.trans e)];rfl
  .rw[if_neg e];erw[Rr l j (p.1,p.2.erase z) u λz=>e (by rw[<-u.length_eq,z];rfl)]
theorem Rs{W:Wld}{S:Std}:∀i:Nat,(Xv W S i).2=[]->(Xv W S i).1=S/\∀q,q<i->XQ W S q=we
 |0,_=>⟨rfl,λq h=>absurd h (WD _)⟩
 |i+1,h=>by
  rw[_hm]at h;cases hd:XQ W S i with
  |some s=>
   rw[hd]at h;erw[absurd h (by simp)]
  |none=>
   rw[hd]at h;have⟨a,b⟩:=Rs i h;erw[⟨by rw[CU,hd];erw[a],λq j=>?_⟩]
   by_cases e:q=i
   .rw[e];erw[hd]
   .erw[b q (by lia)]
def CW(W:Wld)(n:Nat):Prop:=∀i,XQ W (Xh W n) i=we
def _jF{W:Wld}{n:Nat}(h:Ay W (Xh W n)=[]):CW W n:=λi=>by
 by_cases l:i<W.isl.length
 .erw[(Rs _ h).2 i l]
 .unfold XQ;rw[Zj (by lia)]
def RunLe.stay{W:Wld}{n:Nat}{R:RunS}(st:CW W n)(h:RunLe W (n+1) R):RunLe W n R:=λi I d j hd=>by
 have:=h i I d j hd;rw[show dnM W (n+1) i=dnM W n i+if(XQ W (Xh W n) i).isSome=wf then 1 else 0 from rfl,st i]at this;erw[this]
def _h0{W:Wld}{n i:Nat}{I:Isl}{s:Stp}(st:CW W n)(j:W.isl[i]?=wc I)(l:I.stps[(Xh W n).num.getD i 0]?=wc s):canM W (Xh W n) s=wg:=by
 have h:=st i;unfold XQ YM at h;rw[j]at h;dsimp only at h;rw[l]at h;dsimp only at h;cases e:canM W (Xh W n) s with
 |false=>rfl
 |true=>rw[e]at h;cases h
def Rt(W:Wld)(S:Std)(M:MH)(R:RunS):Prop:=∀(i:Nat)I,W.isl[i]?=wc I->∃a,R.nums[i]?=wc (S.num.getD i 0)/\R.ws[i]?=wc a/\M a=wc (.dic (S.wd.getD i []))
def Ru(W:Wld)(S:Std)(R:RunS):Prop:=∀(j:Nat)f x,W.fer[j]?=wc f->R.bs[j]?=wc x->x.A.ws.map natM=(S.giv.getD j []).map MV.int/\x.A.tn=S.tak.getD j 0
def FN{W:Wld}{M:MH}{r:Addr}{R:RunS}{g:Nat->Int}{n:Nat}(G:W.Good)(q:RunAt M W r R g)(h:KnAt W M R)(Le:RunLe W n R)(p:RunGe W n R){i:Nat}{I:Isl}(l:W.isl[i]?=wc I):∃(a:Addr) (c:Str->Nat),R.nums[i]?=wc ((Xh W n).num.getD i 0)/\R.ws[i]?=wc a/\M a=wc (.dic ((Xh W n).wd.getD i []))/\(∀(j:Nat)f x,W.fer[j]?=wc f->R.bs[j]?=wc x->(f.giver=I.name->c f.name=x.A.ws.length)/\(f.taker=I.name->c f.name=x.A.tn))/\∀(j:Nat)f,W.fer[j]?=wc f->(f.giver=I.name->c f.name=((Xh W n).giv.getD j []).length)/\(f.taker=I.name->c f.name=(Xh W n).tak.getD j 0):=by
 have⟨m,a,_,d,w,y,_,_,hd⟩:=q.isl l;have⟨O,c,L,K,N⟩:=h.st i I a m d l y w hd;have⟨P,z,u⟩:=(plAt G n).st i I l;have e:dnM W n i=d:=Nat.le_antisymm (p i I d l hd) (Le i I d l hd);rw[e]at z;have e:=K.uni G d (Xa _) _ _ K z;injection e with e1 e2 e3;subst e1 e2 e3;erw[⟨a,c,w,y,L,N,u⟩]
def FP{W:Wld}{M:MH}{r:Addr}{R:RunS}{j:Nat->Int}{n:Nat}(G:W.Good)(l:RunAt M W r R j)(h:KnAt W M R)(Le:RunLe W n R)(u:RunGe W n R):Rt W (Xh W n) M R:=λi I w=>by
 have⟨a,c,y,z,m,_⟩:=FN G l h Le u w;erw[⟨a,y,z,m⟩]
def Rv{W:Wld}{M:MH}{r:Addr}{R:RunS}{L:Nat->Int}{n:Nat}(G:W.Good)(w:RunAt M W r R L)(h:KnAt W M R)(Le:RunLe W n R)(d:RunGe W n R):Ru W (Xh W n) R:=λj f x u y=>by
 have q:=G.fo f (Xb u);have⟨i,I,N,e⟩:=AH q.g;have⟨_,c,_,_,_,O,P⟩:=FN G w h Le d N;have⟨T,U,z,p⟩:=AH q.t;have⟨_,Y,_,_,_,m,g⟩:=FN G w h Le d z;have l:=((O j f x u y).1 e.symm).symm.trans ((P j f u).1 e.symm);erw[⟨?_,((m j f x u y).2 p.symm).symm.trans ((g j f u).2 p.symm)⟩];rw[<-_gs G w h Le u y,l,V7 (by rw[X5];erw[Xa _])]
def Rw{W:Wld}{M:MH}{r:Addr}{R:RunS}{d:Nat->Int}{n:Nat}(G:W.Good)(u:RunAt M W r R d)(h:KnAt W M R)(Le:RunLe W n R):∀y∈R.bs,y.A.ws.length<=5*n:=λy c=>by
 have⟨j,w,rfl⟩:=Yq c;have z:=X6 (show j<W.fer.length by rw[<-u.bl];erw[w])
 have l:=(Le.ahead G u h z (X6 w) (G.fo _ (Xb z)).g).1 rfl;have ok:=Wm G n;have m:=X6 (show j<(Xh W n).giv.length by rw[ok.gl,<-u.bl];erw[w])
 rw[Uw m]at l;erw[Xy l (ok.gi _ (Xb m)).1]
def Yp(W:Wld)(S:Std)(k:Nat):Option Str:=match W.isl[k]? with
 |wc I=>match I.stps[S.num.getD k 0]? with
  |wc s=>if canM W S s then we else match s with
   |.take f _=>(W.fer[W.fat f]?).map (·.giver)
   |.give f _=>(W.fer[W.fat f]?).map (·.taker)
   |_=>we
  |we=>we
 |we=>we
noncomputable def optV:Option Str->MV
 |wc z=>.str z
 |we=>.non
def Wr{W:Wld}{f:Str}(h:f∈W.fns):∃F,W.fer[W.fat f]?=wc F/\F.name=f:=by
 have⟨a,b⟩:=YL h;erw[⟨_,X6 b,?_⟩];unfold Wld.fns at a;rw[Xe,X6 b]at a;erw[Y2 a]
abbrev Rx:SpM:=λj M Q=>∃(W:Wld) (S:Std) (A:StA) (c i:Nat) (I:Isl),j=[W.mv,A.mv,.str I.name]/\W.Good/\SOk W c S/\StdAt W S M A/\W.isl[i]?=wc I/\Q (optV (Yp W S i)) M
def _8U:MonW Rx:=by walk_at "m"
def _da(T:Txt E):FO E 52 "waits_for" Rx:=by
 erw[T.ci.ok T.g _8U 3 ["world","stand","name","asked","ferry"] (fC T (fc (QV T) (fc (QQ T) (fc (QS T) f0)))) No (fun r M Q h=>?_)];have⟨W,S,A,c,i,I,rfl,G,g,d,w,q⟩:=h;erw[⟨rfl,?_⟩];show wSs _ _ _ [wc W.mv,wc A.mv,wc (.str I.name),we,we] M;unfold Yp at q;rw[w]at q;dsimp only at q;delta No;simp!;erw[ex6 W S A c i I ⟨rfl,G,g,d,w,?_⟩];delta Nn;cases l:I.stps[S.num.getD i 0]? with
 |none=>
  rw[l]at q;have e:dueM I.stps (rhoK (S.wd.getD i [])) W.w (S.num.getD i 0)=.non:=by unfold dueM;rw[l]
  rw[e];simp!;delta EI;simp!;erw[q]
 |some s=>
  rw[l]at q;dsimp only at q;rw[QT l];have y:=_t G w l;have z:ZJ (askM s (rhoK (S.wd.getD i [])) W.w)=wg:=by cases s<;>rfl
  simp![z]
  erw[ex8 W S A c s (rhoK (S.wd.getD i [])) I.vars _ ⟨rfl,G,g,d,y,?_⟩];by_cases j:canM W S s=wf
  .rw[if_pos j]at q;rw[j];simp!;delta EI;simp!;erw[q]
  .rw[if_neg j]at q;have j:canM W S s=wg:=by simpa using j
   rw[j];simp!;delta Nm;cases s with
   |take f x=>
    have⟨F,u,m⟩:=Wr y.1;dsimp only at q;rw[u]at q;simp only[askM];simp!;erw[ex3 W (W.fat f) F ⟨by rw[m],G,u,?_⟩]
    delta EH;rw[Fer.mv];simp!;erw[q]
   |give f T=>
    have⟨F,u,m⟩:=Wr y.1;dsimp only at q;rw[u]at q;simp only[askM];simp!;erw[ex3 W (W.fat f) F ⟨by rw[m],G,u,?_⟩]
    delta EH;rw[Fer.mv];simp!;erw[q]
   |put x T=>cases j
   |jump T k=>cases j
def Uz(W:Wld)(S:Std):Nat->List Str->Option Str->List Str
 |0,ns,_=>ns
 |_+1,ns,we=>ns
 |m+1,ns,wc z=>if z∈ns then ns++[z]else Uz W S m (ns++[z]) (Yp W S (W.ins.idxOf z))
set_option tactic.hygienic true in
def FQ{W:Wld}(G:W.Good){S:Std}{k:Nat}{z:Str}(h:Yp W S k=wc z):z∈W.ins:=by
 unfold Yp at h;split at h
 .rename_i I u
  split at h
  .rename_i s w
   have l:=_t G u w;split at h
   .cases h
   .cases s with
    |take f x=>
     have⟨F,j,_⟩:=Wr l.1;dsimp only at h;rw[j]at h;cases h;erw[(G.fo F (Xb j)).g]
    |give f T=>
     have⟨F,j,_⟩:=Wr l.1;dsimp only at h;rw[j]at h;cases h;erw[(G.fo F (Xb j)).t]
    |put x T=>cases h
    |jump T k=>cases h
  .cases h
 .cases h
def Ry{W:Wld}{z:Str}(h:z∈W.ins):∃I,W.isl[W.ins.idxOf z]?=wc I/\I.name=z:=by
 have l:W.ins.idxOf z<W.ins.length:=FT.mpr h;have e:W.ins[W.ins.idxOf z]?=wc z:=by rw[X6 l,List.getElem_idxOf l]
 unfold Wld.ins at e;rw[Xe]at e;cases j:W.isl[(WB (λx=>x.name) W.isl).idxOf z]? with
 |none=>rw[j]at e;cases e
 |some I=>rw[j]at e;erw[⟨I,j,Y2 e⟩]
theorem FR:∀{j l:List Str},j.Nodup->(∀z∈j,z∈l)->j.length<=l.length
 |[],_,_,_=>Yg _
 |a::j,l,nd,h=>by
  rw[Yf]at nd;have u:=h a (Y3 ..);have:=FR (l:=l.erase a) nd.2 λz w=>(List.mem_erase_of_ne (λe=>nd.1 (by rw[<-e];erw[w]))).mpr (h z (XJ _ w))
  rw[List.length_erase_of_mem u]at this;have:=List.length_pos_of_mem u;rw[Yi];lia
abbrev AI:SpM:=λl M Q=>∃(W:Wld) (S:Std) (A:StA) (c i:Nat) (I:Isl),l=[W.mv,A.mv,.str I.name]/\W.Good/\SOk W c S/\StdAt W S M A/\W.isl[i]?=wc I/\
 ∀j p,SameM M j->M p=we->j p=wc (.lst ((Uz W S (W.isl.length+1) [I.name] (Yp W S i)).map MV.str))->Q (.ref p) j
def Rz:MonW AI:=by walk_at "m"
def _k9(T:Txt E):FO E 53 "chain" AI:=by
 erw[T.br.ok T.g Rz 3 ["world","stand","name","names","ahead","seen_before"] (fC T (fc (_da T) f0)) Nz (fun vs M Q h=>?_)];have⟨W,S,A,c,i,I,rfl,G,B,C,D,q⟩:=h;erw[⟨rfl,?_⟩];show wSs _ _ _ [wc W.mv,wc A.mv,wc (.str I.name),we,we,we] M;delta Nz;simp!;intro p r;have F:=SameM.new r (.lst [.str I.name]);have N:updM M p (.lst [.str I.name]) p=wc (.lst ([I.name].map MV.str)):=X9;generalize updM M p _=M0 at*;delta Ny;simp!;erw[ex6 W S A c i I ⟨rfl,G,B,C.keep F,D,?_⟩];delta Nw;simp!;have i5:=G.i5;have li:W.ins.length=W.isl.length:=by unfold Wld.ins;rw[X5]
 have O:I.name∈W.ins:=Xb (Y4 D);obtain⟨J,P⟩:∃J:Nat->Sm->MH->Prop,∀m R g,J m R g↔∃(j:List Str) (d:Option Str) (X:Option MV),SameM M g/\g p=wc (.lst (j.map MV.str))/\j.Nodup/\(∀z∈j,z∈W.ins)/\(∀z,d=wc z->z∈W.ins)/\j.length+m=W.isl.length+2/\Uz W S m j d=Uz W S (W.isl.length+1) [I.name] (Yp W S i)/\R=[wc W.mv,wc A.mv,wc (.str I.name),wc (.ref p),wc (optV d),X]:=⟨_,λ_ _ _=>XX⟩;erw[⟨J,⟨W.isl.length+1,(P _ _ _).mpr (ex3 [I.name] _ _ ⟨F,N,by simp,λz u=>by rw[Y1]at u;rw[u];erw[O],λz u=>FQ G u,by simp;lia,rfl,rfl⟩)⟩,?_⟩]
 rintro m R g h;have⟨j,d,X,s,hd,H,f,U,nm,l,rfl⟩:=(P _ _ _).mp h;have nl:=FR H f;obtain⟨L,rfl⟩:∃L,m=L+1:=⟨m - 1,by lia⟩
 cases d with
 |none=>
  have l:j=_:=l;simp only[optV];simp!;delta Np;simp!;erw[q g p s r (by rw[hd];erw[congrArg (λx=>wc (MO.lst (WB MV.str x))) l])]
 |some z=>
  have v:=U z rfl;have⟨n,Y,en⟩:=Ry v;simp only[optV];simp!;delta Nv;simp!;erw[.inl ⟨_,hd,rfl,Ar _,?_⟩];rw[Aq];delta Nu
  simp![hd]
  rw[X5];erw[⟨⟨_,rfl⟩,by lia,?_⟩]
  have Z:=s.upd r (.lst (j.map MV.str++[.str z]));have hd1:updM g p (.lst (j.map MV.str++[.str z])) p=wc (.lst ((j++[z]).map MV.str)):=by rw[X9,XI];rfl
  generalize updM g p _=M1 at*;delta Nt;simp!;by_cases u:z∈j
  .rw[if_pos u];delta Nr;simp!;have l:(if z∈j then j++[z]else _)=_:=l;rw[if_pos u]at l;erw[q M1 p Z r (by rw[hd1];erw[congrArg (λx=>wc (MO.lst (WB MV.str x))) l])]
  .rw[if_neg u];delta Nq;simp!;erw[ex6 W S A c (W.ins.idxOf z) n ⟨by rw[en],G,B,C.keep Z,Y,?_⟩]
   have l:(if z∈j then _ else Uz W S L (j++[z]) (Yp W S (W.ins.idxOf z)))=_:=l;rw[if_neg u]at l;erw[⟨L,ZC _,(P _ _ _).mpr (ex3 (j++[z]) _ _ ⟨Z,hd1,?_,λy w=>?_,λy w=>FQ G w,by rw[XR];simp;lia,l,rfl⟩)⟩]
   .rw[Yy];erw[⟨H,by simp,λa ha b o e=>by rw[Y1]at o;subst o;subst e;erw[u ha]⟩]
   .rcases Ye.mp w with w|w
    .erw[f y w]
    .rw[Y1]at w;rw[w];erw[v]
def _gc{j l:Type}{u:List j}{w:List l}{p:j×l}(h:p∈u.zip w):∃i:Nat,u[i]?=wc p.1/\w[i]?=wc p.2:=by
 have⟨i,y,rfl⟩:=Yq h;rw[B9]at y;erw[⟨i,?_,?_⟩]<;>rw[List.getElem_zip,X6]
abbrev AJ:SpM:=λw M Q=>∃(a:Addr) (l:List Str) (c:Nat),w=[.ref a,.int c]/\M a=wc (.lst (l.map MV.str))/\l.length<=5/\∀u p (j:List Str),SameM M u->M p=we->u p=wc (.lst (j.map MV.str))->j.Perm l->Q (.ref p) u
def RA:MonW AJ:=by walk_at "m"
def _9B(T:Txt E):FO E 1 "_law_stretch" AJ:=by
 erw[T.bf.ok T.g RA 2 ["names","number","left","row","at"] (fC T f0) OE (fun vs M Q h=>?_)];have⟨a,g,c,rfl,S,zl,q⟩:=h;erw[⟨rfl,?_⟩];show wSs _ _ _ [wc (.ref a),wc (.int c),we,we,we] M;delta OE
 simp![S]
 intro l C;have D:=SameM.new C (.lst (g.map MV.str));have d:updM M l (.lst (g.map MV.str)) l=wc (.lst (g.map MV.str)):=X9;generalize updM M l _=M1 at*;delta OD;simp!;intro p L;have f:=D.free L;have X:=D.trans (SameM.new L (.lst []));have O:=SameM.new L (.lst []) _ _ d;have P:updM M1 p (.lst []) p=wc (.lst (([]:List Str).map MV.str)):=X9;have F:l≠p:=neM d L;generalize updM M1 p _=M2 at*;delta OC;simp!;obtain⟨J,R⟩:∃J:Nat->Sm->MH->Prop,∀m U w,J m U w↔∃(j u:List Str) (c:Nat) (v:Option MV),SameM M w/\w l=wc (.lst (j.map MV.str))/\w p=wc (.lst (u.map MV.str))/\j.length=m/\(u++j).Perm g/\U=[wc (.ref a),wc (.int c),wc (.ref l),wc (.ref p),v]:=⟨_,λ_ _ _=>XX⟩;erw[⟨J,⟨_,(R _ _ _).mpr (ex4 g [] c _ ⟨X,O,P,rfl,.refl _,rfl⟩)⟩,?_⟩];rintro m U w h;have⟨j,u,c,v,s,G,H,em,N,rfl⟩:=(R _ _ _).mp h
 simp![G]
 intro e o;have W:=SameM.new o (.lst []);have r:=W _ _ G;have Y:=W _ _ H;have I:=s.trans W;erw[Wd r X9 ?_];generalize updM w e _=M3 at*;erw[XY (λZ=>?_) λZ=>?_]
 rotate_left
 .obtain rfl:j=[]:=by
   cases j with
   |nil=>rfl
   |cons=>erw[absurd rfl Z]
  delta Oy;simp!;rw[YS]at N;erw[q M3 p u I f Y N]
 have i:0<j.length:=by
  cases j with
  |nil=>cases Z
  |cons=>erw[Nat.succ_pos _]
 have l5:u.length+j.length<=5:=by
  have:=N.length_eq;rw[XR]at this;lia
 delta OB
 simp![r,X5]
 erw[⟨by lia,?_⟩]
 delta OA
 simp![r,X5]
 erw[⟨⟨by lia,by lia⟩,?_⟩]
 delta Oz
 simp![Y]
 have A:=UL c i;erw[⟨⟨_,rfl⟩,⟨_,r⟩,show∃B,M3 l=wc (.lst B)/\∃k y,-(2^63)<=((c%j.length:Nat):Int)/\((c%j.length:Nat):Int)<2^63/\seqIndex? ((c%j.length:Nat):Int) B.length=wc k/\B[k]?=wc y/\_ from⟨_,r,c%j.length,.str j[c%j.length],by lia,by lia,?_,by rw[Xe,X6 A];rfl,?_⟩⟩]
 .rw[X5];erw[seqIndex_of (by lia) (by lia)]
 have n:(j.map MV.str).eraseIdx (c%j.length)=(j.eraseIdx (c%j.length)).map MV.str:=by rw[AU,AU,XI,Ba,List.map_drop]
 rw[n];have x:=ers j _ A;have el:=CY A;generalize j.eraseIdx (c%j.length)=l2 at*;generalize j[c%j.length]=z at*;have b:updM M3 l (.lst (l2.map MV.str)) p=wc (.lst (u.map MV.str)):=(X7 F.symm).trans Y;have e7:updM M3 l (.lst (l2.map MV.str)) l=wc (.lst (l2.map MV.str)):=X9;have s5:=I.upd C (.lst (l2.map MV.str));generalize updM M3 l _=M4 at*
 simp![b]
 rw[X5];erw[⟨by lia,l2.length,by lia,(R _ _ _).mpr (ex4 l2 (u++[z]) _ _ ⟨s5.upd f _,(X7 F).trans e7,by rw[X9,XI];rfl,rfl,?_,rfl⟩)⟩]
 rw[UE];erw[(x.append_left u).trans N]
abbrev AK:SpM:=λy M Q=>∃(r:Addr) (W:Wld) (R:RunS) (S:Std) (A:StA) (c:Nat) (j l:Addr) (u:List MV),y=[.ref r,A.mv,.ref j,.ref l]/\W.Good/\RunAt M W r R (λ_=>R.m)/\SOk W c S/\StdAt W S M A/\M j=wc (.lst u)/\IslsIn M W.isl u/\M l=wc (.lst (W.fer.map Fer.mv))/\Rt W S M R/\Ru W S R/\∀w,SameM M w->Q (.bl wf) w
def RB:MonW AK:=by walk_at "m"
def _ch(T:Txt E):FO E 4 "_law_alike" AK:=by
 erw[T.cx.ok T.g RB 4 ["run","stand","islands","ferries","island","name","ferry","given"] (mC T [("Run_given",CL),("Run_number",CQ),("Run_taken",CM),("Run_words",CS)] [("Run_given",CL),("Run_number",CQ),("Run_taken",CM),("Run_words",CS)] [(0,"Run","given"),(1,"Run","number"),(2,"Run","taken"),(3,"Run","words")] [] f0 (fMc _93 (fMc _7t (fMc _91 (fMc _90 nl0)))) (fMc ⟨_,_,rfl,fM (_dj T)⟩ (fMc ⟨_,_,rfl,fM (_ci T)⟩ (fMc ⟨_,_,rfl,fM (_dh T)⟩ (fMc ⟨_,_,rfl,fM (_dg T)⟩ nl0)))) nl0) OL (fun vs M Q h=>?_)];have⟨r,W,R,S,A,c,n,pf,ys,rfl,G,hR,L,hA,Y,Z,B,si,sf,q⟩:=h;erw[⟨rfl,?_⟩];show wSs _ _ _ [wc (.ref r),wc A.mv,wc (.ref n),wc (.ref pf),we,we,we,we] M;delta OL
 simp![Y]
 obtain⟨J,N⟩:∃J:Nat->Sm->MH->Prop,∀j z p,J j z p↔∃(X H:Option MV),SameM M p/\z=[wc (.ref r),wc A.mv,wc (.ref n),wc (.ref pf),X,H,we,we]:=⟨_,λ_ _ _=>XX⟩;erw[⟨J,(N _ _ _).mpr ⟨_,_,SameM.refl _,rfl⟩,λj z p h=>?_,?_,?_⟩]
 .have⟨_,_,s,_⟩:=(N _ _ _).mp h;erw[s _ _ Y]
 .rintro k y z M1 O h;have⟨X,H,s,rfl⟩:=(N _ _ _).mp h;have O:ys[k]?=wc y:=O;obtain⟨I,g⟩:∃I,W.isl[k]?=wc I:=⟨_,X6 (by rw[<-Z.1];erw[(Xo.mp O).1])⟩
  have⟨_,_,rfl,_⟩:=Z.2 k I y g O;have⟨a,hn,ha,o⟩:=si k I g;have l:=hR.keep s;have d:=hA.keep s;have P:=l.ob;have⟨b,hb,u⟩:=d.ws_at L g;have⟨nd,i⟩:=(L.wi k I _ g (UX L g)).nodup (G.io I (Xb g)).nd;delta OK;simp!;delta OJ
  simp![P,runO,valM]
  erw[ex7 r W R _ k _ I ⟨rfl,G,l,g,hn,?_⟩]
  try walk_at "s"
  simp![P,runO,valM]
  erw[ex8 r W R _ k I a _ ⟨rfl,G,l,g,ha,s _ _ o,λw1 hw1=>?_⟩];have e:=SameM.new hw1 (.dic (S.wd.getD k []));have U:updM M1 w1 (.dic (S.wd.getD k [])) w1=wc (.dic (S.wd.getD k [])):=X9;have w:=d.keep e;have u:=e _ _ u;generalize updM M1 w1 _=M2 at*
  try walk_at "s"
  simp![StA.mv,w.n]
  erw[⟨_,CF G L g,?_⟩]
  simp![StA.mv,w.w]
  erw[⟨_,Fy G g hb,?_⟩]
  try walk_at "s"
  erw[Ae rfl (Alike.two (Alike.flat _ rfl) (Alike.dicFlat 0 U u nd i)) (by decide) ?_]
  try walk_at "s"
  erw[(N _ _ _).mpr ⟨_,_,s.trans e,rfl⟩]
 rintro z M1 h;have⟨X,H,s,rfl⟩:=(N _ _ _).mp h;clear N h;have C:=s _ _ B;delta OI
 simp![C]
 obtain⟨J2,m⟩:∃J:Nat->Sm->MH->Prop,∀j z p,J j z p↔∃(v6 v7:Option MV),SameM M p/\z=[wc (.ref r),wc A.mv,wc (.ref n),wc (.ref pf),X,H,v6,v7]:=⟨_,λ_ _ _=>XX⟩;erw[⟨J2,(m _ _ _).mpr ⟨_,_,s,rfl⟩,λj z p h=>?_,?_,?_⟩]
 .have⟨_,_,s,_⟩:=(m _ _ _).mp h;erw[s _ _ B]
 .rintro k y z M1 O h;have⟨v6,v7,s,rfl⟩:=(m _ _ _).mp h;have⟨o,rfl⟩:=Yj (show(W.fer.map Fer.mv)[k]?=wc y from O);have D:=X6 o;generalize W.fer[k]=f at*;obtain⟨x,hx⟩:∃b,R.bs[k]?=wc b:=⟨_,X6 (by rw[hR.bl];erw[o])⟩
  have⟨sg,st⟩:=sf k f x D hx;have fm:f.name∈W.fns:=XA.mpr ⟨f,Xb D,rfl⟩;have fa:=_b G D;have l:=hR.keep s;have d:=hA.keep s;have P:=l.ob;have i:∀xs:List Nat,∀v∈xs.map natM,Yb v=wf:=λxs v hv=>by have⟨c,_,rfl⟩:=XA.mp hv;rfl
  delta OH
  simp![P,runO,valM,Fer.mv]
  erw[ex7 r W R _ k f x ⟨rfl,G,l,D,hx,λg1 hg1=>?_⟩];have e:=SameM.new hg1 (.lst (x.A.ws.map natM));have U:updM M1 g1 (.lst (x.A.ws.map natM)) g1=wc (.lst (x.A.ws.map natM)):=X9;have F:=l.keep e;have w:=d.keep e;have s:=s.trans e;generalize updM M1 g1 _=M2 at*;have⟨b,hb,u⟩:=w.gs_at L fm;rw[fa,<-sg]at u;have P:=F.ob
  try walk_at "s"
  delta OG
  simp![StA.mv,w.g,Fer.mv]
  erw[⟨_,Az G fm hb,?_⟩];erw[Ae rfl (Alike.lstFlat 0 (.inr ⟨_,rfl,U⟩) (.inr ⟨_,rfl,u⟩) (i _)) (by decide) ?_]
  try walk_at "s"
  simp![P,runO,valM,Fer.mv]
  erw[ex7 r W R _ k f x ⟨rfl,G,F,D,hx,λg2 hg2=>?_⟩];have s3:=SameM.new hg2 (.lst ((x.A.ws.take x.A.tn).map natM));have e3:updM M2 g2 (.lst ((x.A.ws.take x.A.tn).map natM)) g2=wc (.lst ((x.A.ws.take x.A.tn).map natM)):=X9;have U:=s3 _ _ U;have hA3:=w.keep s3;have s:=s.trans s3;generalize updM M2 g2 _=M3 at*
  try walk_at "s"
  simp![U,StA.mv,hA3.t,Fer.mv]
  erw[⟨_,AA G L fm,_,rfl,λc2 hc2=>?_⟩];rw[fa,<-st,Pm,<-Ba];have s4:=SameM.new hc2 (.lst ((x.A.ws.take x.A.tn).map natM));erw[Ae rfl (Alike.lstFlat 0 (.inr ⟨_,rfl,s4 _ _ e3⟩) (.inr ⟨_,rfl,X9⟩) (i _)) (by decide) ?_]
  try walk_at "s"
  erw[(m _ _ _).mpr ⟨_,_,s.trans s4,rfl⟩]
 .rintro z M1 h;have⟨v6,v7,s,rfl⟩:=(m _ _ _).mp h;delta OF;simp!;erw[q _ s]
abbrev AL:SpM:=λu M Q=>∃(W:Wld) (S:Std) (c i:Nat) (I:Isl) (y:MV) (j:Addr),u=[y,.int (S.num.getD i 0:Nat),.ref j]/\W.Good/\SOk W c S/\W.isl[i]?=wc I/\IslIn M I y/\M j=wc (.lst (W.fer.map Fer.mv))/\(∀s,I.stps[S.num.getD i 0]?=wc s->canM W S s=wg)/\∀l,SameM M l->Q (.tup [YX I.stps[S.num.getD i 0]?,optV (Yp W S i)]) l
def RC:MonW AL:=by walk_at "m"
def _cf(T:Txt E):FO E 1 "_law_waits" AL:=by
 erw[T.bN.ok T.g RC 3 ["island","number","ferries","ferry"] (fC T f0) OQ (fun vs M Q h=>?_)];have⟨W,S,c,i,I,_,Y,rfl,G,B,d,⟨a,b,rfl,_,C⟩,r,D,q⟩:=h;erw[⟨rfl,?_⟩];show wSs _ _ _ [wc (.tup [.str I.name,.ref a,.ref b]),wc (.int (S.num.getD i 0:Nat)),wc (.ref Y),we] M;have ni:=B.ni i I _ d (Fw B d);have ew:Yp W S i=match I.stps[S.num.getD i 0]? with|wc s=>(match s with|.take f _=>(W.fer[W.fat f]?).map (·.giver)|.give f _=>(W.fer[W.fat f]?).map (·.taker)|_=>we)|we=>we:=by
  unfold Yp;rw[d];dsimp only;cases u:I.stps[S.num.getD i 0]? with
  |none=>rfl
  |some s=>dsimp only;rw[D s u];rfl
 rw[ew]at q;delta OQ
 simp![C,X5]
 erw[XY (λe=>?_) λe=>?_]
 .rw[Zj (by lia)]at q
  delta OP;simp!;erw[q _ (SameM.refl _)]
 have hl:S.num.getD i 0<I.stps.length:=by lia
 have u:=X6 hl;rw[u]at q;have L:=D _ u;have X:=_t G d u;have H:=G.en I (Xb d) _ (Xb u);have o:atI (I.stps.map Stp.mv) (S.num.getD i 0:Nat)=wc (Stp.mv I.stps[S.num.getD i 0]):=Yn (by rw[Xe,u];rfl)
 generalize I.stps[S.num.getD i 0]=s at*;obtain⟨F,n,tl,hF,e1,q⟩:∃(F:Fer) (n:Str) (tl:List MV),F∈W.fer/\s.mv=.tup (.str n::.str F.name::tl)/\∀l,SameM M l->Q (.tup [.tup [.str "wait",.str F.name],.str (if F.giver=I.name then F.taker else F.giver)]) l:=by
  cases s with
  |take f x=>
   have⟨F,N,O⟩:=Wr X.1;have m:=Xb N;have t:=H F m O;subst O;erw[ex3 F _ _ ⟨m,rfl,?_⟩];rw[if_neg λz=>(G.fo F m).ne (z.trans t.symm)];dsimp only at q;rw[N]at q;erw[q]
  |give f T=>
   have⟨F,N,O⟩:=Wr X.1;have m:=Xb N;have t:=H F m O;subst O;erw[ex3 F _ _ ⟨m,rfl,?_⟩];rw[if_pos t];dsimp only at q;rw[N]at q;erw[q]
  |put x T=>cases L
  |jump T k=>cases L
 rw[e1]at o;delta OO
 simp![r]
 obtain⟨J,P⟩:∃J:Nat->Sm->MH->Prop,∀j R l,J j R l↔∃v:Option MV,l=M/\(∀g∈W.fer.take j,g.name≠F.name)/\R=[wc (.tup [.str I.name,.ref a,.ref b]),wc (.int (S.num.getD i 0:Nat)),wc (.ref Y),v]:=⟨_,λ_ _ _=>XX⟩;erw[⟨J,(P _ _ _).mpr ⟨_,rfl,nl0,rfl⟩,λj R l h=>?_,?_,?_⟩]
 .have⟨_,rfl,_⟩:=(P _ _ _).mp h;erw[r]
 .rintro j y R l hy h;have⟨v,rfl,U,rfl⟩:=(P _ _ _).mp h;have⟨Z,rfl⟩:=Yj (show(W.fer.map Fer.mv)[j]?=wc y from hy);have ht:W.fer.take (j+1)=W.fer.take j++[W.fer[j]]:=by rw[Z7,X6 Z];rfl
  have hf:=X6 Z;generalize W.fer[j]=f at*;delta ON
  simp![C,o,Fer.mv]
  erw[XY (λe=>?_) λe=>?_]
  .have⟨k,A⟩:=ZS hF;obtain rfl:j=k:=(UG (by rw[fns_len];erw[Z]) G.fn_nd).mp ((U5 hf).trans ((congrArg wc e).trans (U5 A).symm))
   rw[hf]at A;cases A;delta OM;simp!;intro p hp;erw[⟨.str (if F.giver=I.name then F.taker else F.giver),?_,q _ (SameM.new hp _)⟩];split<;>rfl
  .erw[(P _ _ _).mpr ⟨_,rfl,λg w=>?_,rfl⟩];rw[ht]at w;rcases Ye.mp w with w|w
   .erw[U g w]
   .rw[Y1]at w;subst w;erw[e]
 .rintro R l h;have⟨v,rfl,U,rfl⟩:=(P _ _ _).mp h;have el:(Src.lst Y (W.fer.map Fer.mv)).len=W.fer.length:=X5 _;rw[el,Va]at U;erw[absurd rfl (U F hF)]
def _nv(j:List MV)(z:MV):cutM (j++[z]) we (wc (-1))=j:=by
 unfold cutM;have e:HT.sIx (j++[z]).length (j++[z]).length (wc (-1))=j.length:=by
  have:(j++[z]).length=j.length+1:=by simp
  rw[this];simp[HT.sIx];lia
 have l:HT.sIx (j++[z]).length 0 we=0:=by simp[HT.sIx]
 rw[e,l,De,Bo,List.take_left']
 rfl
def WtsAt(W:Wld)(S:Std)(M:MH)(w:Addr):Prop:=∃j,M w=wc (.dic (zipK W.ins j))/\∀(i:Nat)I,W.isl[i]?=wc I->j[i]?=wc (.tup [YX I.stps[S.num.getD i 0]?,optV (Yp W S i)])
def WtsAt.keep{W:Wld}{S:Std}{M M':MH}{w:Addr}(h:WtsAt W S M w)(s:SameM M M'):WtsAt W S M' w:=by
 have⟨j,e,f⟩:=h;erw[⟨j,s _ _ e,f⟩]
abbrev AM:SpM:=λl M Q=>∃(W:Wld) (S:Std) (i:Nat) (I:Isl) (p w:Addr),l=[.ref p,.str I.name,.ref w]/\W.Good/\W.isl[i]?=wc I/\M p=wc (.lst ((Uz W S (W.isl.length+1) [I.name] (Yp W S i)).map MV.str))/\WtsAt W S M w/\∀j,SameM M j->Q (.bl wf) j
def RD:MonW AM:=by walk_at "m"
def _8R(T:Txt E):FO E 1 "_law_is_chain" AM:=by
 erw[T.aG.ok T.g RD 3 ["found","name","waits","due"] (fC T f0) OT (fun vs M Q h=>?_)];have⟨W,S,i,I,p,w,rfl,G,hI,hp,⟨ws,hw,wv⟩,q⟩:=h;erw[⟨rfl,?_⟩];show wSs _ _ _ [wc (.ref p),wc (.str I.name),wc (.ref w),we] M;have i5:=G.i5;delta OT;simp!;intro d hd;have s0:=SameM.new hd (.lst [.str I.name]);have A:updM M d (.lst [.str I.name]) d=wc (.lst (([]++[I.name]).map MV.str)):=X9;generalize updM M d _=M0 at*;delta OS;simp!;generalize hC:Uz W S (W.isl.length+1) [I.name] (Yp W S i)=C at*;obtain⟨J,B⟩:∃J:Nat->Sm->MH->Prop,∀m D f,J m D f↔∃(j:List Str) (k:Nat) (l:Isl),SameM M f/\W.isl[k]?=wc l/\f d=wc (.lst ((j++[l.name]).map MV.str))/\j.length<=5/\((l.name∈j/\C=j++[l.name])\/(l.name∉j/\(j++[l.name]).Nodup/\(∀z∈j,z∈W.ins)/\j.length+m=W.isl.length+1/\Uz W S m (j++[l.name]) (Yp W S k)=C))/\D=[wc (.ref p),wc (.str I.name),wc (.ref w),wc (.ref d)]:=⟨_,λ_ _ _=>XX⟩;erw[⟨J,⟨W.isl.length+1,(B _ _ _).mpr (ex3 [] i I ⟨s0,hI,A,Yg _,.inr ⟨XN,by simp,nl0,by simp,hC⟩,rfl⟩)⟩,?_⟩]
 rintro m D f h;have⟨j,k,l,s,U,x,nl,cs,rfl⟩:=(B _ _ _).mp h;have F:=YK G.in_nd (Y4 U) (wv k l U);have X:=s _ _ hw;have H:atI ((j++[l.name]).map MV.str) (-1)=wc (.str l.name):=by rw[XI];erw[TH _ _]
 simp![x,H]
 intro c hc;have ec:cutM ((j++[l.name]).map MV.str) we (wc (-1))=j.map MV.str:=by rw[XI];erw[_nv _ _]
 rw[ec];have v:=SameM.new hc (.lst (j.map MV.str));have Y:=v _ _ x;have L:=v _ _ X;have e3:updM f c (.lst (j.map MV.str)) c=wc (.lst (j.map MV.str)):=X9;have s:=s.trans v;generalize updM f c _=M2 at*;erw[.inl ⟨_,e3,rfl,Ar _,?_⟩];rw[Aq];have N:C=j++[l.name]->wSs [] EQ {nx:=λ_ f=>Q .non f,rt:=Q} [wc (.ref p),wc (.str I.name),wc (.ref w),wc (.ref d)] M2:=λeC=>by
  subst eC;have O:=s _ _ hp;delta EQ
  simp![O]
  erw[Ae rfl (Alike.lstFlat 0 (.inr ⟨_,rfl,O⟩) (.inr ⟨_,rfl,Y⟩) (VD.mp (Ar _))) (by decide) ?_]
  try walk_at "s"
  erw[q _ s]
 by_cases hm:l.name∈j
 .rw[decide_eq_true hm];simp!;rcases cs with⟨_,h⟩|⟨h,_⟩
  .erw[N h]
  .erw[absurd hm h]
 rw[decide_eq_false hm];rcases cs with⟨h,_⟩|⟨_,nd,P,nm,u⟩
 .erw[absurd h hm]
 have o:=FR nd λz g=>(Ye.mp g).elim (P z) λg=>by rw[Y1.mp g];erw[Xb (Y4 U)]
 rw[XR,UD,ins_len]at o;obtain⟨Z,rfl⟩:∃Z,m=Z+1:=⟨m - 1,by lia⟩
 simp![Y,H,L]
 erw[⟨_,F,?_⟩];cases r:Yp W S k with
 |none=>
  rw[r]at u
  try walk_at "s"
  erw[N u.symm]
 |some z=>
  rw[r]at u F;have⟨I2,n,en⟩:=Ry (FQ G r);simp only[optV]
  try walk_at "s"
  delta OR
  simp![Y,H,L]
  erw[⟨⟨_,rfl⟩,_,F,?_⟩];simp only[optV]
  simp![Y]
  rw[X5,XR,UD];have u:(if z∈j++[l.name]then j++[l.name]++[z]else Uz W S Z (j++[l.name]++[z]) (Yp W S (W.ins.idxOf z)))=C:=u;erw[⟨by lia,Z,ZC _,(B _ _ _).mpr (ex3 (j++[l.name]) _ I2 ⟨s.upd hd _,n,by rw[X9,en,XI (l₂:=[z])];rfl,by rw[XR,UD];lia,?_,rfl⟩)⟩]
  rw[en];by_cases g:z∈j++[l.name]
  .rw[if_pos g]at u;erw[.inl ⟨g,u.symm⟩]
  .rw[if_neg g]at u;erw[.inr ⟨g,?_,λy R=>?_,by rw[XR,UD];lia,u⟩]
   .rw[Yy];erw[⟨nd,by simp,λa ha b hb e=>by rw[Y1]at hb;subst hb;subst e;erw[g ha]⟩]
   .rcases Ye.mp R with R|R
    .erw[P y R]
    .rw[Y1.mp R];erw[Xb (Y4 U)]
def _jr{j:List Str}{l:List MV}{k:Str}(v:MV)(h:l.length=j.length)(u:k∉j):putM (zipK j l) (Xn k) v=zipK (j++[k]) (l++[v]):=by
 rw[Fv h,Fu];intro p w e;have:p.1∈(zipK j l).map (·.1):=XA.mpr ⟨p,w,rfl⟩;rw[Aw h,e]at this;have⟨z,y,m⟩:=XA.mp this;cases m;erw[u y]
def _gy{g:List (Str×SpM)}{own:List Str}{fr:List Nat}{u:ISr}{c:ITg}{l r:IE}{p:Sm}{M:MH}{Q:QM}{N:Type}(y:List N)(f:N->MV)
  (U:wSr g u p M λS M1=>S.items=y.map f/\y.length<sizeLine/\S.okF M1/\M1=M)
  (W:∀x∈y,∀w,SameM M w->wTg c (f x) (sCm own fr p) λz=>wE g l z w λv M2=>v=.bl wg/\SameM w M2)
  (m:∀(j:Nat)f O,g[j]?=wc (f,O)->MonW O)(q:∀D w,SameM M w->w D=wc (.lst [])->Q (.ref D) w):wE g (.comp own fr u c (.some l) r) p M Q:=by
 rw[Af];erw[mon_sr m u (λS M1 h=>?_) U];have⟨P,Y,L,Z⟩:=h;subst Z;have A:S.len=y.length:=by rw[<-S.items_len,P,X5]
 erw[⟨by rw[A];erw[Y],λD B=>⟨λi d M2=>SameM M1 M2/\M2 D=wc (.lst [])/\d=[],⟨SameM.new B _,X9,rfl⟩,?_,?_,?_⟩⟩]
 .rintro i d M2 ⟨s,e,rfl⟩;erw[⟨e,Yg _,?_⟩];cases S with
  |tup _=>trivial
  |rng _ _=>trivial
  |dic _ _ _=>erw[L.elim]
  |str _=>trivial
  |lst a G=>erw[s _ _ L]
 .rintro i x d M2 R ⟨s,e,rfl⟩;rw[P]at R;have⟨C,rfl⟩:=Yj R;erw[W8 c (λz h=>?_) (W y[i] (XS C) _ s)];rw[wI];erw[Xc m l (λv I h=>?_) h];have⟨F,T⟩:=h;subst F;erw[⟨wg,rfl,by rw[if_neg XB];erw[⟨s.trans T,T _ _ e,rfl⟩]⟩]
 .rintro d M2 ⟨s,e,rfl⟩;rw[Ag L];erw[q D _ s e]
noncomputable abbrev sg(j:List Int)(W:Wld)(u w:Addr)(A:StA)(n:Nat)(B:StA)(g:Addr)(l:List (Option MV)):Sm:=wc (.frl (j.map MV.int))::wc (.int W.w)::wc (.ref u)::wc (.ref w)::wc W.mv::wc A.mv::wc (.int n)::wc B.mv::wc (.ref g)::l
def _pi(T:Txt E){f:Addr}{d:Zd}(F:Fn1 E.K "law" Jq f d):FnOk E.P E.w E.K E.mg E.base CX0 60 f d ["script"] (liSp E.K Jj):=by
 erw[F.F.okM (scB.fs (n:=1) (N:=["script","width","islands","ferries","world","stand","rounds","behind","going","late","ferry","cells","names","run","k","cell","name","waits","island","choice"]) (by decide+kernel)) (mC T [("_law_alike",AK),("_law_is_chain",AM),("_law_rings",AF),("_law_stretch",AJ),("_law_things",Av),("_law_waits",AL),("chain",AI),("first_stand",AB),("made",As),("round_of",AD),("Run___init__",Wo),("Run_ring",Wn)] [("Run___init__",Wo),("Run_ring",Wn)] [(11,"Run","ring")] [(10,"Run")] (fc (_ch T) (fc (_8R T) (fc (_cg T) (fc (_9B T) (fc (_aI T) (fc (_cf T) (fc (_k9 T) (fc (_aG T) (fc (_mB T) (fc (_ej T) f0)))))))))) (fMc Rh (fMc Rf nl0)) (fMc ⟨_,_,rfl,fM (_el T)⟩ nl0) (fMc ⟨_,_,rfl,fI (_9D T)⟩ nl0)) Pl (by decide+kernel) (fun vs M Q h=>?_) (fun vs M Q h=>?_)]
 .have⟨ns,rfl,_⟩:=h;rfl
 have⟨ns,rfl,h63,q⟩:=h;have hΦ:=(U1 (u:=[("_law_alike",AK),("_law_is_chain",AM),("_law_rings",AF),("_law_stretch",AJ),("_law_things",Av),("_law_waits",AL),("chain",AI),("first_stand",AB),("made",As),("round_of",AD),("Run___init__",Wo),("Run_ring",Wn)]) (fMc RB (fMc RD (fMc Ri (fMc RA (fMc QH (fMc RC (fMc Rz (fMc R8 (fMc Q8 (fMc Ra (fMc Rh (fMc Rf nl0)))))))))))));show wSs _ _ _ [wc (.frl (ns.map .int)),we,we,we,we,we,we,we,we,we,we,we,we,we,we,we,we,we,we,we] M;delta Pl;simp!;erw[⟨ns,1,rfl,λW pi pf ys M1 s1 G i1 f1 f2 f3 hpi hIs hpf=>?_⟩];have i5:=G.i5;have f6:=G.f6;simp!;delta Pk
 simp![hpi]
 intro p1 hp1;have s2:=SameM.new hp1 (.lst ys);have hp2:updM M1 p1 (.lst ys) p1=wc (.lst ys):=X9;generalize updM M1 p1 _=M2 at*;have hpf2:=s2 _ _ hpf
 simp![hpf2]
 intro p2 hp3;have s3:=SameM.new hp3 (.lst (W.fer.map Fer.mv));have hp4:updM M2 p2 (.lst (W.fer.map Fer.mv)) p2=wc (.lst (W.fer.map Fer.mv)):=X9;generalize updM M2 p2 _=M3 at*;erw[ex4 p1 p2 ys W ⟨rfl,s3 _ _ hp2,hIs.keep (s2.trans s3),hp4,G,λM4 s4=>?_⟩];have s14:=(s2.trans s3).trans s4;have hpi4:=s14 _ _ hpi;have cC:=s14 _ _ hpf;have hIs4:=hIs.keep s14;have hys:∀(i:Nat)I y,W.isl[i]?=wc I->ys[i]?=wc y->∃xs,y=.tup (.str I.name::xs):=λi I y a b=>by
  have⟨_,_,e,_⟩:=hIs.2 i I y a b;erw[⟨_,e⟩]
 have yl:ys.length=W.isl.length:=hIs.1
 try walk_at "s"
 delta Pj;simp!;erw[⟨W,rfl,G,λM5 A0 s5 hA0 _ _=>?_⟩];delta Pi;simp!;delta Ph;simp!;erw[ex4 W (Xh W 0) A0 (5*0) ⟨rfl,G,Wm G 0,by lia,hA0,λM6 B0 g0 s6 hB0 _ _ _ hg0=>?_⟩]
 have rest:∀(n:Nat)(A B:StA)(g:Addr)(M7:MH),n<=12->SameM M4 M7->StdAt W (Xh W n) M7 A->M7 g=wc (.lst ((Ay W (Xh W n)).map MV.str))->wSs ([("_law_alike",AK),("_law_is_chain",AM),("_law_rings",AF),("_law_stretch",AJ),("_law_things",Av),("_law_waits",AL),("chain",AI),("first_stand",AB),("made",As),("round_of",AD),("Run___init__",Wo),("Run_ring",Wn)]:List (Str×SpM)) ER {nx:=fun _ l=>Q .non l,rt:=Q} (sg ns W pi pf A n B g [we,we,we,we,we,we,we,we,we,we,we]) M7:=by
  clear hA0 hB0 hg0 s5 s6;intro n A B g M7 n12 s7 hA hg;delta ER
  simp![hg]
  intro e0 he0;have s8:=SameM.new he0 (.lst []);erw[Wd (s8 _ _ hg) X9 ?_];have s7:=s7.trans s8;have hA:=hA.keep s8;generalize updM M7 e0 _=M8 at*;erw[XY (λ_=>?_) λhz=>?_]
  .delta Pc;simp!;erw[q _]
  have hst:CW W n:=_jF (by
   cases hw:Ay W (Xh W n)with
   |nil=>rfl
   |cons=>rw[hw]at hz;erw[absurd rfl hz])
  clear hg s8 he0;delta Pb;simp!;delta Pa;have cJ:=s7 _ _ cC
  simp![cJ]
  obtain⟨J2,hJ2⟩:∃J:Nat->Sm->MH->Prop,∀j U l,J j U l↔∃(v10:Option MV),l=M8/\U=(sg ns W pi pf A n B g [wc (.int (Z3 (W.fer.take j) 2:Nat)),v10,we,we,we,we,we,we,we,we,we]):=⟨_,λ_ _ _=>XX⟩;erw[⟨J2,(hJ2 _ _ _).mpr ⟨_,rfl,rfl⟩,λj U l h=>?_,?_,?_⟩]
  .have⟨_,rfl,_⟩:=(hJ2 _ _ _).mp h;erw[cJ]
  .rintro j y U l X h;have⟨v10,rfl,rfl⟩:=(hJ2 _ _ _).mp h;have⟨hj,rfl⟩:=Yj (show(W.fer.map Fer.mv)[j]?=wc y from X);have et:Z3 (W.fer.take (j+1)) 2=max (Z3 (W.fer.take j) 2) (2+W.fer[j].st):=by
    unfold Z3;rw[Z7,X6 hj,B5];rfl
   delta P9
   simp![Fer.mv]
   have ez:(if(2:Int)+(W.fer[j].st:Nat)>(Z3 (W.fer.take j) 2:Nat)then(2:Int)+(W.fer[j].st:Nat)else(Z3 (W.fer.take j) 2:Nat))=((Z3 (W.fer.take (j+1)) 2:Nat):Int):=by
    rw[et];split<;>lia
   rw[ez];erw[(hJ2 _ _ _).mpr ⟨_,rfl,rfl⟩]
  rintro U l h;have⟨v10,rfl,rfl⟩:=(hJ2 _ _ _).mp h;have el:(Src.lst pf (W.fer.map Fer.mv)).len=W.fer.length:=X5 _;rw[el,Va];clear hJ2 h el;delta P8;simp!;obtain⟨u,hcs,cl⟩:∃u:List Int,cutM (ns.map MV.int) (wc 10) (wc 90)=u.map MV.int/\u.length<=63:=by
   erw[⟨(ns.drop (HT.sIx (ns.map MV.int).length 0 (wc 10))).take (HT.sIx (ns.map MV.int).length (ns.map MV.int).length (wc 90) - HT.sIx (ns.map MV.int).length 0 (wc 10)),?_,?_⟩]
   .unfold cutM;rw[Ba,List.map_drop]
   .rw[Yl,B7];lia
  rw[hcs];intro u1 hu1 u2 hu2;have t1:=SameM.new hu1 (.lst (u.map MV.int));have t2:=SameM.new hu2 (.lst [.int 0]);erw[⟨_,t2 _ _ X9,by rw[X5];lia,λpc hpc=>?_⟩]
  have H:=(t1.trans t2).trans (SameM.new hpc (.lst (u.map MV.int++[.int 0])));have hc9:updM (updM (updM l u1 (.lst (u.map MV.int))) u2 (.lst [.int 0])) pc (.lst (u.map MV.int++[.int 0])) pc=wc (.lst ((u++[0]).map MV.int)):=by rw[X9,XI];rfl
  generalize updM (updM (updM l u1 (.lst (u.map MV.int))) u2 (.lst [.int 0])) pc (.lst (u.map MV.int++[.int 0]))=M9 at*;have s9:=s7.trans H;have hA:=hA.keep H;have cl2:(u++[0]).length<=64:=by rw[XR];simp;lia
  have cl1:1<=(u++[0]).length:=by rw[XR];simp
  clear t1 t2 H hu1 hu2 hpc hcs;generalize u++[0]=u at*;delta P7;simp!;have hpi9:=s9 _ _ hpi4;erw[Ur (ys.zip W.isl) (·.1) (λx=>.str x.2.name) ?_ ?_ hΦ λpn hpn=>?_]
  .simp![hpi9]
   erw[⟨(List.map_fst_zip (Vf yl)).symm,by rw[B9];lia,hpi9⟩]
  .rintro⟨y,I⟩ hx l _;have⟨i,h1,h2⟩:=_gc hx;have⟨xs,rfl⟩:=hys i I y h2 h1;simp only[sCm,Xz,Ys,Z6,YQ,YR,Yr];simp!
  have en:(ys.zip W.isl).map (λx=>MV.str x.2.name)=W.ins.map MV.str:=by
   unfold Wld.ins;rw[Y9]
   conv=>rhs;rw[<-List.map_snd_zip (l₁:=ys) (l₂:=W.isl) (Vf yl.symm)]
   rw[Y9];rfl
  rw[en];have t1:=SameM.new hpn (.lst (W.ins.map MV.str));have hn9:updM M9 pn (.lst (W.ins.map MV.str)) pn=wc (.lst (W.ins.map MV.str)):=X9;generalize updM M9 pn _=Mx at*;have sx:=s9.trans t1;have hA:=hA.keep t1;have hcx:=t1 _ _ hc9;have hpix:=sx _ _ hpi4;have hpfx:=sx _ _ cC;have hIsx:=hIs4.keep sx;clear s9 t1 hc9 hpi9 hpi4 cC hIs4 s7 hpn en;delta P6;simp!;intro r hr;have rr:updM Mx r (.ins "Run" []) r=wc (.ins "Run" []):=X9;have s5:=SameM.new hr (.ins "Run" []);erw[⟨r,W,rfl,rr,G,λR M5 fr5 hR5 hm5 hA5 ho5 hn5 hd5 hw5=>?_⟩];have s45:SameM Mx M5:=λa o e=>fr5 a o (s5 a o e) (by simpa using neM e hr)
  have no5:∀a o,Mx a=wc o->a∉R.own r:=λa o e z=>by
   rcases ho5 a (RunS.in_own z)with rfl|c
   .rw[hr]at e;cases e
   .rw[s5 _ _ e]at c;cases c
  have old:∀{l:MH} {C:RunS},OffR M5 l r R C->SameM Mx l:=λO a o e=>(O a o (s45 a o e) (no5 a o e)).1;clear fr5 rr s5;have K5:=KnAt.first hn5 hd5 hw5 hA5
  have Le5:RunLe W n R:=λi I d hI hd=>by
   rw[hd5,Xe,hI]at hd;cases hd;erw[Yg _]
  have St5:=Stch.first G hR5 K5 hA5
  clear hA5 ho5 hn5 hd5 hw5 hm5;have lt2:=(FK W.fer 2).1;have lt5:=Rq W.fer (a:=2) (by decide) λf hf=>(G.fo f hf).s3
  generalize hL:Z3 W.fer 2=L at*
  try walk_at "s"
  delta P5;simp!;have eLn:((L:Int)*(n:Int)).toNat=L*n:=by rw[<-By];erw[Z0 _]
  have hLn:L*n<=5*12:=Nat.mul_le_mul lt5 n12;rw[eLn];obtain⟨J,hJ⟩:∃J:Nat->Sm->MH->Prop,∀j U l,J j U l↔∃(C:RunS) (v14 v15 Z:Option MV),RunAt l W r C (λ_=>C.m)/\KnAt W l C/\RunLe W n C/\Stch W L (j,W.ins) C/\OffR M5 l r R C/\U=(sg ns W pi pf A n B g [wc (.int L),v10,wc (.ref pc),wc (.ref pn),wc (.ref r),v14,v15,Z,we,we,we]):=⟨_,λ_ _ _=>XX⟩;erw[⟨.inl ⟨by lia,by lia⟩,by have:=By L n;lia,by have:=By L n;lia,J,(hJ _ _ _).mpr (ex4 R _ _ _ ⟨hR5,K5,Le5,St5,λa o e n=>⟨e,n⟩,rfl⟩),λj U l h=>trivial,?_,?_⟩]
  .rintro j y U M9 X h;erw[ee4 ((hJ _ _ _).mp h) λR1 v14 v15 Z h=>?_];have⟨P,K,Le,St,O,rfl⟩:=h;have⟨hj,rfl⟩:=Wg X;have Y:=old O;delta P4
   simp![Y _ _ hcx,X5]
   have hm:=UL j (show 0<u.length by lia)
   have em:((0:Int)+(j:Nat))%(u.length:Int)=((j%u.length:Nat):Int):=by rw[VL];rfl
   erw[⟨by lia,_,by rw[em];erw[Yn (by rw[Xe,X6 hm];rfl)],?_⟩]
   generalize u[j%u.length]=cell;have c0:=Z9 cell (show(1000000:Int)≠0 by decide)
   obtain⟨c1,hc1⟩:∃c1:Nat,cell%1000000=(c1:Int):=⟨_,(ZV c0).symm⟩;have c0':=Z9 (cell/24) (show(1000000000000000000000000000000:Int)≠0 by decide)
   obtain⟨c2,hc2⟩:∃c2:Nat,cell/24%1000000000000000000000000000000=(c2:Int):=⟨_,(ZV c0').symm⟩;delta P3;simp!;rw[hc1];erw[ex3 pn W.ins c1 ⟨rfl,Y _ _ hn9,by rw[ins_len];erw[i5],λM10 p zs S hp hp10 pm=>?_⟩]
   have n1:p∉R1.own r:=λz=>by
    have⟨o,e2⟩:=P.own_some p z;rw[hp]at e2;cases e2
   have sp:=Rr W.ins zs (j,W.ins) pm λz=>by
    rw[z]at pm;have:=pm.length_eq;rw[ins_len]at this;simp at this;lia
   simp![hp10]
   obtain⟨J3,hJ3⟩:∃J:Nat->Sm->MH->Prop,∀m U l,J m U l↔∃(C:RunS) (Z:Option MV),RunAt l W r C (λ_=>C.m)/\KnAt W l C/\RunLe W n C/\Stch W L ((zs.take m).foldl (V2 W.ins) (j,W.ins)) C/\OffR M5 l r R C/\l p=wc (.lst (zs.map MV.str))/\p∉C.own r/\U=(sg ns W pi pf A n B g [wc (.int L),v10,wc (.ref pc),wc (.ref pn),wc (.ref r),wc (.int (0+(j:Nat))),wc (.int cell),Z,we,we,we]):=⟨_,λ_ _ _=>XX⟩;erw[⟨J3,(hJ3 _ _ _).mpr ⟨R1,_,P.keep S,K.move λa _=>S a,Le,St,O.keep S,hp10,n1,rfl⟩,λm U l h=>?_,?_,?_⟩]
   .have⟨_,_,_,_,_,_,_,e,_⟩:=(hJ3 _ _ _).mp h;erw[e]
   .clear P K Le St O Y n1 hp10 S hp;rintro m y U M11 X h;have⟨R1,Z,P,K,Le,St,O,e1,o1,rfl⟩:=(hJ3 _ _ _).mp h;have⟨hm,rfl⟩:=Yj (show(zs.map MV.str)[m]?=wc y from X);have⟨i,I,hi,en⟩:=AH (pm.mem_iff.mp (XS hm));have ht:(zs.take (m+1)).foldl (V2 W.ins) (j,W.ins)=V2 W.ins ((zs.take m).foldl (V2 W.ins) (j,W.ins)) I.name:=by
     rw[Z7,X6 hm,B5,<-en];rfl
    rw[<-en];erw[ee4 (P.isl hi) λn1' a1 kv1 d1 h=>?_];have⟨hn1,ha1,hk1,_,_⟩:=h;have ob:=P.ob;have b1:=Rw G P K Le;delta P2
    simp![ob,runO,valM]
    rw[hc2];erw[ex10 r W R1 i I c2 n1' _ a1 kv1 ⟨rfl,G,P,hi,λy X=>Xy (b1 y X) (by lia),hn1,rfl,ha1,hk1,λbs R2 M12 v pv hR2 k2 t1 t2 H=>?_⟩]
    have bl:bs.length=W.fer.length:=by rw[<-H.bs];erw[hR2.bl]
    have⟨K2,to⟩:=K.ring G P hi hn1 rfl ha1 hk1 bl k2 t1 t2 H
    try walk_at "s"
    erw[(hJ3 _ _ _).mpr ⟨R2,_,hR2,K2,(Le.ring G P K hi hn1 (to.imp_left And.left)).stay hst,by rw[ht];erw[St.ring (λk cnt B=>B.ring G P K hi hn1 H.bs bl t1 to) λk lo hl=>Blk.start G hR2 K2 lo (by lia) hl],O.kept k2,k2.fr _ _ e1 o1,λz=>(k2.nw p z).elim o1 λc=>?_,rfl⟩]
    rw[e1]at c;cases c
   .rintro U M11 h;have⟨R1,Z,P,K,Le,St,O,e1,o1,rfl⟩:=(hJ3 _ _ _).mp h;have el:(Src.lst p (zs.map MV.str)).len=zs.length:=X5 _;rw[el,Va,sp]at St;erw[(hJ _ _ _).mpr (ex4 R1 _ _ _ ⟨P,K,Le,St,O,rfl⟩)]
  .rintro U M9 h;erw[ee4 ((hJ _ _ _).mp h) λR1 v14 v15 Z h=>?_];have⟨P,K,Le,St,O,rfl⟩:=h;have el:(Src.rng 0 (L*n)).len=L*n:=rfl;rw[el]at St;have Ge:RunGe W n R1:=by
    have:=St.ge;rw[show((L*n,W.ins):Nat×List Str).1/L=n from Nat.mul_div_cancel_left n (by lia)]at this
    erw[this]
   have Y:=old O;have hno:∀a o,Mx a=wc o->a∉R1.own r:=λa o e=>(O a o (s45 a o e) (no5 a o e)).2;clear hJ h St St5 K5 Le5 hR5 el eLn hLn;delta P1;simp!;have hok:=Wm G n;erw[ex9 r W R1 (Xh W n) A (5*n) pi pf ys ⟨rfl,G,P,hok,hA.keep Y,Y _ _ hpix,hIsx.keep Y,Y _ _ hpfx,FP G P K Le Ge,Rv G P K Le Ge,λM10 S=>?_⟩];have Y:=Y.trans S;have P:=P.keep S;have K:=K.move λa _=>S a;clear S O;have hR0:=P
   try walk_at "s"
   delta P0;simp!;intro w hw;have sw:=SameM.new hw (.dic []);have hw0:updM M10 w (.dic []) w=wc (.dic []):=X9;generalize updM M10 w _=M11 at*;delta OZ
   simp![(Y.trans sw) _ _ hpix]
   obtain⟨tv,htv⟩:∃tv:Nat->MV,∀(i:Nat)I,W.isl[i]?=wc I->tv i=.tup [YX I.stps[(Xh W n).num.getD i 0]?,optV (Yp W (Xh W n) i)]:=⟨λi=>match W.isl[i]? with|wc I=>.tup [YX I.stps[(Xh W n).num.getD i 0]?,optV (Yp W (Xh W n) i)]|we=>.non,λi I hI=>by dsimp only;rw[hI]⟩
   obtain⟨J4,hJ4⟩:∃J:Nat->Sm->MH->Prop,∀j U l,J j U l↔∃(v18:Option MV),SameM M10 l/\l w=wc (.dic (zipK (W.ins.take j) ((Xq j).map tv)))/\U=(sg ns W pi pf A n B g [wc (.int L),v10,wc (.ref pc),wc (.ref pn),wc (.ref r),v14,v15,Z,wc (.ref w),v18,we]):=⟨_,λ_ _ _=>XX⟩;erw[⟨J4,(hJ4 _ _ _).mpr ⟨_,sw,hw0,rfl⟩,λj U l h=>?_,?_,?_⟩]
   .have⟨_,s,_⟩:=(hJ4 _ _ _).mp h;erw[(Y.trans s) _ _ hpix]
   .rintro j y U l X h;have⟨v18,s,hd,rfl⟩:=(hJ4 _ _ _).mp h;have s2:=Y.trans s;have X:ys[j]?=wc y:=X;have hj:j<W.isl.length:=by rw[<-yl];erw[(Xo.mp X).1]
    have hI:=X6 hj;have hin:=Y4 hI;have lr:((Xq j).map tv).length=(W.ins.take j).length:=by rw[X5,UF,Yl,ins_len];lia
    have hni:=Cq G.in_nd hin;have tk:W.ins.take (j+1)=W.ins.take j++[W.isl[j].name]:=by rw[Z7,hin];rfl
    have hA2:=hA.keep s2;have hy2:=(hIsx.keep s2).2 j _ _ hI X;have et:=htv j _ hI;generalize W.isl[j]=I at*;have⟨xs,ex⟩:=hys j I y hI X;delta OY
    simp![ex,StA.mv,hA2.n]
    rw[<-ex];erw[⟨_,CF G hok hI,W,Xh W n,5*n,j,I,y,pf,rfl,G,hok,hI,hy2,s2 _ _ hpfx,λs=>_h0 hst hI,λM13 s13=>?_⟩];have hd2:=s13 _ _ hd
    try walk_at "s"
    simp![hd2]
    rw[U4 lr,Yl,<-et];erw[⟨by lia,(hJ4 _ _ _).mpr ⟨_,(s.trans s13).upd hw _,?_,rfl⟩⟩]
    rw[X9,_jr _ lr hni,tk,Dd,XI];rfl
   .rintro U M12 h;have⟨v18,s,hd,rfl⟩:=(hJ4 _ _ _).mp h;have el:(Src.lst pi ys).len=W.isl.length:=yl;rw[el]at hd;have wt:WtsAt W (Xh W n) M12 w:=⟨_,by rw[hd,<-ins_len,Va],λi I hI=>by rw[Xe,VC (by rw[ins_len];erw[(Xo.mp hI).1]),<-htv i I hI];rfl⟩
    clear hJ4 h htv el hd;have P:=P.keep s;have K:=K.move λa _=>s a;have Y:=Y.trans s;have wo:w∉R1.own r:=λz=>by
     have⟨o,e⟩:=hR0.own_some w z;rw[hw]at e;cases e
    delta OX
    simp![Y _ _ hcx]
    erw[⟨by rw[X5];lia,λu1 hu1 u2 hu2=>?_⟩]
    obtain⟨es,he⟩:∃es:List Int,[u.map MV.int,u.map MV.int,u.map MV.int,u.map MV.int,u.map MV.int,u.map MV.int,u.map MV.int,u.map MV.int,u.map MV.int,u.map MV.int].flatten=es.map MV.int:=⟨[u,u,u,u,u,u,u,u,u,u].flatten,by rw[List.map_flatten];rfl⟩
    rw[he]at hu2 ⊢;have ec:cutM (es.map MV.int) we (wc 10)=(es.take 10).map MV.int:=by rw[Ba];erw[Pm _ 10]
    rw[ec];have t2:=(SameM.new hu1 (.lst (es.map MV.int))).trans (SameM.new hu2 (.lst ((es.take 10).map MV.int)));have e9:updM (updM M12 u1 (.lst (es.map MV.int))) u2 (.lst ((es.take 10).map MV.int)) u2=wc (.lst ((es.take 10).map MV.int)):=X9;generalize updM (updM M12 u1 (.lst (es.map MV.int))) u2 (.lst ((es.take 10).map MV.int))=M13 at*;have sm3:=Y.trans t2;erw[ex5 u2 pi (es.take 10) ys W.isl ⟨rfl,e9,by rw[Yl];lia,sm3 _ _ hpix,hIsx.keep sm3,i1,i5,λp rs M14 s14 hp hp14 rl ro=>?_⟩]
    have H:=t2.trans s14;have P:=P.keep H;have K:=K.move λa _=>H a;have Y:=Y.trans H;have wt:=wt.keep H;have po:p∉R1.own r:=λz=>by
     have⟨o,e⟩:=(hR0.keep ((s.trans t2):SameM M10 M13)).own_some p z;rw[hp]at e;cases e
    clear t2 H e9 ec he sm3 hu1 hu2 hw s14
    simp![hp14]
    obtain⟨J5,hJ5⟩:∃J:Nat->Sm->MH->Prop,∀m U l,J m U l↔∃(C:RunS) (Z v19:Option MV),RunAt l W r C (λ_=>C.m)/\KnAt W l C/\RunLe W n C/\RunGe W n C/\OffR M14 l r R1 C/\U=(sg ns W pi pf A n B g [wc (.int L),v10,wc (.ref pc),wc (.ref pn),wc (.ref r),v14,v15,Z,wc (.ref w),v18,v19]):=⟨_,λ_ _ _=>XX⟩;erw[⟨J5,(hJ5 _ _ _).mpr (ex3 R1 _ _ ⟨P,K,Le,Ge,λa o e n=>⟨e,n⟩,rfl⟩),λm U l h=>?_,?_,?_⟩]
    .erw[ee3 ((hJ5 _ _ _).mp h) λ_ _ _ h=>?_];have⟨_,_,_,_,O,_⟩:=h;erw[(O _ _ hp14 po).1]
    .rintro m y U M15 X h;erw[ee3 ((hJ5 _ _ _).mp h) λR2 Z v19 h=>?_];have⟨P,K,Le,Ge,O,rfl⟩:=h;have⟨hm,rfl⟩:=Yj (show(rs.map rgM)[m]?=wc y from X);have⟨I,hIm,en⟩:=ro _ (XS hm);generalize rs[m]=x at*;have⟨i,hi⟩:=ZS hIm;have⟨a1,hn1,ha1,hk1⟩:=FP G P K Le Ge i I hi;have ob:=P.ob;have b1:=Rw G P K Le;have⟨ws,hws,wv⟩:=wt;have z1:=YK G.in_nd (Y4 hi) (wv i I hi);have hw2:=(O _ _ hws wo).1
     simp![rgM]
     rw[en];delta OW
     simp![ob,runO,valM]
     erw[ex10 r W R2 i I x.2 _ _ a1 _ ⟨rfl,G,P,hi,λy X=>Xy (b1 y X) (by lia),hn1,rfl,ha1,hk1,λbs R3 M16 v pv hR3 k3 t1 t2 H=>?_⟩]
     have bl:bs.length=W.fer.length:=by rw[<-H.bs];erw[hR3.bl]
     have⟨K3,to⟩:=K.ring G P hi hn1 rfl ha1 hk1 bl k3 t1 t2 H;have Le3:=(Le.ring G P K hi hn1 (to.imp_left And.left)).stay hst;have O3:=O.kept k3;have hw3:=(O3 _ _ hws wo).1;rcases H with⟨e3,ev,_⟩|⟨s,wd,n',p',d,_,e3,hd,_⟩
     rotate_left
     .have:=Le3 i I (d+1) hi (by rw[e3];show(R2.dn.set i (d+1))[i]?=_;rw[AX (Xo.mp hd).1])
      have:=Ge i I d hi hd;lia
     have Ge3:RunGe W n R3:=λj J d hJ hd=>Ge j J d hJ (by rw[e3]at hd;erw[hd])
     obtain⟨xs,exs,fl⟩:∃xs,YX I.stps[(Xh W n).num.getD i 0]?=.tup xs/\xs.all Yb=wf:=by
      unfold YX;split<;>erw[⟨_,rfl,rfl⟩]
     rw[exs]at ev z1;rw[ev]
     try walk_at "s"
     simp![hw3]
     erw[⟨_,z1,?_⟩];simp!;erw[_gv fl ?_]
     try walk_at "s"
     erw[(hJ5 _ _ _).mpr (ex3 R3 _ _ ⟨hR3,K3,Le3,Ge3,O3,rfl⟩)]
    .rintro U M15 h;erw[ee3 ((hJ5 _ _ _).mp h) λR2 Z v19 h=>?_];have⟨P,K,Le,Ge,O,rfl⟩:=h;have Y:SameM Mx M15:=λa o e=>(O a o (Y a o e) (hno a o e)).1;have wt:WtsAt W (Xh W n) M15 w:=by
      have⟨ws,e,f⟩:=wt;erw[⟨ws,(O _ _ e wo).1,f⟩]
     clear hJ5 h hp14 po ro rl;delta OV;simp!;erw[_gy W.isl (λI=>.str I.name) ?_ ?_ hΦ λD M16 s16 hD=>?_]
     .simp![Y _ _ hn9]
      erw[⟨by show W.ins.map MV.str=_;unfold Wld.ins;rw[Y9];rfl,by lia,Y _ _ hn9⟩]
     .intro I hI l s;simp only[sCm,Xz,Ys,Z6,YQ,YR,Yr];simp!;have⟨i,hi⟩:=ZS hI;erw[ex6 W (Xh W n) A (5*n) i I ⟨rfl,G,hok,hA.keep (Y.trans s),hi,λM17 pc2 s17 _ e17=>?_⟩]
      try walk_at "s"
      erw[ex6 W (Xh W n) i I pc2 w ⟨rfl,G,hi,e17,wt.keep (s.trans s17),λM18 s18=>?_⟩]
      try walk_at "s"
      erw[⟨rfl,s17.trans s18⟩]
     try walk_at "s"
     intro e0 he0;have s17:=SameM.new he0 (.lst [])
     try walk_at "s"
     erw[Wd (s17 _ _ hD) X9 ?_];generalize updM M16 e0 _=M17 at*;rw[if_neg (by decide),OU]
     have s2:=s16.trans s17;have Y:=Y.trans s2;have P:=P.keep s2;have K:=K.move λa _=>s2 a;simp!;erw[ex9 r W R2 (Xh W n) A (5*n) pi pf ys ⟨rfl,G,P,hok,hA.keep Y,Y _ _ hpix,hIsx.keep Y,Y _ _ hpfx,FP G P K Le Ge,Rv G P K Le Ge,λM18 s18=>?_⟩];erw[q _]
 try walk_at "s"
 delta Pg;simp!;obtain⟨J,hJ⟩:∃J:Nat->Sm->MH->Prop,∀m U l,J m U l↔∃(n:Nat) (A B:StA) (g:Addr),n+m=12/\SameM M4 l/\StdAt W (Xh W n) l A/\StdAt W (Xh W (n+1)) l B/\l g=wc (.lst ((Ay W (Xh W n)).map MV.str))/\U=(sg ns W pi pf A n B g [we,we,we,we,we,we,we,we,we,we,we]):=⟨_,λ_ _ _=>XX⟩;erw[⟨J,⟨12,(hJ _ _ _).mpr (ex4 0 A0 B0 g0 ⟨rfl,s5.trans s6,hA0.keep s6,hB0,hg0,rfl⟩)⟩,?_⟩];rintro m U l h;erw[ee4 ((hJ _ _ _).mp h) λn A B g h=>?_];have⟨nm,s,hA,hB,hg,rfl⟩:=h;simp!;erw[XY (λc=>?_) λ_=>rest n A B g l (by lia) s hA hg]
 intro e0 he0;have s8:=SameM.new he0 (.lst []);have s:=s.trans s8;have hA:=hA.keep s8;have hB:=hB.keep s8;have hg:=s8 _ _ hg;erw[Wd hg X9 ?_];generalize updM l e0 _=M8 at*;erw[XY (λ_=>?_) λ_=>rest n A B g M8 (by lia) s hA hg]
 delta Pf;simp!;delta Pe;simp!;delta Pd;simp!;erw[ex4 W (Xh W (n+1)) B (5*(n+1)) ⟨rfl,G,Wm G (n+1),by lia,hB,λM9 B2 g2 s9 hB2 _ _ _ hg2=>?_⟩]
 try walk_at "s"
 erw[⟨m - 1,by lia,(hJ _ _ _).mpr (ex4 (n+1) B B2 g2 ⟨by lia,s.trans s9,hB.keep s9,hB2,hg2,rfl⟩)⟩]
end
def all_mk{l:Dl}{w:Xm}{K:X3}{h:Heap}{u:Str->Option X0}{c:Addr}(X:K.In h)(G:h.Ns Xp u)(y:u "law"=wc (.ref c)){q r p:Addr}(M:TxM K q r p)(F:TxF K){N O P R U W Y Z A z m:Tok}(g1:XD K Xp "MOST_WIDTH"=wc (wc (.int 64 N)))(g2:XD K Xp "MOST_LETTERS"=wc (wc (.int 8 O)))(g3:XD K Xp "MOST_ISLANDS"=wc (wc (.int 5 P)))(g4:XD K Xp "MOST_FERRIES"=wc (wc (.int 6 R)))(g5:XD K Xp "MOST_VARS"=wc (wc (.int 6 U)))(g6:XD K Xp "MOST_STEPS"=wc (wc (.int 12 W)))(g7:XD K Xp "MOST_PARTS"=wc (wc (.int 30 Y)))(g8:XD K Xp "MOST_DEPTH"=wc (wc (.int 8 Z)))(g9:XD K Xp "MOST_K"=wc (wc (.int 3 A)))(g10:XD K Xp "MOST_STAGES"=wc (wc (.int 3 z)))(g11:XD K Xp "BITS_A_FERRY"=wc (wc (.int 8 m))):
  ∃L:Zd,(∀(s:X1)(v:X0),BindsTo s L ⟨[v],[]⟩ [("script",v)])/\∀j:Heap,K.In j->j.Ns Xp u->FnOk l.prog w K u j CX0 60 c L ["script"] (C8 K):=by
 have T:∀j,Txt ⟨l.prog,w,K,u,j,q,r,p⟩:=λj=>{toTxF:=F,toTxM:=M,g:=(λx v e=>by cases v with|none=>erw[PySem.W.mg_none_of X G e]|some v=>erw[Bi X G e]),gl:=(fMc ⟨_,g1⟩ (fMc ⟨_,g2⟩ (fMc ⟨_,g3⟩ (fMc ⟨_,g4⟩ (fMc ⟨_,g5⟩ (fMc ⟨_,g6⟩ (fMc ⟨_,g7⟩ (fMc ⟨_,g8⟩ (fMc ⟨_,g9⟩ (fMc ⟨_,g10⟩ (fMc ⟨_,g11⟩ nl0)))))))))))}
 have⟨f,d,H⟩:=F.bX;have e:=y.symm.trans (Bi X G H.a);cases e;erw[⟨d,H.bt λ_ _ _ _ _ _ _=>rfl,λj _ _=>_mV (FnOk.mono (_pi (T j) H) (by decide))⟩]
def walk{l:Dl}{q:Xr}{y:List Str}{e:(Str->Option X0)->Heap->Prop}{c:Xm->Heap->Prop}{d:DefRec}{K:Params->X3}(L:l.most=wc 63)(g:d.params.defaults=[])
  (N:∀(w:Xm)(h:Heap),c w h->(K w.params).In h)
  (F:∀(w:Xm)(m:Str->Option X0)(r:Addr)(h:Heap),(K w.params).In h->h.Ns Xp m->m d.name=wc (.ref r)->
   ∃p:Zd,(∀(s:X1)(u:X0),BindsTo s p ⟨[u],[]⟩ [("script",u)])/\∀j:Heap,(K w.params).In j->j.Ns Xp m->FnOk l.prog w (K w.params) m j CX0 60 r p ["script"] (C8 (K w.params))):
  PySem.W.WalkO q y e c l.row.toRowW d [] (λf O=>PySem.call f O):=
 L2.walk_of (n:=63) (k:=60) (x:="script") (A:=fun _=>CX0) (B:=fun w=>C8 (K w.params)) L (by decide) g ⟨rfl,by decide,by decide⟩ N F (fun _ H a P R T U=>⟨a,P,rfl,_pO T U,R,fun _=>rfl⟩) fun _ _ _ _ _ z=>z
end My
theorem wj:True:=r"4&OhHOQH@+cgag9JZh-n5N.SR7mofTa+<@)j/`Bp1VWi(@,->:4O.ST%=RSP5e<5l]`RkWlq?:2nF%2brEg[(dijZDE_1pc2D:gI[@Pn9`T,'qJ%L?bmu)Oh>c_XW$3D8Jq`teOv?XBA'F?qY$K\du^4TP]_lS2ugwc=ej6-Bcl<iv/$w]>c22GHb3'gf4c>JOsDqm=haodQS90M%6-L/Zfu5h+]9P6Pl?J=Vn`4fOnQ'Bca^f?(aMdH#CXYYMbD<(C5G;/i$XwYZagsE;=fW2'W_7`ak=Gqc1,IJL:HUIA7)*)>D@V`>URcPDG#t-&#^VP*QpGB[d^p6+([sg&v[dfN;t]^0v6N\]\N_Pi+&iX&w.v#C+B-H^+.J4lmfBW@c47714bsU=uY1,fVCTK<h2XH_I<dM8+8#U1d'rBJkRGi2;gv;:M&LULoq6w`;wThh3O(@&vjA@-<Pi-b)hupjUI=Bc*X\rw,\cdH?[CN9Cl`]?M1gDn=`G<'hTC5k5eK7BNoMF2D+dvi@.T\@K_p;68VG3_bVI-V+7w\4^n<o%A@gD2CS(t'hVJRIL_aP^q3^2lP\3-uXg]%E$YFJ0vBH4:l'R%+6ucG;O#aV0c4i#F0*uO/;,f>?l5mwOJb>?]$MOH2mc0:J-h*gp1OEhBPmw9RKfWg^ONdCw&?M65KYup.ar;J9TE[^)+qWRp3/`Ddk$P^p7.bGpMs`:&_>4hv^HK.=83]NgvW]j;'_.J;`NABTEPoVD+`<(4GO5U=,gZZaf?#JEqnW7pQ@I5).U2YIrLdgVrY5pjmN,f/M/T6/(f(\[m%.)G_;;vME?q\rY*>LOSI2p\(b^['3cr-/]X*Z9di)[Pp$'<n\vPGTZFRUbP$+gL=Re+wP/8igsQY`Cm6QKO@L2f:gp\cSujLY5o>FJd;N3pa:b=VGm%pFvWV3hN'q]6%'FEW%e8'#EFWAELP;4#ZjO]l>F1UO;1aZk>1JaZiH<9)HrCGlR6+d@=L[op9[]Y/XUlP$J-XU^G]e,FoH5LYsQet#PH4j=8d`[qD,$8(VsD(63lefKCsnr.eafU(t'$GCaqivrc&A[)s7HD5Dj.Q.41KR5O1)uMRcS@to`[G+MIvrbX,pfH:/CIvP(]hSsPQ4=[Jhn^\+Bg&.#SN[/lYBSnl[2%L`b[se:\j]B*=>4q[_G(VG#JZgZF/19=0+$2_b2d2-&,$fr$K`37;7otWZK+1*$1_P:Ro+GY:,kmjRl@:I-]A#X+4jL_^o6s<1/@pEI=E^63iAZio2ublPAq=`L+h@,hkbAf[6m`)dH-DX^S1Nv(QV&]nN%^CK+)J)CXt>10VsH#sTp>foIa\;GW2Uu3]5$O1S/BvE\i;'u\tPr&L6CTMmc0\1p\TIRMw&3&e#7USt:'fTK52m5([N.KK2M-UYcGXU_6,>]b(Be>ol#J7G]*ootJP6BK1v(99YSHh^dZ$`bQ[:1OAGni=jnKBnI2.E7'sb[nuasdY9(r*ns?/gm-bbi3HJZ[&lKBLwkUb;<O(_#6_Xtb,TOG12Ff0as=cjfd?vk/A-&0^)Mt4P1$X$OSO,pUb(W<?h?BvXO?[<`X/,qV45n1t'F.`q#MbXP[>cdkCS[%v0>N62_V[wi0)VKUZf]lm?4DGmeqtNd6dOY07_)pm#l;UDSA%kMeOVKJ&M@1_9gnZj@4n)cWo(D5R/)'3FTWZfjWv?Xe:I&Dj10YNlYr@;'\*g#=-CO2kX11cB)I'^Xtw<`cFUa>VAUjh(ZYN4,e_GsXl3a1MUV]u8S(8+<9-\I;T:ThhPK/>PM+-,ZO9*'EWD]q@G%d9vi'm]t.a#Sp@?fgS+W4Am(O7%OpX#i1Cf:%*&lY/`]=Q$Pa7ft=0@Efr@Ah\A/9GR\4O4cjVQ)KkXqqH6-XaQ_hO7>iL-IqG?vU+XZ2C7hXSI[-XS0H'McRkJ:rY]Loo;`]dO+$l9+:lvA\g1b+YBV'^aG1\11+Y:MW^JkaGelZn].;Lw95^P]^DGGUDtY0F0_HbZ:Ad%KaSoSI0OfH#I<6II4rsbO42:V_r(C%N(Hk<CHrD4Z?2*jvOlmjEVWW`]n+NMc,>HVGG(m_MQ1/Rrc#6(Xo1AAhdtNWwV?l'A=p)HE/2^w5#$f-,GR0XU<+r6joEADM2FGKHjj@D9]UB/1tND0$VF*&K8f1Bi%Q3ZkvQVWnF`F<^8sZ(Z<9$,X'rTW^%mMq=?^*`Y9QEK,s<0$0$=ldH*d\#<?WF*['$#<n;[%38E?WV8?.l4$cmB`V*.OD7Q\)/:J'V;CtX9_%]M;3-ERO@<cb=7n=OJX%((iP6V>TbZ>Of-E_aT$6]Y1lw(U)kPlDZYVTON(AUrFl?:1Cf[#FE&*v]#;Z\t_A?,D?>:_K#R/cOc3U@E&;5%8`u?NQqgo1WX-CL9qgow2<s-4WOH-fHbd#YEP<EI.^XZs>erVEi[,EPStF).q9>O7eqsUc_[W2eD5S]WiG=8Yhg8.MAZrpvU'm'AG^U\jA+Ywc$I_J*YhUgETT'PXOIh[m*5+THGOGX;;IK#I?h.1;m@h3q_q938C,=r2njLsFlj00_Wd9,[<6>-j[a0ntP.oo^I]sY/*#WkUQ4Yj#X[dW`k*c:`V&L4K>#JL@UpsrC2D_d'^=lX`/lbq]HHJ'R3=^4J9cTeoXW5X9@M2JW<e;a)LJJ6S18qs:XgVIhL*RBh0X6+HA$ZmX[#KC`/]#0w#pTd')O0E-T<2&/UjrSFICVs1bQ4CwjLpgf3jZ^BUDD-L%=\)ws=>`[H^GEC%.kaR39acINKdo1V0&pBcc\TEkc=E#_F<gwH=8Ubo#A.B93s/slga1Aa0Pc'B5w1U-(P'COIr=QR8RF,?$1U6[q+pb_Brq2)U(S<#m8D*YN^bK[Ee[B]ZlS=X.LU\W?M;`)+deL?W&ACIL8<aQBT)BL;qJ=cDFV>'dY-G)-e<<+a&+oG)F83%Tt./D4'bOi*p]i7:)&Z*c79%IdC;9mMef@vK6aXe/K`I*N5.QQVb,,6XqLV@-+,Lc3l0a]K+1SSZ9Hoo#uPW7OMWBa,1.NlWEh@Hp*'X)WZ^tvibw4MHuN.R3@n?b4-HVH-/,UgJJU):\_2WOv(rVK[+AY2qoY=6U`cGJjw#5&JU(8-C35X_@6:9I.+D,Q0,UmZ=4`=/U;Dc4$MV0^Z\W*dNZ'o\R2'A`GBR1QSnFaKt2Tbu;YCtS;^5,M4qI[4tQgp@,/;YE$5\u`REuka`r)?^C/pt88MpKRqk2bXWVi$Sq5]]DG%d>epwWnXAn:_,P_XeRi8`tFA*\i',<[fZ,8Talq0]tK>BUB?\uTnc$VZBn&.=2G_<^:1@SQr?-]V.Y.@0gs,FCl*<7T[F=Vpc]L#=t%-Ghs^/(n>qi#(V.7FsQYN37-n@-%\:77=1B05Y_]Fv7PEe$_uVn];ap99-E;WXU\]Hp(5SUgwC[t@hcLH*GfP^qK\M&7nOVQJAU8Arv5_-h:tGf3(=[cL$)LCjGd=Bf2\'#3@\2v)>O,q#S?s)gqinJ7:Dql%3v,8.N,6#bQ2($XQR@:@saC$7oIpji;u(.gd[:0wvSuLs'2tGN/SDgk5IIRYEWk`$Q=6PZ8e&N7ML(-arLWcD_^2iFP9$%\T2qd(9P$Ec$_Tlm's.mg1kKgSZ/J1NX7S$hr/.2MJOUBd,N(Qk,&>.sl?Ui'9H5fAd@gMwjQ>Z2\cL@dcNtT?aT>?wXc>;5jh@]>@rsTVV6>X$Gp7%[0qXT,am*j$.jMTB`vf4I5@%i)_oo&hW+`%RuoG<]A$dSXSu3&/64)bf,6w:]lJK)T4II):hL(dWN@d3m#5M)Yn@-]LqdgDrEmt7Z=gFOcr9`iwf,]k.*'d>BR[>&q$dT1AW4%RIjH;w/?37P2K9/KY#BZ'JI<Ri(PUm_0c:elJP\clY@(PWT`Ii6w^nugavH/cP6v*ar/L1/S3ne5rC^C<'FhnN8#^(o*0w4)j30$T[vQ).'7['`90a=M`XLl6Fo:uw20n%Ff5#Mk)#.ueZ)WObZ_H%%rN]'@]N\T<\B2-utaR/^`aJ/Lf`1;<GSq>/rt`W\rqk>oM&%(20:Ej*`6C-NM>lgZlG#&i[ho8$')FOJ-I^VJAS&FI`$J=W>9#KEZ,j.\hoc8<Dl.Xb'X/^m*:S)G3HnYScJ\Gd@Zvc?3vt@&*GaJ`/f]g#\HNtLE0F5>93CAKk&.rCd=d8BnS-SSVl5lB%]KgJ2+oEA0?c;`((rJ$]HfGU+6mmoOA)XAZT%_ed]%,3`Rc)]_%+D\r_\3EhB3b$MAP($](0;-$X[ESi$_]EI,Lv=dS.S>aFqs/XGQnquG)Xcvd`_i?k%8-wJ/a>KZtf2hpBc'Egdbp%G/Epb#4Fn@-Qh2;/A(RE]teuJ=[hblouNs^J9Y6:,&C<-H6e+V,ooQuhSn`?W2eR=KG[`*,^d^/>B7M?Wc`/qDl(@vFE&55'(f?3)60P(bYJYagTKwTqQgXC^sCO1gqGNp+T'5o\mApCI[ffiLe3MG9#<uNP2*i?3Q_VsU(IUg?XGKVvbe\Ld2(c,Mv38<&Ks:g$Uc#Z;:[Q#p-+a^j(sDd6[FZmI,q2M1Z?5Zo\q5/v#:,GrJ$8Up65q-DAv'oi37(D&LVwsDU7OrebTQW,<U2WAs60Wq]J.s-p*GcJ7LorJ)Wu5)`mjfV<2cf(K?G)^O^Yg`R;IV(T#[dXt;HH5bt2Yf,^>thn'gcR+=3C_jh*C.eVo/gokcf/$o)[n[Q3ZGM'[&ESPZO5GiZ&ECsJ`U#.T^w+K=E%Q5'j_-kObUQWQP:IbNd^kcO?Esdr=eHKK;UBZ.j'vvIs`D4eJ@2RG5HtZ#LW+7A$nICUGg)d8n^$GLs`<<l%+WH7kW#ZflO1=;/CWtfOq56B=2Q7^ogNZLLU@5^c[nSSj5*b[i#ErJoP(ONh4,EMJA3c:J[k73pw.YK'&&`8.Z8(Eb:bn27U;Or6$O-/2d7golZ5vwr<7;j_3iQTTb5NiDYCdgrBPlb0O(@1GYiLY)/:Yrhon8Jq2#XroBp/F^h,$p2UM5FRGC;Wsi)OE7q4',G/D_<G*]Oq3p@e6^r<o8T#Wj3vcs<&?H9Y2dvuT)J5YK+EPdR_R>4;)kr*Ygt)Aef*aCT@3j_']:#QbD'.?,Ms\M,9LI\aMDZP=GH]#UL:kO&'*HTWL7lZL<wc?3Kl4uN3IElFJLS86la5h'JDA`+,cZ/;IvY36/dr@*IJ`d\QV8G]IFkvt2f/LSH@Rr/K^=QIH@Qs2i0>%KG@\Dl8vC]8G=c<RMK#10G&PbnncDMBFplFChkU[ZFah.U])/F4FS:=5m@]L*&O1B_#$CtAE[Nc^XW@qcEJ[2T,tXS[EGvD]a[5K9EDDuV2Bp\7EB*/E?VsDmDvbTW*L@lRDPD:K,0lXm#?B12)KCnlD>Jg5oqKAECN86$i4nbrC)8MB-GVVRBfb#&GlbunB?ESd]hn?)B%)vKo99lHAw_Bl=5CP]AuXlS<4%'B&(SK_wD9IY@eT\K'9(9G@Zo3v^@b7o@K<m/vSSG]?IT2,mJL2u?#t9U>hApr>-DbT7_H<8=s]%bSaDS.=oWGdvs-af=L0>vrYQ:Z=-F8hB^dA_=&qqTM&t_i<tdKAF)9W<<$BQQ:BwqG;lmY5B<%m=;.>>BK(Qsg;$k(.]k(&H:PpscsP`mb:IUk)#BG)%%?]85M@NZS9lt[IITM-s9M*@>n*sBl8m.Bh?,R,>8N/#?\2cK;83_q#/Gt'@7Fd)rfw%Ut7<2#'\-X<w6i8'T45=_16hVT.30l^G$v4pB93Gr_6K]QeIwQQn5oc2M-Co^L5[cOS;.]_95>v@m-_Z9J51j62H6#HP4lLDI[KkHP4g/8m<L@CQ4Z1:F\:(8T4Ov%L.A$)`4O@OY:M&I/$`&6iIad+03l8\ehB)GD3Q8^S0h;*w2JP1Buo]2'2+Fq4se\]1$N)tgtFnU=1JnB1D5J`>12:$^WhOhQ$>L)JJ5i%m0+UY1=P&S_/pi32)a)-=/HP=KnV@k^$6;;qGrkv)$5c@pA3)TR/4:4:1[rv5._sWfVB>\+.Ej3V0#pE5.>bC%GI'4r-p6jm5LK'?-RhsHcCC&g-@@D.5eb1r-%4<DO9L>g,SUP<u)S?b+5jH1s)\Yo#h-plpc1ftr=W5YeF9ZUq_5=lbvkf2q>W71(u[60oe4(T%TSP0oYtgIEba6roNE1J+doXw*TbhI9_1^?nZw$Gv16he#bpQp$%GV7n+`8J-f^r_mk+KPs,#m?m4$n/q.&<#lf0f,cW^[0lb+Y(vI;D`lQlqsov]5,l*jg.9hJi5j(GmI[:/'@in@>':0SMaiM@vXp%JE*i)7']$SJ5$)u,-nEM][Jh=#s$'YdjP)q1]rwJ^W*h$e.&p'vSMgbW^$AFwcjffqqlNK5q^)V,jecq)25cr>9vADQc#co9'Ur/=DV)AFk&1vf6ZbOmH;B.pgYbH]jP@T`Q;bAJh:Ec?Q3b5dO0NrX.]a`#r^2p6:Za&i;T7?0bc`tW<gF4+&H`g&h=lW_Gt`:tusDwdFK_sc8??1NiV_LkKZ/&%#t_6TL-Atp6])#S6iIbSV?^fA0'72\k'^Cnk\wCq'1^):9FWq>r+(oMI#\`8^m]\`MW9fkPU(iVETkB7wQ]84YQ86&&o\L*-;5+0\l\/Z&dC4BIX[kR]&kFY0D[hX#X^OKMd[]^6;l<Xne[1*mH5G?_&ZcX2.UTO>6ZZta7,t%IHZE-ROrS>aLY2JX7LLE33XP#<R+qT<WWwr#j@Y>*^(<@N1NU/MWWW1BsZ'P;MVl/nD4,h`5Vc=rM.arsmVarPkbik=)VK?*j3ScD^(/KO[akLH\VBFJF:_U\[UUm<(Q99GmU%H,-v@Y`KTTfGE7nk$mSu$hY1DDb%S+p2kVp+eJS%Bd+WM<jnQVWigIikLBQ-57?6<f^QO4s)Oq^k>vNsjIvUvV;QNcUOJti6_@NK=l2s/Qka"
open PySem PySem.W PyProof.Rows
local macro_rules | `(tactic| walk_at "q_fn") => `(tactic| (refine' ⟨_, _, ?a, L2.fun_mk ?l ?c ?k⟩; (case a => k_is); (case l => k_is); (case c => k_is); (case k => k_is)))
local macro_rules | `(tactic| walk_at "q_mt") => `(tactic| (refine' ⟨_, _, L2.mt_mk ?a ?i ?l ?c ?k⟩; (case a => k_is); (case i => k_is); (case l => k_is); (case c => k_is); (case k => k_is)))
local macro_rules | `(tactic| walk_at "q_cl") => `(tactic| (refine' ⟨⟨?a, ?b, ?c, ?d⟩, ?e, ?f⟩; (case a => k_is); (case b => k_is); (case c => k_is); (case d => k_is); (case e => k_is); (case f => k_is)))
local macro_rules | `(tactic| walk_at "q_z") => `(tactic| (refine' L2.fMc ?a ?b; (case a => k_is)))
set_option maxRecDepth 100000 in
set_option maxHeartbeats 0 in
theorem PySem.Challenge.cw_bellferry_k73_whole_the_same_standstill_holds : PySem.Challenge.rw_bellferry_k73_whole_the_same_standstill.Holds := by
 w_on;o_law;k_head;(case hw=>w_witness2)
 k_fill
 refine My.walk (l:=PySem.Challenge.rw_bellferry_k73_whole_the_same_standstill) rfl rfl (λw h Y=>PySem.W.kIn_of Y) ?F
 case F=>
  intro w y z h u G j;refine' My.all_mk u G j ?zM ?zF ?g1 ?g2 ?g3 ?g4 ?g5 ?g6 ?g7 ?g8 ?g9 ?g10 ?g11
  case zM=>
   constructor
   iterate 3 k_is
   iterate 3 walk_at "q_cl"
   iterate 15 k_is
   iterate 16 walk_at "q_mt"
  case zF=>
   constructor
   iterate 64 walk_at "q_fn"
   .iterate 13 walk_at "q_z"
    exact λ_ h=>nomatch h
  case g1|g2|g3|g4|g5|g6|g7|g8|g9|g10|g11=>k_is
