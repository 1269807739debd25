import PyProof.Rows.All
import Wide.All
import OpenK.AllK
import Wide.FinOn
import Lean
import PyProof.EqAt
import PyProof.EqKinds
import PyProof.TupleCall
import PySem.Challenge.RW_bellferry_k64_whole_between_the_bounds
import PyProof.Rows.SetFrom
import PyProof.FactsAll.set_1
import PyProof.CollectWalk
import PyProof.Rows.SortStr
import PyProof.IsiH_list
import PyProof.AttrMissHeap
import PyProof.ConsumeWalk
import PyProof.StrWalks
import PyProof.IsiH_tuple
import PyProof.SliceStr2
import PyProof.ListRange
import PyProof.Rows.Range3
import PyProof.Rows.CallKwBuiltin
import PyProof.WalkInts
import PyProof.NeKinds
import PyProof.FString5
set_option Elab.async false
set_option tactic.hygienic false
set_option linter.all false
set_option maxRecDepth 100000
set_option maxHeartbeats 8000000
set_option genSizeOf false
set_option genSizeOfSpec false
noncomputable section
open Option renaming some->wc,none->we
open Bool renaming true->wf,false->wg
local macro_rules|`(tactic|erw[$e:term])=>`(tactic|refine $e)
open Lean in
def wh:Nat->Term->MacroM (TSyntax `rcasesPat)|0,_=>`(rcasesPat|_)|n+1,x=>match x with|`(⟨$[$a],*⟩)=>do let b<-a.mapM (wh n);`(rcasesPat|⟨$[$b:rcasesPat],*⟩)|`($i:ident)=>`(rcasesPat|$i:ident)|_=>`(rcasesPat|_)
local macro_rules|`(tactic|have⟨$[$a],*⟩:=$e)=>do let b<-a.mapM (wh 9);`(tactic|obtain⟨$[$b:rcasesPat],*⟩:=$e)
local macro_rules|`(#v[])=>`(.nil)|`(#v[$a])=>`(.cons $a .nil)|`(#v[$a,$b,*])=>`(.cons $a #v[$b,*])|`(($a)^$b)=>`(.cons $a $b)|`($c:char)=>let n:=c.getChar.toNat;if n<97 then`(.int $(Lean.quote (n-65)))else`(.var $(Lean.quote (n-97)))
set_option bootstrap.genMatcherCode false
set_option compiler.extract_closed false
open PySem renaming Value->X0,World->Xl,Program->Xr,sysModules->Z0,mainGlobals->Xp,bootBuiltins->YI,Around->Xz,Shared->X2,wpAny->X3,model->X8,backTo->Y0,starEach->Xx,wpAny_mono->ZR,holding->Z9,wpAny_truthy_bool->Zz,swapsWith->ZS,assignEach->ZT,wpAny_bind->X1,wpAny_holding->Yx,wpAny_passesOwn->V6,pyNext->Z1,letOwnedTupleGo->AD,wpAny_pure->Xa,rawInt->Y8,foldedSetIterable->AE,Operator->UH,binaryOp->Yq,compareOp->Y6,codeAny->YJ,attributeBase->UI,FuncData->Zk,wpAny_call->VB,codeAny_mono->VC,wpAny_Call_Name_kw->U9,backToKw->Ua,keywordEach->Ub,Keyword->Za,NameKind->Zl,wpAny_callSpecial?_slot->AF,wpAny_call_entry->Zm,wpAny_typeOf->V7,wpAny_newObj_type->ZU,sliceBounds->V8,call_meets->Uc,valueAt->Zb,tupleKind_room_in1->AG,wpAny_richCompare_same_room->VD,wpAny_loadPart'->Yi,plainId_quiet->Z2,codeAny_builtin->YR,codeAny_call_builtin->AH,wpAny_dictEntries->AI,wpAny_isInstance->VE,SetTable->Yy,wpAny_setState_of->Wt,wpAny_rule->VF,wpAny_askSetting->Wu,wpAny_pyIter_list->AJ,wpAny_setField->VG,wpAny_seqItems->Wv,wpAny_updateSeq->Ww,wpAny_tryCatch->VH
open List renaming getElem?_eq_getElem->X6,mem_of_getElem?->Xd,length_map->X5,getElem?_eq_some_iff->Xm,getElem?_map->Xe,replicate->Xi,mem_cons->Xj,mem_cons_of_mem->XJ,getD_eq_getElem?_getD->Y1,map_cons->Xt,size_toArray->XN,not_mem_nil->XM,getElem_mem->XS,mem_cons_self->Y2,mem_map->XA,range->Xq,length_append->Ya,map_append->XY,mem_singleton->Ye,getElem_of_mem->Yn,getD_cons_zero->Yr,getElem?_append_right->Zn,length_take->Yf,nodup_cons->Yc,length_cons->Yj,getD_cons_succ->YK,map_map->XZ,getElem?_append_left->ZA,nil_append->Yk,length_replicate->Zc,mem_append->Yo,cons_append->Yz,nodup_append->YS,map_nil->Yb,mem_append_right->ZB,getElem?_eq_none->ZC,replicate_succ->Zo,append_nil->Z3,take_add_one->Zp,flatten_cons->ZD,eq_of_mem_replicate->V9,mem_range->Zd,lookup_cons->ZE,getElem?_of_mem->UJ,length_range->Ud,getElem?_inj->Ue,length_set->ZV,length_dropLast->Va,take_of_length_le->VI,eq_nil_of_length_eq_zero->AK,any_cons->ZW,length_eq_zero_iff->Wx,append_assoc->Vb,getElem?_set->Vc,mem_flatMap->Vd,mem_or_eq_of_mem_set->AL,foldl_cons->Ve,count_append->VJ,getElem?_range->Wy,mem_flatten->VL,map_replicate->Wz,lookup->Uf,length_singleton->AM,find?_cons->VM,map_set->UK,all_cons->Vf,ext_getElem?->WB,forall_mem_cons->AN,mem_append_left->AO,getElem?_set_ne->AQ,dropLast_subset->AR,getElem?_eq_none_iff->CO,take_length->WC,getElem?_set_self->CP,foldl_append->AS,eraseIdx_eq_take_drop_succ->FD,nodup_nil->WD,getElem?_toArray->CQ,getElem_inj->AT,length_drop->AU,all_eq_true->AV,ext_getElem->AW,take_append_of_le_length->FF,filterMap_cons->CS,length_pos_iff->CT,length_eraseIdx_of_lt->FG,pairwise_cons->CU,length_mapIdx->CV,foldl->VN,count->VO,pairwise_map->CW,length->WE,getElem?_replicate->FH,map_take->AX,getElem_map->CY,getElem_set->CZ,drop_eq_nil_of_le->FJ,mem_filter->D0,of_mem_zip->D3,map_id'->AY,getD->WF
open PySem.W renaming Frag->X4,nsIn->XC,findIn->Y3,keepIn->Zq,kia_one->ZF,kia_tup->ZG,emptyDict->Ug,fnOf->ZH,instObj->UL,kitOne->Vg,kitx_list->AZ,kitx_dict->B0,plainGet->B3,plainGet_of->D4,callWith_K->D5,lookIn->B4,codeIn->B5,kitAny->B6,methodObj->D6,hasDictIn->D7,mg_of->B7,cellsFrom_some->FK,isFn->B8,takerIn->D8,makesIn->D9,methodCall_KW->FN,OpenLaw->Da
open Nat renaming le_refl->X9,le_trans->Xv,ne_of_lt->XG,lt_of_lt_of_le->YA,zero_le->YB,le_succ->YC,two_pow_pos->ZI,lt_irrefl->Ze,lt_succ_self->ZX,le_add_right->Uh,le_of_lt->ZJ,lt_succ_of_lt->VP,add_comm->UM,not_lt_zero->VQ,le_of_lt_succ->WG,pow_le_pow_right->B9,lt_succ_iff_lt_or_eq->Db,lt_of_le_of_lt->Ba,mod_lt->UN,succ_le_succ->Bb,le_of_eq->WH,ne_of_gt->Bc,lt_trans->Bd,lt_or_ge->Be
open PySem.Heap renaming get?_push_of_some->Xu,get?_push_size->XO,lt_size->Xw,get?_update_other->Ui,get?_update_self->Vh,size_push->Uj,SameBut->Uk,ExtBut->Bf
open Bool renaming false_ne_true->XD,and_eq_true->XQ,false_eq_true->Z4,false_and->WI,eq_iff_iff->Bg,and_false->Bh,not_true->Bi,true_and->Bj,or_eq_true->Dd,or_self->Bk,not_false->De,false_or->Df
open Array renaming length_toList->Yg,getElem?_eq_getElem->Vi,getElem?_eq_none->Dg,getElem?_toList->FP
open Option.some renaming inj->Y4,injEq->Bl
open PySem.Value renaming ref->XB,str->Zf,type->ZK,none->UO,bool->UP,int->VR,float->Bm
open Sum renaming inr->Xn,inl->Vj
open PySem.Around renaming under_plainId->Z5,under->Dh
open Int renaming toNat_natCast->YT,emod_lt_of_pos->ZY,natCast_nonneg->Ul,emod_nonneg->ZL,toNat_of_nonneg->UQ,lt_of_lt_of_le->VS,natCast_pow->Vk,zero_add->Um,le_refl->Uo,ofNat_le->WJ,natCast_emod->Di,sub_emod->Bn
open PySem.NameKind renaming free->Yp,cell->VT
open False renaming elim->Y7
open PyProof.Rows renaming slot_tuple_getitem->VU,callWith_type1->WK,callWith_builtin1->FQ,bitAnd_pp->FR
open PySem.Heap.SameBut renaming update->Up
open Option renaming map_eq_some_iff->Vl,map_some->Bo,isSome_map->Dj
open Ne renaming symm->XR
open True renaming intro->YL
open PySem.Builtin.Tuple renaming tupleCompareSizes->Bp,tupleExact->Bq,tupleItemsOf->FS,tupleTooMany->FT,tupleIsExact->FU
open PySem.AutoSeq1 renaming wpAny_loadPart'->Br,sub_tuple_tuple->FV,sub_list_list->FW,idx_int->FX
open PySem renaming mem_of_lookup->VW,Within->Dk
open PySem.F renaming plain_max_loop->Vm,slot_tuple_mul->Bs,called_set->UR,slot_dict_keyiterator_iter->FY,args_tuple_add_2->FZ,args_tuple_mul_2->G0,entry_tuple_add->G1,slot_tuple_rmul->G2,entry_tuple_mul->G3,entry_max_loop->Dl,slot_tuple_add->G4,sub_dict_dict->G5,slot_int_rmul->G6,slot_dict_eq->G7,slot_dict_ne->G8,slot_list_eq->Dm,slot_list_ne->Do
open PySem.Builtin.Slice renaming slicePlaces->Bt,sliceAdjust->Dp,sliceApplied->G9
open PySem.Builtin.Dict renaming dictSlotArgs->Bu,updateFrom->Ga,samePairs->Gb
open Iff renaming rfl->Yd
open PySem.Builtin.List renaming listTooLong->Bv,listExtendWith->Gc,listSameRef->Gd
open PySem.SetTable renaming grown->Vn,below->Bw
open PySem.Calls renaming spliced_cons->WL,spliced_nil->WM,Name_function_global->Gf,callWith_builtin->Gg
open PySem.Obj renaming mapSeq->Ur
open Sum.inr renaming inj->Vo
open PySem.Str renaming ofString->VX,empty->VY
open ForInStep renaming yield->Bx
open PySem.Builtin.Builtins renaming bindParams->Gh
open Nat.succ renaming inj->WN
open PySem.Builtin renaming bitAnd->By,bitXor->Bz
open PySem.Builtin.Frozenset renaming sizeOf->Gi
open PySem.Builtin.Range renaming rangeSize->Gj
open PySem.Shared renaming TypeIs->BA
open List.Pairwise renaming sublist->Gk,imp->Gm
open PySem.SeqAt.EqAt renaming int_str->Gn,str_int->Go
open PySem.ScopeKind renaming function->Gp
open PySem.Walks renaming list->BB
open PySem.SetTable.below renaming go->Gq
open Char renaming toNat->BC
namespace L2
open PySem PySem.Spec PyProof.Rows
def nl0 {j:Type _}{p:j->Prop}:∀x∈([]:List j),p x:=λ_ h=>nomatch h
def fMc{j:Type _}{p:j->Prop}{a:j}{l:List j}(h:p a)(k:∀x∈l,p x):∀x∈a::l,p x:=AN.2 ⟨h,k⟩
noncomputable abbrev Key:=Sum Int Str
def VZ:Key->X0->Bool
 |.inl k,v=>Value.isInt k v
 |.inr x,v=>Value.isStrOf x v
def keyH(w:Xl):Key->Int
 |.inl k=>hashInt k
 |.inr x=>hashStr w x
def _Z:∀{k:Key} {v:X0},VZ k v=wf->(∃i t,k=Vj i/\v=VR i t)\/(∃x t,k=Xn x/\v=Zf x t)
 |.inl i,v,h=>by
  have⟨t,e⟩:=Value.isInt_shape (k:=i) (v:=v) h;erw[.inl ⟨i,t,rfl,e⟩]
 |.inr x,v,h=>by
  have⟨t,e⟩:=Value.isStrOf_shape (x:=x) (v:=v) h;erw[.inr ⟨x,t,rfl,e⟩]
def QV(i:Int)(t:Tok):VZ (.inl i) (.int i t)=wf:=by simp[VZ,Value.isInt]
def QW(x:Str)(t:Tok):VZ (.inr x) (.str x t)=wf:=by simp[VZ,Value.isStrOf]
def QX(a b:Int):decide ((Vj a:Key)=Vj b)=(a==b):=by
 by_cases e:a=b
 .subst e;simp
 .have h:¬(Vj a:Key)=Vj b:=λq=>e (Sum.inl.inj q);rw[decide_eq_false h];erw[(beq_eq_false_iff_ne.mpr e).symm]
def QY(a b:Str):decide ((Xn a:Key)=Xn b)=decide (a=b):=by
 by_cases e:a=b
 .subst e;simp
 .have h:¬(Xn a:Key)=Xn b:=λq=>e (Vo q);rw[decide_eq_false h,decide_eq_false e]
def QZ(a:Int)(b:Str):decide ((Vj a:Key)=Xn b)=wg:=decide_eq_false (λq=>nomatch q)
def R4(a:Str)(b:Int):decide ((Xn a:Key)=Vj b)=wg:=decide_eq_false (λq=>nomatch q)
def YD(l:Xr)(w:Xl):PySem.KeyKind l w Key where
 is:=VZ
 hash:=keyH w
 inj:=λv a b g m=>by
  rcases _Z g with⟨i,t,rfl,rfl⟩|⟨x,t,rfl,rfl⟩
  .rcases _Z m with⟨j,u,rfl,e⟩|⟨y,u,rfl,e⟩
   .injection e with e1 _;rw[e1]
   .erw[nomatch e]
  .rcases _Z m with⟨j,u,rfl,e⟩|⟨y,u,rfl,e⟩
   .erw[nomatch e]
   .injection e with e1 _;rw[e1]
 byValue:=λk v h=>by
  rcases _Z h with⟨i,t,rfl,rfl⟩|⟨x,t,rfl,rfl⟩<;>rfl
 pyHash:=λz h=>by
  rcases _Z z with⟨i,t,rfl,rfl⟩|⟨x,t,rfl,rfl⟩
  .erw[wpAny_pyHash_int h]
  .erw[wpAny_pyHash_str h]
 eqBool:=λd z h=>by
  rcases _Z d with⟨i,t,rfl,rfl⟩|⟨x,t,rfl,rfl⟩
  .rcases _Z z with⟨j,u,rfl,rfl⟩|⟨y,u,rfl,rfl⟩
   .rw[QX]at h;erw[wpAny_eqBool_int h]
   .rw[QZ]at h;erw[Gn i t y u _ _ _ _ h]
  .rcases _Z z with⟨j,u,rfl,rfl⟩|⟨y,u,rfl,rfl⟩
   .rw[R4]at h;erw[Go x t j u _ _ _ _ h]
   .rw[QY]at h;erw[wpAny_eqBool_str h]
 «strs»:=λk x t v h=>by
  rcases _Z h with⟨i,u,rfl,e⟩|⟨y,u,rfl,e⟩
  .erw[nomatch e]
  .injection e with e1 _;subst e1;cases v<;>rfl
def R5(j:Xr)(w:Xl)(i:Int)(t:Tok):(YD j w).is (.inl i) (.int i t)=wf:=QV i t
def R6(j:Xr)(w:Xl)(x:Str)(t:Tok):(YD j w).is (.inr x) (.str x t)=wf:=QW x t
inductive V where
 |non|bl (b:Bool)|int (i:Int)|str (x:Str)|byt (b:Array UInt8)|flt (b:UInt64)|ref (a:Addr)|ty (n:String)
  deriving DecidableEq
noncomputable def RelV:V->X0->Prop
 |.non,u=>u=UO
 |.bl b,u=>u=UP b
 |.int i,u=>∃t,u=VR i t
 |.str x,u=>∃t,u=Zf x t
 |.byt b,u=>∃t,u=Value.bytes b t
 |.flt b,u=>∃t,u=Bm b t
 |.ref a,u=>u=XB a
 |.ty n,u=>u=ZK n
abbrev Vals:List V->List X0->Prop:=Paired RelV
theorem Vals.length(r:Vals xs us):xs.length=us.length:=Paired.length r
theorem Vals.get:∀{xs:List V} {us:List X0} {i:Nat} {x:V},Vals xs us->xs[i]?=wc x->∃u,us[i]?=wc u/\RelV x u
 |_,_,_,_,.nil,e=>by simp at e
 |_,_,0,_,.cons r _,e=>by simp at e;subst e;erw[⟨_,rfl,r⟩]
 |_,_,i+1,x,.cons _ t,e=>by
  have⟨u,j,l⟩:=Vals.get (i:=i) (x:=x) t (by simpa using e)
  erw[⟨u,by simpa using j,l⟩]
theorem Vals.set(r:RelV x u):∀{xs:List V} {us:List X0} (i:Nat),Vals xs us->Vals (xs.set i x) (us.set i u)
 |_,_,_,.nil=>.nil
 |_,_,0,.cons _ t=>.cons r t
 |_,_,i+1,.cons q t=>.cons q (Vals.set r i t)
theorem Vals.append:∀{xs j:List V} {us ws:List X0},Vals xs us->Vals j ws->Vals (xs++j) (us++ws)
 |_,_,_,_,.nil,s=>s
 |_,_,_,_,.cons r t,s=>.cons r (Vals.append t s)
theorem Vals.take:∀{xs:List V} {us:List X0} (n:Nat),Vals xs us->Vals (xs.take n) (us.take n)
 |_,_,0,_=>.nil
 |_,_,_+1,.nil=>.nil
 |_,_,n+1,.cons r t=>.cons r (Vals.take n t)
theorem Vals.drop:∀{xs:List V} {us:List X0} (n:Nat),Vals xs us->Vals (xs.drop n) (us.drop n)
 |_,_,0,r=>r
 |_,_,_+1,.nil=>.nil
 |_,_,n+1,.cons _ t=>Vals.drop n t
def RelO:Option V->Option X0->Prop
 |wc v,wc u=>RelV v u
 |we,we=>True
 |_,_=>False
def KV{j:Type}:List (j×V)->List (j×X0)->Prop:=Paired fun(p:j×V) (q:j×X0)=>p.1=q.1/\RelV p.2 q.2
def kV:Key->V
 |.inl i=>.int i
 |.inr x=>.str x
inductive HO where
 |lst (xs:List V)
 |tup (xs:List V)
 |dK (kvs:List (Key×V))|dT (kvs:List (List Key×V))
 |set (S:Int->Bool)(n:Nat)
 |ins (C dx:Addr)(fs:List (Str×V))
 |own (x:Addr)
 |xd (fs:List (Str×V))
 |met (f x:Addr)
 |rng (lo hi:Int)
 |frz (o:Obj)(u:HO)
 |tbl (ps:Array X0)
 |ext (φ:Heap->Prop)
noncomputable abbrev Hp:=Addr->Option HO
noncomputable def upd(H:Hp)(a:Addr)(o:HO):Hp:=λb=>if b=a then wc o else H b
def _M{H:Hp}{a:Addr}{o:HO}:upd H a o a=wc o:=by unfold upd;rw[if_pos rfl]
def XE{H:Hp}{a b:Addr}{o:HO}(h:b≠a):upd H a o b=H b:=by unfold upd;rw[if_neg h]
def Gr{H:Hp}{a b:Addr}{o u:HO}(h:H a=wc o)(j:H b=wc u)(d:o≠u):a≠b:=by
 intro e;subst e;rw[h]at j;erw[d (Y4 j)]
def Vp{H:Hp}{a b:Addr}{o:HO}(h:H a=wc o)(j:H b=we):a≠b:=by
 intro e;subst e;rw[h]at j;cases j
section
variable(P:Xr)(w:Xl)
def ObjOk(H:Hp)(h:Heap)(a:Addr):HO->Prop
 |.lst l=>l.length<=sizeLine/\∃(j:List X0) (n:Nat),Vals l j/\h.get? a=wc {cls:=.type "list",data:=.seq j.toArray n}
 |.tup l=>l.length<=sizeLine/\∃j:List X0,Vals l j/\IsTup h a j.toArray/\∃o,h.get? a=wc o/\o.dict=we
 |.dK kvs=>kvs.length<=sizeLine/\(a==Z0)=wg/\∃z,KV kvs z/\h.DictOf (YD P w) a z
 |.dT kvs=>kvs.length<=sizeLine/\(a==Z0)=wg/\∃l:List (List Key×Addr×X0),
   Paired (fun(p:List Key×V) (q:List Key×Addr×X0)=>p.1=q.1/\H q.2.1=wc (.tup (p.1.map kV))/\RelV p.2 q.2.2) kvs l/\
   ∃o m c,h.get? a=wc o/\o.ExactDict/\o.data=.dict m c/\m.toList=l.map (entryOfKey (tupleKind (YD P w)))/\(l.map (·.1)).Nodup
 |.set S n=>h.SetOf (intKind P w) a S n
 |.ins C dx fs=>H dx=wc (.own a)/\fs.length<=1000/\dx≠a/\h.get? a=wc (UL C dx)/\
   ∃y,h.Ns1 dx y/\(∀f,RelO (fs.lookup f) (y f))/\Dk y (fs.map (·.1))
 |.own _=>∃o,h.get? a=wc o
 |.xd fs=>∃y,h.Ns1 a y/\∀f,RelO (fs.lookup f) (y f)
 |.rng lo hi=>∃t u v,h.get? a=wc {cls:=.type "range",data:=.fields #[.int lo t,.int hi u,.int 1 v]}
 |.frz o u=>h.get? a=wc o/\ObjOk H h a u
 |.tbl ps=>h.get? a=wc {cls:=.none,data:=.fields ps}
 |.met f x=>h.get? a=wc (D6 (.ref f) (.ref x))
 |.ext φ=>φ h/\(∃o,h.get? a=wc o)/\∀g d:Heap,φ g->(∀o,g.get? a=wc o->d.get? a=wc o)->φ d
def HOk(H:Hp)(h:Heap):Prop:=∀a o,H a=wc o->ObjOk P w H h a o
end
section
variable{P:Xr}{w:Xl}{H H':Hp}{h h':Heap}{a:Addr}{o:HO}
theorem ObjOk.lt(x:ObjOk P w H h a o):a<h.objs.size:=by
 cases o with
 |lst l=>have⟨_,_,_,_,e⟩:=x;erw[Xw e]
 |tup l=>have⟨_,_,_,p⟩:=x;erw[p.1.lt]
 |dK j=>have⟨_,_,_,_,o,_,_,e,_⟩:=x;erw[Xw e]
 |dT j=>have⟨_,_,_,_,o,_,_,e,_⟩:=x;erw[Xw e]
 |set S n=>have⟨o,_,_,_,e,_⟩:=x;erw[Xw e]
 |ins C z fs=>have⟨_,_,_,e,_⟩:=x;erw[Xw e]
 |own y=>have⟨_,e⟩:=x;erw[Xw e]
 |xd fs=>have⟨_,⟨_,_,_,e,_⟩,_⟩:=x;erw[Xw e]
 |rng lo m=>have⟨_,_,_,e⟩:=x;erw[Xw e]
 |frz g u=>have⟨e,_⟩:=x;erw[Xw e]
 |tbl d=>erw[Xw (show h.get? a=wc _ from x)]
 |met f y=>erw[Xw (show h.get? a=wc _ from x)]
 |ext c=>have⟨_,⟨_,e⟩,_⟩:=x;erw[Xw e]
theorem Paired.mapP{u y:Type}{F G:u->y->Prop}:∀{j:List u} {l:List y},Paired F j l->(∀a b,F a b->G a b)->Paired G j l
 |_,_,.nil,_=>.nil
 |_,_,.cons r t,f=>.cons (f _ _ r) (Paired.mapP t f)
def ObjOk.stay(x:ObjOk P w H h a o)(k:∀b u,(b=a\/H b=wc (.own a))->h.get? b=wc u->h'.get? b=wc u)
  (U:∀b,H b=wc (.own a)->H' b=wc (.own a))(W:∀b xs,H b=wc (.tup xs)->H' b=wc (.tup xs)):ObjOk P w H' h' a o:=by
 induction o with
 |lst xs=>have⟨z,g,n,r,e⟩:=x;erw[⟨z,g,n,r,k _ _ (.inl rfl) e⟩]
 |tup xs=>have⟨z,g,r,⟨j,e,c⟩,Y,L,Z⟩:=x;erw[⟨z,g,r,⟨j,k _ _ (.inl rfl) e,c⟩,Y,k _ _ (.inl rfl) L,Z⟩]
 |dK N=>have⟨z,y,A,r,j,l,m,e,c⟩:=x;erw[⟨z,y,A,r,j,l,m,k _ _ (.inl rfl) e,c⟩]
 |dT N=>
  have⟨z,y,xs,r,j,l,m,e,c⟩:=x;erw[⟨z,y,xs,Paired.mapP r λp q z=>⟨z.1,W _ _ z.2.1,z.2.2⟩,j,l,m,k _ _ (.inl rfl) e,c⟩]
 |set S n=>have⟨j,l,m,t,e,c⟩:=x;erw[⟨j,l,m,t,k _ _ (.inl rfl) e,c⟩]
 |ins C E fs=>
  have⟨d,z,B,e,O,⟨R,l,m,L,c⟩,r⟩:=x;erw[⟨U _ d,z,B,k _ _ (.inl rfl) e,O,⟨R,l,m,k _ _ (.inr d) L,c⟩,r⟩]
 |own y=>have⟨j,e⟩:=x;erw[⟨j,k _ _ (.inl rfl) e⟩]
 |xd fs=>have⟨O,⟨R,l,m,e,c⟩,r⟩:=x;erw[⟨O,⟨R,l,m,k _ _ (.inl rfl) e,c⟩,r⟩]
 |rng lo F=>have⟨t,u,v,e⟩:=x;erw[⟨t,u,v,k _ _ (.inl rfl) e⟩]
 |frz j u D=>have⟨e,q⟩:=x;erw[⟨k _ _ (.inl rfl) e,D q⟩]
 |tbl T=>
  have e:h.get? a=wc {cls:=.none,data:=.fields T}:=x;show h'.get? a=wc {cls:=.none,data:=.fields T};erw[k a _ (.inl rfl) e]
 |met f y=>
  have e:h.get? a=wc (D6 (.ref f) (.ref y)):=x;show h'.get? a=wc (D6 (.ref f) (.ref y));erw[k a _ (.inl rfl) e]
 |ext G=>have⟨p,⟨o,e⟩,st⟩:=x;erw[⟨st _ _ p λo q=>k _ _ (.inl rfl) q,⟨o,k _ _ (.inl rfl) e⟩,st⟩]
theorem HOk.lt(x:HOk P w H h)(e:H a=wc o):a<h.objs.size:=(x a o e).lt
def HOk.fresh(x:HOk P w H h)(e:h.objs.size<=a):H a=we:=by
 cases q:H a with
 |none=>rfl
 |some u=>erw[absurd (YA (x.lt q) e) (Ze _)]
def HOk.kept(x:HOk P w H h)(k:∀b u,h.get? b=wc u->h'.get? b=wc u):HOk P w H h':=λa o e=>
 (x a o e).stay (λb u _ q=>k b u q) (λ_ q=>q) λ_ _ q=>q
def HOk.laid(x:HOk P w H h)(k:∀b u,h.get? b=wc u->h'.get? b=wc u)(l:h.objs.size<=a)(new:ObjOk P w (upd H a o) h' a o):HOk P w (upd H a o) h':=λb u e=>by
 have j:=x.fresh l;by_cases hb:b=a
 .subst hb;rw[_M]at e;cases e;erw[new]
 .rw[XE hb]at e;erw[(x b u e).stay (λc v _ q=>k c v q) (λc q=>by rw[XE (Vp q j)];erw[q]) λc y q=>by rw[XE (Vp q j)];erw[q]]
end
noncomputable def Rd(H:Hp)(a:Addr)(u:HO):Prop:=H a=wc u\/∃o,H a=wc (.frz o u)
def Rd.ok(r:Rd H a u)(x:HOk P w H h):ObjOk P w H h a u:=by
 rcases r with r|⟨o,r⟩
 .erw[x a u r]
 .have⟨_,q⟩:=x a _ r;erw[q]
noncomputable def Mut:Option HO->Prop
 |wc (.lst _)=>True
 |wc (.dK _)=>True
 |wc (.dT _)=>True
 |wc (.set _ _)=>True
 |wc (.ins _ _ _)=>True
 |wc (.ext _)=>True
 |_=>False
section
variable{P:Xr}{w:Xl}{H:Hp}{h h':Heap}{x e:Addr}{o':HO}
def HOk.write(ok:HOk P w H h)(m:Mut (H x))(p:e=x\/H e=wc (.own x))(k:∀b u,b≠e->h.get? b=wc u->h'.get? b=wc u)(f:∃u,h'.get? e=wc u)
  (new:ObjOk P w (upd H x o') h' x o'):HOk P w (upd H x o') h':=λb u q=>by
 have j:∀c y,H c=wc (.own y)->c≠x:=λc y r z=>by subst z;rw[r]at m;erw[m]
 have l:∀c g,H c=wc (.tup g)->c≠x:=λc g r z=>by subst z;rw[r]at m;erw[m]
 by_cases hb:b=x
 .subst hb;rw[_M]at q;cases q;erw[new]
 .rw[XE hb]at q;by_cases hbe:b=e
  .have L:H b=wc (.own x):=by
    rcases p with z|z
    .erw[absurd (hbe.trans z) hb]
    .rw[hbe];erw[z]
   rw[q]at L;cases L;have⟨v,N⟩:=f;erw[⟨v,by rw[hbe];erw[N]⟩]
  .erw[(ok b u q).stay (λc v d r=>k c v ?_ r) (λc r=>by rw[XE (j c b r)];erw[r]) λc g r=>by rw[XE (l c g r)];erw[r]]
   rcases d with rfl|d
   .erw[hbe]
   .rintro rfl;rcases p with z|z
    .erw[j c b d z]
    .rw[d]at z;cases z;erw[hb rfl]
end
structure Un (fs ex:List Addr)(H H':Hp)(h h':Heap):Prop where
 keep:∀b o,h.get? b=wc o->H b=we->b∉fs->b∉ex->h'.get? b=wc o
 slot:∀b o,h.get? b=wc o->H b=we->b∈fs->b∉ex->∃sl,h'.get? b=wc {o with slots:=sl}
 free:∀b o,h.get? b=wc o->H b=we->b∉ex->H' b=we
 there:∀b o,h.get? b=wc o->b∉ex->∃o',h'.get? b=wc o'
 tups:∀b xs,H b=wc (.tup xs)->H' b=wc (.tup xs)
 frzs:∀b o u,H b=wc (.frz o u)->H' b=wc (.frz o u)
 tbls:∀b ps,H b=wc (.tbl ps)->∃more,H' b=wc (.tbl (ps++more))
section
variable{fs fs' ex ex':List Addr}{H H1 H2:Hp}{h h1 h2 h':Heap}{a x e:Addr}{o:HO}
def Un.any(u:Un fs ex H H1 h h1)(q:h.get? b=wc ob)(n:H b=we)(j:b∉ex):∃l,h1.get? b=wc {ob with slots:=l}:=by
 by_cases hb:b∈fs
 .erw[u.slot b ob q n hb j]
 .erw[⟨ob.slots,u.keep b ob q n hb j⟩]
def Un.kept(k:∀b u,h.get? b=wc u->h'.get? b=wc u):Un fs ex H H h h':=
 ⟨λb j q _ _ _=>k b j q,λb j q _ _ _=>⟨j.slots,k b j q⟩,λ_ _ _ n _=>n,λb j q _=>⟨j,k b j q⟩,λ_ _ q=>q,λ_ _ _ q=>q,λ_ l q=>⟨#[],by rw[q];simp⟩⟩
def Un.refl:Un fs ex H H h h:=Un.kept λ_ _ q=>q
def Un.laid(k:∀b u,h.get? b=wc u->h'.get? b=wc u)(l:h.objs.size<=a)(j:H a=we):Un fs ex H (upd H a o) h h' where
 keep:=λb u q _ _ _=>k b u q
 slot:=λb u q _ _ _=>⟨u.slots,k b u q⟩
 free:=λb u q n _=>by rw[XE (XG (YA (Xw q) l))];erw[n]
 there:=λb u q _=>⟨u,k b u q⟩
 tups:=λb w q=>by rw[XE (Vp q j)];erw[q]
 frzs:=λb u w q=>by rw[XE (Vp q j)];erw[q]
 tbls:=λb y q=>⟨#[],by rw[XE (Vp q j),q];simp⟩
def Un.write(j:Mut (H x))(g:e=x\/H e=wc (.own x))(k:∀b u,b≠e->h.get? b=wc u->h'.get? b=wc u)(l:∃u,h'.get? e=wc u):Un fs ex H (upd H x o) h h':=by
 have y:∀b,H b=we->b≠x:=λb n z=>by subst z;rw[n]at j;erw[j]
 have m:∀b,H b=we->b≠e:=λb n z=>by
  subst z;rcases g with r|r
  .erw[y b n r]
  .rw[n]at r;cases r
 have w:∀b u,H b=wc u->¬Mut (wc u)->b≠x:=λb u q d z=>by subst z;rw[q]at j;erw[d j]
 erw[⟨λb u q n _ _=>k b u (m b n) q,λb u q n _ _=>⟨u.slots,k b u (m b n) q⟩,λb u q n _=>by rw[XE (y b n)];erw[n],λb u q _=>?_,
  λb c q=>by rw[XE (w b _ q λz=>z)];erw[q],λb u c q=>by rw[XE (w b _ q λz=>z)];erw[q],λb f q=>⟨#[],by rw[XE (w b _ q λz=>z),q];simp⟩⟩]
 by_cases hbe:b=e
 .subst hbe;erw[l]
 .erw[⟨u,k b u hbe q⟩]
end
noncomputable def trk(h:Heap)(H:Hp):List Addr:=(Xq h.objs.size).filter λa=>(H a).isSome
def hidT(h:Heap)(H:Hp):Heap:=PySem.W.hideAll h (trk h H)
def R7(h:Heap)(H:Hp):(hidT h H).objs.size=h.objs.size:=PySem.W.hideAll_size _ _
def R8(e:h.get? b=wc o)(n:H b=we):(hidT h H).get? b=wc o:=
 PySem.W.hideAll_get _ e λj=>by
  have q:(H b).isSome=wf:=(D0.mp j).2;rw[n]at q;simp at q
def R9(e:(hidT h H).get? b=wc o):h.get? b=wc o/\H b=we:=by
 have j:h.get? b=wc o:=PySem.W.of_hideAll (trk h H) e;erw[⟨j,?_⟩];cases q:H b with
 |none=>rfl
 |some x=>
  have l:b∈trk h H:=D0.mpr ⟨Zd.mpr (Xw j),by simp[q]⟩
  have z:(hidT h H).get? b=we:=PySem.W.hideAll_none (trk h H) l;rw[z]at e;cases e
noncomputable def Ra(g h:Heap)(L:Addr):List (Addr×Obj):=(Xq h.objs.size).filterMap λa=>if a=L\/(g.get? a).isSome=wf then we else(h.get? a).map λo=>(a,o)
def rest(g h:Heap)(L d:Addr):List (Addr×Obj):=(Ra g h L).filter λp=>decide (p.1≠d)
structure Mod (K:X4)(mg:Str->Option X0)(base:Heap):Prop where
 kin:K.In base
 glob:base.Ns Xp mg
 blt:∃mb,base.Ns builtinsNs mb/\∀x:Str,x≠"__name__"->mb x=YI x
 nolimit:base.NoLimit
structure Cx where
 prog:Xr
 w:Xl
 K:X4
 mg:Str->Option X0
 base:Heap
 A:Xz
 N:List Str
 s₀:X2
 H₀:Hp
 env:Env
 outer:List Env
 stack:List Env
 ex:List Addr
 fn:Str->Bool
 calm:Bool
 pn:List (Addr×Obj)
 xe:X0->X2->Prop
noncomputable def frs(l:List Env):List Addr:=l.filterMap (·.frame)
abbrev Cx.fs(X:Cx):List Addr:=frs X.outer
noncomputable def Vis(j:Scope)(x:Str):Prop:=j.names.lookup x=wc .local\/j.names.lookup x=wc .cell\/j.names.lookup x=wc .free
noncomputable def Loc(j:Scope)(x:Str):Prop:=j.names.lookup x=wc .local\/j.names.lookup x=wc .cell
noncomputable def Look(j:Env)(h:Heap)(m:Str->Option X0)(x:Str)(u:X0):Prop:=
 (j.kindOf x=wc .local/\m x=wc u)\/((j.kindOf x=wc .cell\/j.kindOf x=wc .free)/\∃c,j.cells.lookup x=wc c/\h.IsCell c (wc u))
structure Cx.Ok (X:Cx):Prop where
 mod:Mod X.K X.mg X.base
 kind:X.env.scope.kind=.function
 glob:X.env.globals=Xp
 blt:X.env.builtins=builtinsNs
 above:X.s₀.heap.objs.size<=X.env.locals
 inj:∀x y c,X.env.cells.lookup x=wc c->X.env.cells.lookup y=wc c->x=y
 has:∀x,(X.env.kindOf x=wc .cell\/X.env.kindOf x=wc .free)->∃c,X.env.cells.lookup x=wc c
 cab:∀x c,X.fn x=wf->X.env.cells.lookup x=wc c->X.s₀.heap.objs.size<=c
 hd:X.calm=wf->X.A.handled=we
 frames:X.A.frames=wc X.stack
 stk:X.stack=X.outer\/(X.stack=X.env::X.outer/\X.env.frame=wc X.env.locals)
 exf:∀b∈X.ex,b≠X.env.locals/\∀x c,X.env.cells.lookup x=wc c->c≠b
 bs:∀b o,X.base.get? b=wc o->X.s₀.heap.get? b=wc o/\X.H₀ b=we
 bsz:X.base.objs.size<=X.s₀.heap.objs.size
 noex:∀b o,X.base.get? b=wc o->b∉X.ex
 exfs:∀b∈X.ex,b∉X.fs
 funs:X.s₀.heap.FunFrames X.base X.outer
 frf:∀b∈X.fs,X.H₀ b=we
structure Inv (X:Cx)(pq:List (Addr×Obj))(σ:List (Option V))(H:Hp)(s:X2):Prop where
 ok:X.Ok
 os:s.os=X.s₀.os
 bare:AllBare s.gens
 base:Un X.fs X.ex X.H₀ H X.s₀.heap s.heap
 loc:∃m,s.heap.Ns X.env.locals m/\∀(i:Nat)(x:Str)(v:V),X.N[i]?=wc x->σ[i]?=wc (wc v)->Vis X.env.scope x->∃u,RelV v u/\Look X.env s.heap m x u
 cell:∀x c,X.env.cells.lookup x=wc c->∃v,s.heap.IsCell c v
 free:H X.env.locals=we
 freeC:∀x c,X.env.cells.lookup x=wc c->H c=we
 pin:∀p∈X.pn++pq,s.heap.get? p.1=wc p.2/\H p.1=we/\p.1≠X.env.locals/\p.1∉X.fs/\∀v,p.2.data≠.cell v
 hok:HOk X.prog X.w H s.heap
 len:σ.length=X.N.length
section
variable{X:Cx}{pq:List (Addr×Obj)}{σ:List (Option V)}{H H':Hp}{s:X2}{h':Heap}
def Cx.Ok.nofr(ok:X.Ok)(e:X.base.get? b=wc o):b∉X.fs:=λj=>by
 have:=(ok.funs.mem j).1;rw[e]at this;cases this
theorem Inv.bs(I:Inv X pq σ H s):∀b o,X.base.get? b=wc o->s.heap.get? b=wc o/\H b=we:=λb o e=>
 ⟨I.base.keep b o (I.ok.bs b o e).1 (I.ok.bs b o e).2 (I.ok.nofr e) (I.ok.noex b o e),I.base.free b o (I.ok.bs b o e).1 (I.ok.bs b o e).2 (I.ok.noex b o e)⟩
def Inv.bk(I:Inv X pq σ H s):∀b o,X.base.get? b=wc o->s.heap.get? b=wc o:=λb o e=>(I.bs b o e).1
theorem Inv.mod(I:Inv X pq σ H s):Mod X.K X.mg X.base:=I.ok.mod
def Inv.kIn(I:Inv X pq σ H s):X.K.In s.heap:=I.ok.mod.kin.keeps I.bk
theorem Inv.lt(I:Inv X pq σ H s):X.env.locals<s.heap.objs.size:=let⟨_,hn,_⟩:=I.loc;hn.lt
def Inv.sz(I:Inv X pq σ H s):X.s₀.heap.objs.size<=s.heap.objs.size:=Xv I.ok.above (ZJ I.lt)
def Inv.nofs(I:Inv X pq σ H s)(h:s.heap.objs.size<=a):a∉X.fs:=λj=>by
 have⟨_,o,l,_⟩:=I.ok.funs.mem j;erw[absurd (YA (Xw l) (Xv I.sz h)) (Ze _)]
def Inv.cne(I:Inv X pq σ H s):∀x c,X.env.cells.lookup x=wc c->c≠X.env.locals:=λx c e z=>by
 have⟨v,o,u,hd⟩:=I.cell x c e;have⟨m,⟨w,y,g,j,l,_⟩,_⟩:=I.loc;rw[z,j]at u;cases u;rw[l]at hd;cases hd
theorem Inv.funs(I:Inv X pq σ H s):s.heap.FunFrames X.base X.outer:=by
 have all:∀(l:List Env),(∀b∈frs l,b∈X.fs)->X.s₀.heap.FunFrames X.base l->s.heap.FunFrames X.base l:=by
  intro l
  induction l with
  |nil=>intro _ _;trivial
  |cons m r g=>
   intro y d;have⟨c,⟨L,o,j,f,q,hd⟩,p⟩:=d;have u:L∈X.fs:=y L (by unfold frs;rw[CS,j];erw[Y2])
   have⟨N,e⟩:=I.base.slot L o q (I.ok.frf L u) u λz=>I.ok.exfs L z u;erw[⟨c,⟨L,_,j,f,e,hd⟩,g (λb w=>y b (by unfold frs;rw[CS,j];erw[XJ _ w])) p⟩]
 erw[all X.outer (λ_ w=>w) I.ok.funs]
theorem Inv.stack(I:Inv X pq σ H s):s.heap.FunFrames X.base X.stack:=by
 rcases I.ok.stk with e|⟨e,j⟩
 .rw[e];erw[I.funs]
 .rw[e];have⟨m,l,_⟩:=I.loc;erw[.cons (by rw[I.ok.kind];decide) j l ?_ I.funs]
  erw[Heap.get?_none_of_le (Xv I.ok.bsz I.ok.above)]
def Inv.stkSub(I:Inv X pq σ H s):∀b∈frs X.stack,b∈X.env.locals::X.fs:=λb j=>by
 rcases I.ok.stk with e|⟨e,l⟩
 .rw[e]at j;erw[XJ _ j]
 .rw[e]at j;unfold frs at j;rw[CS,l]at j;erw[j]
def Inv.stkFree(I:Inv X pq σ H s):∀b∈frs X.stack,H b=we:=λb j=>by
 rcases Xj.mp (I.stkSub b j)with e|j
 .rw[e];erw[I.free]
 .have⟨_,o,l,_⟩:=I.ok.funs.mem j;erw[I.base.free b o l (I.ok.frf b j) λz=>I.ok.exfs b z j]
def Inv.step{M:Array GenState}{a:Nat}{d':Drawn}{N:List Addr}(I:Inv X pq σ H s)
  (w:∀b∈N,(b∈X.ex\/X.s₀.heap.objs.size<=b)/\b≠X.env.locals/\(∀x c,X.env.cells.lookup x=wc c->c≠b)/\∀p∈X.pn++pq,p.1≠b)
  (keep:∀b o,b≠X.env.locals->b∉X.fs->b∉N->s.heap.get? b=wc o->H b=we->h'.get? b=wc o)
  (O:∀b o,b≠X.env.locals->b∈X.fs->b∉N->s.heap.get? b=wc o->H b=we->∃F,h'.get? b=wc {o with slots:=F})(free:∀b o,b∉N->s.heap.get? b=wc o->H b=we->H' b=we)
  (R:∀b o,b∉N->s.heap.get? b=wc o->∃W,h'.get? b=wc W)
  (Y:∀b P,H b=wc (.tup P)->H' b=wc (.tup P))(Z:∀b o u,H b=wc (.frz o u)->H' b=wc (.frz o u))(A:∀b E,H b=wc (.tbl E)->∃B,H' b=wc (.tbl (E++B)))
  (ns:∀m,s.heap.Ns X.env.locals m->h'.Ns X.env.locals m)(G:HOk X.prog X.w H' h')(hg:AllBare M):
  Inv X pq σ H' {s with heap:=h',gens:=M,drawn:=d',toks:=a}:=by
 have C:∀b o,X.s₀.heap.get? b=wc o->b≠X.env.locals:=λb o e=>XG (YA (Xw e) I.ok.above);have f:∀b o,X.s₀.heap.get? b=wc o->b∉X.ex->b∉N:=λb o e j T=>by
  rcases(w b T).1 with z|z
  .erw[j z]
  .erw[absurd (YA (Xw e) z) (Ze _)]
 have y:∀x c,X.env.cells.lookup x=wc c->∀v,s.heap.IsCell c v->h'.IsCell c v:=λx c e v ⟨o,U,hd⟩=>by
  have g:c∉N:=λz=>(w c z).2.2.1 x c e rfl;by_cases hc:c∈X.fs
  .have⟨F,q⟩:=O c o (I.cne x c e) hc g U (I.freeC x c e);erw[⟨_,q,hd⟩]
  .erw[⟨o,keep c o (I.cne x c e) hc g U (I.freeC x c e),hd⟩]
 erw[⟨I.ok,I.os,hg,⟨λb o e n T j=>?_,λb o e n T j=>?_,λb o e n j=>?_,λb o e j=>?_,λb P e=>Y b P (I.base.tups b P e),λb o P e=>Z b o P (I.base.frzs b o P e),λb E e=>?_⟩,?_,λx c e=>?_,?_,λx c e=>?_,λp Q=>?_,G,I.len⟩]
 .erw[keep b o (C b o e) T (f b o e j) (I.base.keep b o e n T j) (I.base.free b o e n j)]
 .have⟨F,L⟩:=I.base.slot b o e n T j;have⟨J,D⟩:=O b _ (C b o e) T (f b o e j) L (I.base.free b o e n j);erw[⟨J,D⟩]
 .have⟨W,L⟩:=I.base.there b o e j;erw[free b W (f b o e j) L (I.base.free b o e n j)]
 .have⟨W,L⟩:=I.base.there b o e j;erw[R b W (f b o e j) L]
 .have⟨m1,L⟩:=I.base.tbls b E e;have⟨m2,D⟩:=A b _ L;erw[⟨m1++m2,by rw[D,Array.append_assoc]⟩]
 .have⟨m,hn,hl⟩:=I.loc;erw[⟨m,ns m hn,λi x v L D e3=>?_⟩];have⟨u,r,l⟩:=hl i x v L D e3;erw[⟨u,r,?_⟩];rcases l with l|⟨k,c,e,z⟩
  .erw[.inl l]
  .erw[.inr ⟨k,c,e,y x c e _ z⟩]
 .have⟨v,z⟩:=I.cell x c e;erw[⟨v,y x c e v z⟩]
 .have⟨m,⟨o,_,_,U,_⟩,_⟩:=I.loc;erw[free _ o (λz=>(w _ z).2.1 rfl) U I.free]
 .have⟨v,o,U,hd⟩:=I.cell x c e;erw[free c o (λz=>(w c z).2.2.1 x c e rfl) U (I.freeC x c e)]
 .have⟨e,n,S,h,d⟩:=I.pin p Q;have g:p.1∉N:=λz=>(w p.1 z).2.2.2 p Q rfl;erw[⟨keep p.1 p.2 S h g e n,free p.1 p.2 g e n,S,h,d⟩]
def Inv.un{c:Nat}(I:Inv X pq σ H s)(u:Un X.fs [] H H' s.heap h')(l:HOk X.prog X.w H' h'):Inv X pq σ H' {s with heap:=h',toks:=c}:=by
 have⟨m,⟨o,L,N,d,r⟩,_⟩:=id I.loc;have⟨O,f⟩:=u.any d I.free (by simp)
 erw[I.step (M:=s.gens) (d':=s.drawn) (N:=[]) (λ_ z=>nomatch z) (λb o _ w _ e n=>u.keep b o e n w (by simp)) (λb o _ w _ e n=>u.slot b o e n w (by simp)) (λb o _ e n=>u.free b o e n (by simp)) (λb o _ e=>u.there b o e (by simp)) u.tups u.frzs u.tbls (λP q=>by
  have⟨R,y,g,j,p⟩:=q;rw[d]at j;cases j;erw[⟨_,y,g,f,p⟩]) l I.bare]
def Inv.call{L:Array GenState}{O:Nat}{P:Drawn}{y:List Addr}(I:Inv X pq σ H s)(u:Un (frs X.stack) y H H' s.heap h')(g:HOk X.prog X.w H' h')(R:AllBare L)
  (l:∀b∈y,(b∈X.ex\/X.s₀.heap.objs.size<=b)/\b≠X.env.locals/\(∀x c,X.env.cells.lookup x=wc c->c≠b)/\∀p∈X.pn++pq,p.1≠b):
  Inv X pq σ H' {s with heap:=h',gens:=L,drawn:=P,toks:=O}:=by
 have⟨m,⟨o,Y,Z,N,r⟩,_⟩:=id I.loc;have⟨A,d⟩:=u.any N I.free λz=>(l _ z).2.1 rfl;erw[I.step (N:=y) l (λb o d T j e n=>u.keep b o e n (λz=>(Xj.mp (I.stkSub b z)).elim d T) j) (λb o _ _ j e n=>u.any e n j) (λb o j e n=>u.free b o e n j) (λb o j e=>u.there b o e j) u.tups u.frzs u.tbls (λB U=>by
  have⟨C,f,q,w,W⟩:=U;rw[N]at w;cases w;erw[⟨_,f,q,d,W⟩]) g R]
def Inv.turned{g:Nat}{j:Addr}(I:Inv X pq σ H s)(k:∀b o,b≠j->s.heap.get? b=wc o->h'.get? b=wc o)(d:H j=we)(y:j≠X.env.locals)
  (f:j∈X.ex\/X.s₀.heap.objs.size<=j)(L:∀x c,X.env.cells.lookup x=wc c->c≠j)(N:∀p∈X.pn++pq,p.1≠j):Inv X pq σ H {s with heap:=h',toks:=g}:=by
 have w:∀b u,H b=wc u->b≠j:=λb u e z=>by rw[z,d]at e;cases e
 erw[I.step (M:=s.gens) (d':=s.drawn) (N:=[j]) (λb O=>?_) (λb o _ _ l e _=>k b o (λz=>l (by simp[z])) e) (λb o _ _ l e _=>⟨o.slots,k b o (λz=>l (by simp[z])) e⟩) (λ_ _ _ _ n=>n)
  (λb o l e=>⟨o,k b o (λz=>l (by simp[z])) e⟩) (λ_ _ e=>e) (λ_ _ _ e=>e) (λb W e=>⟨#[],by rw[e];simp⟩) (λm P=>?_) (λb u e=>?_) I.bare]
 .have e:b=j:=by simpa using O
  subst e;erw[⟨f,y,L,N⟩]
 .have⟨o,R,T,U,r⟩:=P;erw[⟨o,R,T,k _ o (XR y) U,r⟩]
 .erw[(I.hok b u e).stay (λc v l q=>k c v ?_ q) (λ_ q=>q) λ_ _ q=>q];rcases l with z|z
  .rw[z];erw[w b u e]
  .erw[w c _ z]
def Inv.tok(I:Inv X pq σ H s)(t:Nat):Inv X pq σ H {s with toks:=t}:=I.un (h':=s.heap) (c:=t) Un.refl I.hok
theorem Inv.kept(I:Inv X pq σ H s)(k:∀b u,s.heap.get? b=wc u->h'.get? b=wc u):Inv X pq σ H {s with heap:=h',toks:=t'}:=I.un (Un.kept k) (I.hok.kept k)
theorem Inv.laid(I:Inv X pq σ H s)(k:∀b u,s.heap.get? b=wc u->h'.get? b=wc u)(j:s.heap.objs.size<=a)(new:ObjOk X.prog X.w (upd H a o) h' a o):
  Inv X pq σ (upd H a o) {s with heap:=h',toks:=t'}:=I.un (Un.laid k j (I.hok.fresh j)) (I.hok.laid k j new)
theorem Inv.write(I:Inv X pq σ H s)(l:Mut (H x))(w:e=x\/H e=wc (.own x))(k:∀b u,b≠e->s.heap.get? b=wc u->h'.get? b=wc u)(j:∃u,h'.get? e=wc u)
  (new:ObjOk X.prog X.w (upd H x o) h' x o):Inv X pq σ (upd H x o) {s with heap:=h',toks:=t'}:=I.un (Un.write l w k j) (I.hok.write l w k j new)
def Inv.weak(I:Inv X pq σ H s)(j:σ'.length=σ.length)(w:∀(i:Nat)v,σ'[i]?=wc (wc v)->σ[i]?=wc (wc v)):Inv X pq σ' H s:=
 ⟨I.ok,I.os,I.bare,I.base,let⟨m,hn,hl'⟩:=I.loc;⟨m,hn,λi x v l u y=>hl' i x v l (w i v u) y⟩,I.cell,I.free,I.freeC,I.pin,I.hok,j.trans I.len⟩
def Inv.pins_of(I:Inv X pq σ H s)(h:∀p∈pins',s.heap.get? p.1=wc p.2/\H p.1=we/\p.1≠X.env.locals/\p.1∉X.fs/\∀v,p.2.data≠.cell v):Inv X pins' σ H s:=
 ⟨I.ok,I.os,I.bare,I.base,I.loc,I.cell,I.free,I.freeC,λp j=>(Yo.mp j).elim (λz=>I.pin p (AO _ z)) (h p),I.hok,I.len⟩
def Gs{N:List Str}(l:N.Nodup){i j:Nat}{x:Str}(a:N[i]?=wc x)(b:N[j]?=wc x):i=j:=by
 have⟨y,u⟩:=Xm.mp a;have⟨z,w⟩:=Xm.mp b;erw[(AT l).mp (u.trans w.symm)]
def Gu{M:Model}{A:Xz}{E:X0->X2->Prop}{i:Nat}{x:Str}{v:V}{u:X0}{Q:Unit->X2->Prop}(I:Inv X pq σ H s)(hN:X.N.Nodup)(U:X.N[i]?=wc x)(L:Loc X.env.scope x)(r:RelV v u)
  (h:∀G,Inv X pq (σ.set i (wc v)) H G->(∃a,Uk a s.heap G.heap/\(a=X.env.locals\/X.env.cells.lookup x=wc a))->Q () G)(hf:X.fn x=wf\/X.env.scope.names.lookup x=wc .local:=by first|erw[.inl rfl]|erw[.inr rfl]|assumption):X3 M A (storeName X.env x u) Q E s:=by
 have⟨m,J,hl⟩:=id I.loc;have W:(X.env.scope.kind==.class||(X.env.scope.kind==.module&&X.env.locals != X.env.globals))=wg:=by rw[I.ok.kind];rfl
 have O:i<σ.length:=by rw[I.len];erw[(Xm.mp U).1]
 have cne:=I.cne;have w:∀{a:Addr} {h':Heap},(∃o,s.heap.get? a=wc o/\H a=we)->Uk a s.heap h'->HOk X.prog X.w H h':=fun{a h'} ha l b ob e=>by
  have⟨_,_,cx⟩:=ha;erw[(I.hok b ob e).stay (λc C f q=>(l.2 c ?_).trans q) (λ_ q=>q) λ_ _ q=>q];rintro rfl;rcases f with rfl|f
  .rw[cx]at e;cases e
  .rw[cx]at f;cases f
 rcases L with P|P
 .erw[wpAny_storeName_local P J (λh' S l=>?_) W];have⟨oL,_,_,hoL,_⟩:=id J;erw[h _ ⟨I.ok,I.os,I.bare,⟨λb o e n R L=>?_,λb o e n R L=>?_,I.base.free,λb o e L=>?_,I.base.tups,I.base.frzs,I.base.tbls⟩,⟨_,S,λj y v' g N e3=>?_⟩,λy c e=>?_,I.free,I.freeC,λp hp=>?_,w ⟨oL,hoL,I.free⟩ l,by simpa using I.len⟩ ⟨_,l,.inl rfl⟩]
  .erw[(l.2 b (XG (YA (Xw e) I.ok.above))).trans (I.base.keep b o e n R L)]
  .have⟨sl,g⟩:=I.base.slot b o e n R L;erw[⟨sl,(l.2 b (XG (YA (Xw e) I.ok.above))).trans g⟩]
  .have⟨o',g⟩:=I.base.there b o e L;erw[⟨o',(l.2 b (XG (YA (Xw e) I.ok.above))).trans g⟩]
  .by_cases hj:j=i
   .subst hj;rw[U]at g;cases g;rw[CP O]at N;cases N;erw[⟨u,r,.inl ⟨P,by simp⟩⟩]
   .rw[AQ (XR hj)]at N;have⟨u',r',q⟩:=hl j y v' g N e3;erw[⟨u',r',?_⟩];rcases q with⟨k,e⟩|⟨k,c,e,z⟩
    .erw[.inl ⟨k,?_⟩];have:y≠x:=λe=>hj (Gs hN g (e▸U));simp[this,e]
    .erw[.inr ⟨k,c,e,z.sameBut l (cne y c e)⟩]
  .have⟨C,z⟩:=I.cell y c e;erw[⟨C,z.sameBut l (cne y c e)⟩]
  .have⟨e,n,D,nf,d⟩:=I.pin p hp;erw[⟨(l.2 p.1 D).trans e,n,D,nf,d⟩]
 .have T:X.fn x=wf:=by
   rcases hf with z|z
   .erw[z]
   .rw[z]at P;cases P
  have⟨c,f⟩:=I.ok.has x (.inl P);have⟨C,z⟩:=I.cell x c f;erw[wpAny_storeName_cell I.ok.kind P f z (λh' Y l=>?_)];have⟨oc,Z,B⟩:=id z;erw[h {s with heap:=h'} ⟨I.ok,I.os,I.bare,⟨λb o e n R L=>?_,λb o e n R L=>?_,I.base.free,λb o e L=>?_,I.base.tups,I.base.frzs,I.base.tbls⟩,⟨m,J.sameBut l (XR (cne x c f)),λj y v' g N e3=>?_⟩,λy F e=>?_,I.free,I.freeC,λp hp=>?_,w ⟨oc,Z,I.freeC x c f⟩ l,by simpa using I.len⟩ ⟨c,l,.inr f⟩]
  .erw[(l.2 b (XG (YA (Xw e) (I.ok.cab x c T f)))).trans (I.base.keep b o e n R L)]
  .have⟨sl,g⟩:=I.base.slot b o e n R L;erw[⟨sl,(l.2 b (XG (YA (Xw e) (I.ok.cab x c T f)))).trans g⟩]
  .have⟨o',g⟩:=I.base.there b o e L;erw[⟨o',(l.2 b (XG (YA (Xw e) (I.ok.cab x c T f)))).trans g⟩]
  .by_cases hj:j=i
   .subst hj;rw[U]at g;cases g;rw[CP O]at N;cases N;erw[⟨u,r,.inr ⟨.inl P,c,f,Y⟩⟩]
   .rw[AQ (XR hj)]at N;have⟨u',r',q⟩:=hl j y v' g N e3;erw[⟨u',r',?_⟩];rcases q with q|⟨k,F,e,z'⟩
    .erw[.inl q]
    .erw[.inr ⟨k,F,e,z'.sameBut l ?_⟩];rintro rfl;erw[hj (Gs hN g (I.ok.inj _ _ _ e f▸U))]
  .by_cases hcc:F=c
   .subst hcc;erw[⟨_,Y⟩]
   .have⟨w2,z2⟩:=I.cell y F e;erw[⟨w2,z2.sameBut l hcc⟩]
  .have⟨e,n,D,nf,d⟩:=I.pin p hp;erw[⟨(l.2 p.1 ?_).trans e,n,D,nf,d⟩];intro q;rw[q,Z]at e;have q':oc=p.2:=Y4 e;erw[d C (by rw[<-q'];erw[B])]
def Gw(I:Inv X pq σ H s)(l:X.N.Nodup)(w:X.N[i]?=wc x)(y:Loc X.env.scope x)(r:RelV v u)
  (h:∀j,Inv X pq (σ.set i (wc v)) H j->Q () j)(z:X.fn x=wf\/X.env.scope.names.lookup x=wc .local:=by first|erw[.inl rfl]|erw[.inr rfl]|assumption):X3 M A (storeName X.env x u) Q E s:=
 Gu I l w y r (λj m _=>h j m) z
def Inv.call'(I:Inv X pq σ H s)(w:s'.os=s.os)(u:Un (frs X.stack) ch H H' s.heap s'.heap)(j:HOk X.prog X.w H' s'.heap)(y:AllBare s'.gens)
  (l:∀b∈ch,(b∈X.ex\/X.s₀.heap.objs.size<=b)/\b≠X.env.locals/\(∀x c,X.env.cells.lookup x=wc c->c≠b)/\∀p∈X.pn++pq,p.1≠b):Inv X pq σ H' s':=by
 have⟨h',z,m,g,d⟩:=s';have e:d=s.os:=w;subst e;erw[I.call (L:=z) (O:=g) (P:=m) u j y l]
end
abbrev XK:=X0->Option Addr->Hp->Prop
noncomputable abbrev St:=List (Option V)
abbrev VK:=V->Hp->Prop
abbrev TE:=St->Hp->VK->Prop
abbrev TT:=St->Hp->(Bool->Hp->Prop)->Prop
abbrev TA:=St->Hp->(List V->Hp->Prop)->Prop
structure Ends where
 nx:St->Hp->Prop
 rt:VK
 bk:St->Hp->Prop:=λ_ _=>False
 ct:St->Hp->Prop:=λ_ _=>False
abbrev TS:=Ends->St->Hp->Prop
def EP(X:Cx)(l:List (Addr×Obj))(w:St)(Q:VK)(u:X0)(y:X2):Prop:=∃v j,Inv X l w j y/\RelV v u/\Q v j
noncomputable def TP(X:Cx)(l:List (Addr×Obj))(u:St)(Q:Bool->Hp->Prop)(b:Bool)(w:X2):Prop:=∃j,Inv X l u j w/\Q b j
def AP(X:Cx)(u:List (Addr×Obj))(w:St)(Q:List V->Hp->Prop)(y:List X0)(z:X2):Prop:=∃j l,Inv X u w l z/\Vals j y/\Q j l
def SP(X:Cx)(w:List (Addr×Obj))(D:Ends)(f:Flow)(y:X2):Prop:=
 match f with
 |.next=>∃j l,Inv X w j l y/\D.nx j l
 |.brk=>∃j l,Inv X w j l y/\D.bk j l
 |.cont=>∃j l,Inv X w j l y/\D.ct j l
 |.ret u=>∃v j l,Inv X w j l y/\RelV v u/\D.rt v l
def PE(X:Cx)(e:Expr)(t:TE):Prop:=
 ∀(l:List (Addr×Obj))(s:X2)(j:St)(H:Hp)(Q:VK),Inv X l j H s->t j H Q->X3 (X8 X.prog X.w) X.A (eval e X.env) (EP X l j Q) X.xe s
def PT(X:Cx)(e:Expr)(t:TT):Prop:=
 ∀(l:List (Addr×Obj))(s:X2)(j:St)(H:Hp)(Q:Bool->Hp->Prop),Inv X l j H s->t j H Q->X3 (X8 X.prog X.w) X.A (isTrue e X.env (eval e X.env)) (TP X l j Q) X.xe s
def PW(X:Cx)(e:Expr)(t:TT):Prop:=
 ∀(j:Sem X0)(u:List (Addr×Obj))(s:X2)(l:St)(H:Hp)(Q:Bool->Hp->Prop),Inv X u l H s->t l H Q->X3 (X8 X.prog X.w) X.A (isTrue e X.env j) (TP X u l Q) X.xe s
def PW.pt{t:TT}(h:PW X e t):PT X e t:=h _
def PA(X:Cx)(w:List Expr)(t:TA):Prop:=
 ∀(j:Pos)(u:List (Addr×Obj))(s:X2)(l:St)(H:Hp)(Q:List V->Hp->Prop),Inv X u l H s->t l H Q->X3 (X8 X.prog X.w) X.A (spliced (Y0 j (Xx w X.env))) (AP X u l Q) X.xe s
def PS(X:Cx)(st:Stmt)(t:TS):Prop:=
 ∀(j:List (Addr×Obj))(s:X2)(l:St)(H:Hp)(D:Ends),Inv X j l H s->t D l H->X3 (X8 X.prog X.w) X.A (exec st X.env) (SP X j D) X.xe s
def PSs(X:Cx)(st:List Stmt)(t:TS):Prop:=
 ∀(j:List (Addr×Obj))(s:X2)(l:St)(H:Hp)(D:Ends),Inv X j l H s->t D l H->X3 (X8 X.prog X.w) X.A (execs st X.env) (SP X j D) X.xe s
def thn{j:Type}{t:Sem j}{Q l:j->X2->Prop}{M:Model}{A:Xz}{E:X0->X2->Prop}{s:X2}(h:X3 M A t Q E s)(u:∀a s,Q a s->l a s):X3 M A t l E s:=ZR h u λ_ _ x=>x
section
variable{X:Cx}
def bin{a b:Expr}{q r:TE}(e:PE X a q)(L:PE X b r){m:List (Addr×Obj)}{s:X2}{j:St}{H:Hp}{R:V->V->Hp->Prop}(I:Inv X m j H s)(h:q j H λx d=>r j d λy l=>R x y l)
  {p:Type} {Q:p->X2->Prop} {f:X0->X0->Sem p}
  (N:∀v u g x y l,Inv X m j l g->RelV x v->RelV y u->R x y l->X3 (X8 X.prog X.w) X.A (f v u) Q X.xe g):
  X3 (X8 X.prog X.w) X.A (eval a X.env) (λv w=>X3 (X8 X.prog X.w) X.A (eval b X.env) (λu z=>X3 (X8 X.prog X.w) X.A (f v u) Q X.xe z) X.xe w) X.xe s:=by
 erw[thn (e m s j H _ I h) λv O c=>?_];have⟨x,d,P,T,U⟩:=c;erw[thn (L m O j d _ P U) λu g c=>?_];have⟨y,l,W,Y,Z⟩:=c;erw[N v u g x y l W T Y Z]
noncomputable def tVar(i:Nat):TE:=λj H Q=>∃v,j[i]?=wc (wc v)/\Q v H
noncomputable def tC(v:V):TE:=λ_ H Q=>Q v H
def Gx{i:Nat}{x:Str}{z:Pos}(f:X.N[i]?=wc x)(q:Vis X.env.scope x)(hd:(x==("__debug__":Str))=wg:=by decide)(g:(x==("__classdict__":Str))=wg:=by decide):PE X (.Name x z) (tVar i):=by
 intro p s L H Q I h;have⟨v,e,h⟩:=h;have⟨m,N,O⟩:=I.loc;have⟨u,r,l⟩:=O i x v f e q;have w:EP X p L Q u s:=⟨v,H,I,r,h⟩;rcases l with⟨y,P⟩|⟨y,c,d,j⟩
 .erw[wpAny_Name (wpAny_loadName_local I.ok.kind y N P w) hd]
 .rcases y with y|y
  .erw[wpAny_Name (wpAny_loadName_cell I.ok.kind y d j w) hd]
  .erw[wpAny_Name (wpAny_loadName_free I.ok.kind y d j w g) hd]
def pe_int{i j l}:PE X (.Constant (.int i) j l) (tC (.int i)):=λ_ _ _ H _ I h=>wpAny_Constant_int ⟨.int i,H,I.tok _,⟨_,rfl⟩,h⟩
def pe_bl{b j l}:PE X (.Constant (.bool b) j l) (tC (.bl b)):=λ_ _ _ H _ I h=>Constant_bool ⟨.bl b,H,I,rfl,h⟩
def pe_non{j l}:PE X (.Constant .none j l) (tC .non):=λ_ _ _ H _ I h=>Constant_none ⟨.non,H,I,rfl,h⟩
def pe_str{x j l}:PE X (.Constant (.str x) j l) (tC (.str x)):=λ_ _ _ H _ I h=>Calls.Constant_str ⟨.str x,H,I.tok _,⟨_,rfl⟩,h⟩
noncomputable def Gl(X:Cx)(x:Str):Prop:=X.env.kindOf x=wc .globalImplicit
def Dq(I:Inv X pq σ H s)(j:Gl X x)(l:X.mg x=wc u)(h:Q u s)
  (hd:(x==("__debug__":Str))=wg:=by decide):X3 (X8 X.prog X.w) X.A (eval (.Name x pos) X.env) Q E s:=
 Gf I.ok.kind j (Calls.loadGlobal_global (by rw[I.ok.glob];erw[I.mod.glob.keeps I.bk]) l h) hd
def Us(I:Inv X pq σ H s)(j:Gl X x)(l:X.mg x=we)(w:YI x=wc u)(h:Q u s)
  (y:x≠"__name__":=by decide)(hd:(x==("__debug__":Str))=wg:=by decide):X3 (X8 X.prog X.w) X.A (eval (.Name x pos) X.env) Q E s:=by
 have⟨g,z,m⟩:=I.mod.blt;erw[Gf I.ok.kind j (Calls.loadGlobal_builtin (by rw[I.ok.glob];erw[I.mod.glob.keeps I.bk]) l (by rw[I.ok.blt];erw[z.keeps I.bk]) ((m x y).trans w) h) hd]
def Rb{x:Str}{v:V}{u:X0}{j:Pos}(l:Gl X x)(w:X.mg x=wc u)(r:RelV v u)(hd:(x==("__debug__":Str))=wg:=by decide):PE X (.Name x j) (tC v):=
 λ_ _ _ H _ I h=>Dq I l w ⟨v,H,I,r,h⟩ hd
def Rc{x:Str}{v:V}{u:X0}{j:Pos}(l:Gl X x)(w:X.mg x=we)(y:YI x=wc u)(r:RelV v u)(z:x≠"__name__":=by decide)(hd:(x==("__debug__":Str))=wg:=by decide):PE X (.Name x j) (tC v):=
 λ_ _ _ H _ I h=>Us I l w y ⟨v,H,I,r,h⟩ z hd
variable{a b:Expr}{ta tb:TE}{pos:Pos}
noncomputable def tB(t:TE):TT:=λj H Q=>t j H λx l=>∃c,x=.bl c/\Q c l
def Re{e:Expr}{t:TE}(h:PE X e t)(l:∀j,isTrue e X.env j=(do let v<- j;standAt e.pos;Z9 [v] (truthy v)):=by intro _;rfl):PT X e (tB t):=by
 intro u s w H Q I y;erw[isTrue_plain (thn (h u s w H _ I y) λv r z=>?_) (l _)];have⟨x,m,g,c,f⟩:=z;have⟨d,rfl,q⟩:=f;cases c;erw[Zz ⟨m,g,q⟩]
variable{tA tB':TT}{rest:List Expr}
noncomputable def tAnd(t u:TT):TT:=λj H Q=>t j H λc l=>if c=wf then u j l Q else Q wg l
noncomputable def tOr(t u:TT):TT:=λj H Q=>t j H λc l=>if c=wf then Q wf l else u j l Q
noncomputable def tNot(t:TT):TT:=λj H Q=>t j H λc l=>Q (!c) l
def pw_and1(j:PT X a tA):PW X (.BoolOp .And [a] pos) tA:=by
 intro w l s u H Q I h;erw[isTrue_and (thn (j l s u H Q I h) λc y e=>?_)];cases c with
 |true=>erw[isTrue_and_nil e]
 |false=>erw[e]
def pw_or1(j:PT X a tA):PW X (.BoolOp .Or [a] pos) tA:=by
 intro w l s u H Q I h;erw[isTrue_or (thn (j l s u H Q I h) λc y e=>?_)];cases c with
 |false=>erw[isTrue_or_nil e]
 |true=>erw[e]
def pw_and(z:PT X a tA)(m:PW X (.BoolOp .And (b::rest) pos) tB'):PW X (.BoolOp .And (a::b::rest) pos) (tAnd tA tB'):=by
 intro g j s l H Q I h;erw[isTrue_and (thn (z j s l H _ I h) λc d f=>?_)];have⟨u,w,y⟩:=f;cases c with
 |true=>erw[m g j d l u Q w y]
 |false=>erw[⟨u,w,y⟩]
def pw_or(z:PT X a tA)(m:PW X (.BoolOp .Or (b::rest) pos) tB'):PW X (.BoolOp .Or (a::b::rest) pos) (tOr tA tB'):=by
 intro g j s l H Q I h;erw[isTrue_or (thn (z j s l H _ I h) λc d f=>?_)];have⟨u,w,y⟩:=f;cases c with
 |true=>erw[⟨u,w,y⟩]
 |false=>erw[m g j d l u Q w y]
def Rf(j:PT X a tA):PT X (.UnaryOp .Not a pos) (tNot tA):=by
 intro l s u H Q I h;erw[isTrue_not (j l s u H (λc w=>Q (!c) w) I h)]
noncomputable def Rg(ta tb:TE):TE:=λj H Q=>ta j H λx l=>∃c,x=.bl c/\if c=wf then tb j l Q else Q (.bl wg) l
noncomputable def tOrV(ta tb:TE):TE:=λj H Q=>ta j H λx l=>∃c,x=.bl c/\if c=wf then Q (.bl wf) l else tb j l Q
noncomputable def Rh(ta:TE):TE:=λj H Q=>ta j H λx l=>∃c,x=.bl c/\Q (.bl (!c)) l
def Gy{j}{t:TE}(h:PE X a t):PE X (.BoolOp j [a] pos) t:=λl s u H Q I w=>BoolOp_one (h l s u H Q I w)
def Ri(z:PE X a ta)(m:PE X (.BoolOp .And (b::rest) pos) tb):PE X (.BoolOp .And (a::b::rest) pos) (Rg ta tb):=by
 intro l s u H Q I h;erw[BoolOp_and (thn (z l s u H _ I h) λv g d=>?_)];have⟨x,w,y,f,j⟩:=d;have⟨c,rfl,j⟩:=j;cases f;erw[Zz ?_];cases c with
 |true=>erw[m l g u w Q y j]
 |false=>erw[⟨.bl wg,w,y,rfl,j⟩]
def Rj(z:PE X a ta)(m:PE X (.BoolOp .Or (b::rest) pos) tb):PE X (.BoolOp .Or (a::b::rest) pos) (tOrV ta tb):=by
 intro l s u H Q I h;erw[BoolOp_or (thn (z l s u H _ I h) λv g d=>?_)];have⟨x,w,y,f,j⟩:=d;have⟨c,rfl,j⟩:=j;cases f;erw[Zz ?_];cases c with
 |false=>erw[m l g u w Q y j]
 |true=>erw[⟨.bl wf,w,y,rfl,j⟩]
def Rk(l:PE X a ta):PE X (.UnaryOp .Not a pos) (Rh ta):=by
 intro u s w H Q I h;erw[UnaryOp_ (thn (l u s w H _ I h) λv d y=>?_)];have⟨x,z,m,g,j⟩:=y;have⟨c,rfl,j⟩:=j;cases g;erw[not_of (Zz ⟨.bl (!c),z,m,rfl,j⟩)]
noncomputable def tIf(t:TT)(ta tb:TE):TE:=λj H Q=>t j H λc l=>if c=wf then ta j l Q else tb j l Q
def Rm{c:Expr}(m:PT X c tA)(g:PE X a ta)(f:PE X b tb):PE X (.IfExp c a b pos) (tIf tA ta tb):=by
 intro j s l H Q I h;erw[wpAny_IfExp (thn (m j s l H _ I h) λd u q=>?_)];have⟨w,y,z⟩:=q;cases d with
 |true=>erw[g j u l w Q y z]
 |false=>erw[f j u l w Q y z]
end
def SqL(K:X4)(H:Hp)(a:Addr)(l:List V):Prop:=
 Rd H a (.lst l)\/
  ∃(o:Obj) (j:Array X0) (n:Nat),K.lookup a=wc o/\o.cls=.type "list"/\o.dict=we/\o.data=.seq j n/\j.size<=sizeLine/\Vals l j.toList
def SqT(K:X4)(H:Hp)(a:Addr)(l:List V):Prop:=
 Rd H a (.tup l)\/
  ∃(o:Obj) (j:Array X0) (n:Nat),K.lookup a=wc o/\o.cls=.type "tuple"/\o.data=.seq j n/\j.size<=sizeLine/\Vals l j.toList
noncomputable def absV:X0->Option V
 |.none=>wc .non
 |.bool b=>wc (.bl b)
 |.int i _=>wc (.int i)
 |.str x _=>wc (.str x)
 |.bytes b _=>wc (.byt b)
 |.float b _=>wc (.flt b)
 |.ref a=>wc (.ref a)
 |.type n=>wc (.ty n)
 |_=>we
def RelV.abs(r:RelV x u):absV u=wc x:=by
 cases x with
 |non=>cases r;rfl
 |bl _=>cases r;rfl
 |int _=>have⟨t,rfl⟩:=r;rfl
 |str _=>have⟨t,rfl⟩:=r;rfl
 |byt _=>have⟨t,rfl⟩:=r;rfl
 |flt _=>have⟨t,rfl⟩:=r;rfl
 |ref _=>cases r;rfl
 |ty _=>cases r;rfl
def RelV.inj(r:RelV x u)(q:RelV y u):x=y:=Y4 (r.abs.symm.trans q.abs)
theorem Vals.inj:∀{xs j:List V} {us:List X0},Vals xs us->Vals j us->xs=j
 |_,_,_,.nil,.nil=>rfl
 |_,_,_,.cons r t,.cons r' t'=>by rw[r.inj r',Vals.inj t t']
section
variable{X:Cx}{pq:List (Addr×Obj)}{σ:St}{H:Hp}{s:X2}{a:Addr}{xs ys:List V}
def SqL.of{K:X4}(h:H a=wc (.lst xs)):SqL K H a xs:=.inl (.inl h)
def SqT.of{K:X4}(h:H a=wc (.tup xs)):SqT K H a xs:=.inl (.inl h)
def Inv.list(I:Inv X pq σ H s)(h:SqL X.K H a xs):∃j:List X0,Vals xs j/\PlainL s.heap a j.toArray/\xs.length<=sizeLine:=by
 rcases h with h|⟨o,j,n,l,u,hd,w,y,r⟩
 .have⟨z,j,n,r,e⟩:=h.ok I.hok;erw[⟨j,r,⟨_,n,e,rfl,rfl,rfl⟩,z⟩]
 .erw[⟨j.toList,r,⟨o,n,I.kIn a o l,u,hd,by simpa using w⟩,?_⟩]
  have e:=r.length;simp only[Yg]at e;lia
def Inv.tuple(I:Inv X pq σ H s)(h:SqT X.K H a xs):∃j:List X0,Vals xs j/\IsTup s.heap a j.toArray/\xs.length<=sizeLine:=by
 rcases h with h|⟨o,j,n,l,u,w,y,r⟩
 .have⟨z,j,r,p⟩:=h.ok I.hok;erw[⟨j,r,p.1,z⟩]
 .erw[⟨j.toList,r,⟨o,I.kIn a o l,u,n,by simpa using w⟩,?_⟩]
  have e:=r.length;simp only[Yg]at e;lia
def Inv.list_inj(I:Inv X pq σ H s)(h:SqL X.K H a xs)(y:SqL X.K H a ys):xs=ys:=by
 have⟨l,r,⟨o,n,e,_,_,d⟩,_⟩:=I.list h;have⟨j,z,⟨m,g,u,_,_,w⟩,_⟩:=I.list y;rw[e]at u;cases u;rw[d]at w;injection w with d1 _;have:l=j:=by simpa using congrArg Array.toList d1
 subst this;erw[r.inj z]
def Inv.tuple_inj(I:Inv X pq σ H s)(h:SqT X.K H a xs)(y:SqT X.K H a ys):xs=ys:=by
 have⟨l,r,⟨o,e,_,n,d⟩,_⟩:=I.tuple h;have⟨j,z,⟨m,u,_,g,w⟩,_⟩:=I.tuple y;rw[e]at u;cases u;rw[d]at w;injection w with d1 _;have:l=j:=by simpa using congrArg Array.toList d1
 subst this;erw[r.inj z]
end
noncomputable abbrev Cx.wish(X:Cx)(E:X0->X2->Prop):Cx:={X with xe:=E}
noncomputable abbrev Cx.nox(X:Cx):Cx:=X.wish λ_ _=>False
theorem Cx.Ok.wish{X:Cx}(ok:X.Ok)(E:X0->X2->Prop):(X.wish E).Ok:=
 ⟨ok.mod,ok.kind,ok.glob,ok.blt,ok.above,ok.inj,ok.has,ok.cab,ok.hd,ok.frames,ok.stk,ok.exf,ok.bs,ok.bsz,ok.noex,ok.exfs,ok.funs,ok.frf⟩
def Cx.Ok.unwish{X:Cx}{E:X0->X2->Prop}(ok:(X.wish E).Ok):X.Ok:=
 ⟨ok.mod,ok.kind,ok.glob,ok.blt,ok.above,ok.inj,ok.has,ok.cab,ok.hd,ok.frames,ok.stk,ok.exf,ok.bs,ok.bsz,ok.noex,ok.exfs,ok.funs,ok.frf⟩
section
variable{X:Cx}{pq:List (Addr×Obj)}{σ:St}{H:Hp}{s:X2}{E:X0->X2->Prop}
theorem Inv.wish(I:Inv X pq σ H s)(E:X0->X2->Prop):Inv (X.wish E) pq σ H s:=⟨I.ok.wish E,I.os,I.bare,I.base,I.loc,I.cell,I.free,I.freeC,I.pin,I.hok,I.len⟩
theorem Inv.unwish(I:Inv (X.wish E) pq σ H s):Inv X pq σ H s:=⟨I.ok.unwish,I.os,I.bare,I.base,I.loc,I.cell,I.free,I.freeC,I.pin,I.hok,I.len⟩
theorem SP.unwish(h:SP (X.wish E) pq D f s'):SP X pq D f s':=by
 cases f with
 |next=>have⟨j,l,I,q⟩:=h;erw[⟨j,l,I.unwish,q⟩]
 |brk=>have⟨j,l,I,q⟩:=h;erw[⟨j,l,I.unwish,q⟩]
 |cont=>have⟨j,l,I,q⟩:=h;erw[⟨j,l,I.unwish,q⟩]
 |ret u=>have⟨v,j,l,I,r,q⟩:=h;erw[⟨v,j,l,I.unwish,r,q⟩]
theorem PSs.nox{st:List Stmt}{t:TS}(h:PSs X.nox st t):PSs X st t:=λpq s σ H D I j=>
 ZR (h pq s σ H D (I.wish _) j) (λ_ _ q=>q.unwish) λ_ _ z=>Y7 z
end
section
variable{X:Cx}{st:Stmt}{rest:List Stmt}{t u:TS}{e:Expr}{te:TE}{pos:Pos}
noncomputable def Rn:TS:=λD j H=>D.nx j H
noncomputable def tSeq(t u:TS):TS:=λD j H=>t {D with nx:=u D} j H
def pss_nil:PSs X [] Rn:=λ_ _ j H _ I h=>wpAny_execs_nil ⟨j,H,I,h⟩
def Ro(w:PS X st t)(y:PSs X rest u):PSs X (st::rest) (tSeq t u):=by
 intro l s z H D I h;erw[wpAny_execs_cons (thn (w l s z H {D with nx:=u D} I h) λf m q=>?_)];cases f with
 |next=>
  have⟨j,g,d,q⟩:=q;erw[y l m j g D d q]
 |ret v=>erw[q]
 |brk=>erw[q]
 |cont=>erw[q]
def Inv.quiet(I:Inv X pq σ H s):interactive X.env=wg:=by simp[interactive,I.ok.kind]
noncomputable def Rp(te:TE):TS:=λD j H=>te j H λ_ l=>D.nx j l
def Rq(l:PE X e te)(w:ZS e we pos.line X.env=pure wg:=by rfl):PS X (.Expr e pos) (Rp te):=by
 intro y s j H D I h;erw[wpAny_Expr_any (thn (l y s j H _ I h) λv d ⟨x,z,m,c,g⟩=>⟨j,z,m,g⟩) I.quiet w]
noncomputable def tRet(te:TE):TS:=λD j H=>te j H D.rt
def Rr(l:PE X e te):PS X (.Return (wc e) pos) (tRet te):=by
 intro w s j H D I h;erw[wpAny_Return_some (thn (l w s j H _ I h) λv d ⟨x,y,z,m,g⟩=>⟨x,j,y,z,m,g⟩)]
noncomputable def tIfS(c:TT)(t u:TS):TS:=λD j H=>c j H λb l=>if b=wf then t D j l else u D j l
def Rs{c:Expr}{a b:List Stmt}{w:TT}(f:PT X c w)(q:PSs X a t)(r:PSs X b u):PS X (.If c a b pos) (tIfS w t u):=by
 intro j s l H D I h;erw[wpAny_If (thn (f j s l H _ I h) λd y p=>?_)];have⟨z,m,g⟩:=p;cases d with
 |true=>erw[q j y l z D m g]
 |false=>erw[r j y l z D m g]
noncomputable def Rt:TS:=λ_ _ _=>False
def ps_never:PS X st Rt:=λ_ _ _ _ _ _ h=>h.elim
end
abbrev TG:=V->St->Hp->(St->Hp->Prop)->Prop
abbrev TGs:=List V->St->Hp->(St->Hp->Prop)->Prop
def PG(X:Cx)(j:Expr)(t:TG):Prop:=
 ∀(w:List (Addr×Obj))(s:X2)(y:St)(H:Hp)(v:V)(u:X0)(Q:St->Hp->Prop),Inv X w y H s->RelV v u->t v y H Q->
  X3 (X8 X.prog X.w) X.A (assign j X.env u) (λ_ m=>∃l z,Inv X w l z m/\Q l z) X.xe s
def PGs(X:Cx)(m:List Expr)(t:TGs):Prop:=
 ∀(l:List (Addr×Obj))(s:X2)(u:St)(H:Hp)(w:List V)(y:List X0)(Q:St->Hp->Prop),Inv X l u H s->Vals w y->t w u H Q->
  X3 (X8 X.prog X.w) X.A (assignInOrder ((ZT m X.env).map (·.2)) y) (λ_ g=>∃j z,Inv X l j z g/\Q j z) X.xe s
abbrev TSet:=V->V->V->Hp->(Hp->Prop)->Prop
def PSet(X:Cx)(t:TSet):Prop:=
 ∀(j:List (Addr×Obj))(s:X2)(l:St)(H:Hp)(o i v:V)(w y u:X0)(Q:Hp->Prop),Inv X j l H s->RelV o w->RelV i y->RelV v u->t o i v H Q->
  X3 (X8 X.prog X.w) X.A (setItem w y u) (λ_ m=>∃z,Inv X j l z m/\Q z) X.xe s
section
variable{X:Cx}{pos:Pos}
noncomputable def BD(i:Nat):TG:=λv j H Q=>Q (j.set i (wc v)) H
def Gz(j:X.N.Nodup)(l:X.N[i]?=wc x)(w:Loc X.env.scope x)(y:X.fn x=wf\/X.env.scope.names.lookup x=wc .local:=by first|erw[.inl rfl]|erw[.inr rfl]|assumption):PG X (.Name x pos) (BD i):=by
 intro m s g H v u Q I r h;erw[wpAny_assign_Name (Gw I j l w r (λd z=>⟨_,H,z,h⟩) y)]
noncomputable def gNil:TGs:=λj l H Q=>j=[]/\Q l H
noncomputable def GA(t:TG)(u:TGs):TGs:=λl w H Q=>∃v r,l=v::r/\t v w H λj y=>u r j y Q
def Ru:PGs X [] gNil:=by
 intro l s j H u w Q I r h;have⟨e,h⟩:=h;subst e;cases r;erw[assignInOrder_nil ⟨j,H,I,h⟩]
def Rv{e:Expr}{j:List Expr}{t:TG}{u:TGs}(y:PG X e t)(z:PGs X j u)
  (m:(ZT (e::j) X.env).map (·.2)=assign e X.env::(ZT j X.env).map (·.2):=by rfl):PGs X (e::j) (GA t u):=by
 intro w s g H O P Q I r h;have⟨v,R,d,h⟩:=h;subst d;cases r with
 |cons r c=>
  rw[m];erw[assignInOrder_cons (thn (y w s g H _ _ _ I r h) λ_ f q=>?_)];have⟨l,p,L,N⟩:=q;erw[z w f l p _ _ Q L c N]
def gTup(K:X4)(n:Nat)(t:TGs):TG:=λv l H Q=>∃a j,v=.ref a/\SqT K H a j/\j.length=n/\t j l H Q
def Rw{k:Nat}{t:TGs}(m:X.calm=wf)(h:PGs X es t)
  (g:(ZT es X.env).length=n:=by rfl)(j:(ZT es X.env).findIdx? (·.1)=we:=by rfl):PG X (.Tuple es k pos) (gTup X.K n t):=by
 intro w s y H v u Q I r l;have⟨a,d,c,f,q,l⟩:=l;subst c;cases r;have⟨p,z,L,R⟩:=I.tuple f;erw[assign_Tuple_tuple (I.ok.hd m) L (by simp[g,<-q,z.length]) j λN O=>?_]
 have P:Inv X w y H {s with heap:=N}:=I.kept (t':=s.toks) λb o e=>O b o (XG (Xw e)) e;erw[h w _ y H d _ Q P (by simpa using z) l]
noncomputable def gSub(to l:TE)(t:TSet):TG:=λv j H Q=>to j H λo u=>l j u λi w=>t o i v w λy=>Q j y
def Rx{o i:Expr}{to g:TE}{t:TSet}(d:PE X o to)(c:PE X i g)(f:PSet X t)
  (q:∀v,assign (.Subscript o i pos) X.env v=(do
   let j<- Z9 [v] (eval o X.env)
   let w<- Z9 [v,j] (eval i X.env)
   standAt pos
   Z9 [v,j,w] (setItem j w v)
   release [v,j,w] []):=by intro _;rfl):PG X (.Subscript o i pos) (gSub to g t):=by
 intro m s z H v u Q I r h;rw[q];erw[X1 (Yx (thn (d m s z H _ I h) λj p l=>?_))];have⟨x,e,L,N,O⟩:=l;erw[X1 (Yx (thn (c m p z e _ L O) λw P l=>?_))];have⟨y,R,T,U,W⟩:=l;erw[X1 (wpAny_standAt (X1 (Yx (thn (f m P z R x y v j w u _ T N U r W) λ_ B l=>?_))))];have⟨Y,Z,A⟩:=l;erw[wpAny_release ⟨z,Y,Z,A⟩]
noncomputable def tAsg(l:TE)(g:TG):TS:=λD j H=>l j H λx u=>g x j u D.nx
def GD{j e:Expr}{l:TE}{g:TG}(y:PE X e l)(z:PG X j g)(m:swapsWithSole [j] e pos.line X.env=pure wg:=by rfl)(hw:swappedStores [j] e X.env=pure we:=by rfl)
  (d:(ZT [j] X.env).map (·.2)=[assign j X.env]:=by rfl):PS X (.Assign [j] e pos) (tAsg l g):=by
 intro u s w H D I h;erw[wpAny_Assign_stores (thn (y u s w H _ I h) λv c f=>?_) m hw];have⟨x,r,p,L,N⟩:=f;rw[d];erw[thn (z u c w r x v _ p L N) λ_ O q=>q]
def GE{i:Nat}{x:Str}{e:Expr}{l:TE}{j:Pos}(u:X.N.Nodup)(w:X.N[i]?=wc x)(z:Loc X.env.scope x)(m:PE X e l)(g:ZS e (wc (.Name x j)) pos.line X.env=pure wg:=by rfl)(d:X.fn x=wf\/X.env.scope.names.lookup x=wc .local:=by first|erw[.inl rfl]|erw[.inr rfl]|assumption):
  PS X (.Assign [.Name x j] e pos) (tAsg l (BD i)):=by
 intro c s f H D I h;erw[wpAny_Assign_Name (thn (m c s f H _ I h) λv P q=>?_) g];have⟨y,r,p,L,N⟩:=q;erw[Gw p u w z L (λR O=>⟨_,r,O,N⟩) d]
def Ry(c:TT)(z:TS):TS:=λD j H=>∃W:Nat->St->Hp->Prop,(∃m,W m j H)/\∀m j H,W m j H->
 c j H λb u=>if b=wf then∃N:St->Hp->Prop,(∀l w,N l w->∃y,y<m/\W y l w)/\z {D with nx:=N,ct:=N,bk:=D.nx} j u else D.nx j u
def Rz{c:Expr}{u:List Stmt}{O:TT}{P:TS}(R:PassesOwn (X8 X.prog X.w) X.A X.env X.xe)(B:PT X c O)(C:PSs X u P):PS X (.While c u [] pos) (Ry O P):=by
 intro d s E H D I h;have⟨W,⟨F,G⟩,w⟩:=h;erw[wpAny_While (codeAny_whileLoop (λn J=>∃y T,Inv X d y T J/\W n y T) ?_ F ⟨E,H,I,G⟩)];rintro n M ⟨l,U,Q,S⟩;erw[V6 R (thn (B d M l U _ Q (w n l U S)) λb o i=>?_)];have⟨Y,Z,m⟩:=i;cases b with
 |true=>
  have⟨N,A,m⟩:=m;rw[if_pos rfl];erw[V6 R (thn (C d o l Y _ Z m) λf x g=>?_)];cases f with
  |next=>
   have⟨j,z,q,r⟩:=g;have⟨p,e,L⟩:=A j z r;erw[⟨p,e,j,z,q,L⟩]
  |cont=>
   have⟨j,z,q,r⟩:=g;have⟨p,e,L⟩:=A j z r;erw[⟨p,e,j,z,q,L⟩]
  |brk=>erw[g]
  |ret v=>erw[g]
 |false=>
  rw[if_neg XD];erw[wpAny_execs_nil ⟨l,Y,Z,m⟩]
end
structure It where
 go:Nat->Hp->Prop
 yld:Nat->Hp->V->Hp->Prop
 stop:Nat->Hp->Prop
noncomputable def FpOk(X:Cx)(j:List (Addr×Obj))(H:Hp)(b:Addr):Prop:=
 H b=we/\b≠X.env.locals/\b∉X.fs/\(b∈X.ex\/X.s₀.heap.objs.size<=b)/\(∀x c,X.env.cells.lookup x=wc c->c≠b)/\∀p∈X.pn++j,p.1≠b
def Inv.fpOk(I:Inv X pq σ H s)(j:s.heap.objs.size<=b)(l:H' b=we):FpOk X pq H' b:=by
 erw[⟨l,Bc (YA I.lt j),I.nofs j,.inr (Xv I.sz j),λx c e z=>?_,λp u z=>?_⟩]
 .have⟨v,q⟩:=I.cell x c e;erw[absurd (YA q.lt (by rw[z];erw[j])) (Ze _)]
 .erw[absurd (YA (Xw (I.pin p u).1) (by rw[z];erw[j])) (Ze _)]
structure Turn (P:Xr)(w:Xl)(K:X4)(tg:Expr)(J:It)(fp:List Addr)(it:Addr)(tn:Nat->Heap->Prop):Prop where
 mem:it∈fp
 obj:∀i h,tn i h->∀b∈fp,∃o,h.get? b=wc o/\∀v,o.data≠.cell v
 keep:∀i h h',tn i h->(∀b∈fp,∀o,h.get? b=wc o->h'.get? b=wc o)->tn i h'
 item:∀(X:Cx),X.prog=P->X.w=w->X.K=K->X.calm=wf->∀(i:Nat)(pq:List (Addr×Obj))(s:X2)(σ:St)(H:Hp)(E:X0->X2->Prop),Inv X pq σ H s->(∀b∈fp,FpOk X pq H b)->tn i s.heap->J.go i H->
  X3 (X8 P w) X.A (Z1 (.ref it)) (λr s1=>∃u,r=wc u/\
   X3 (X8 P w) X.A (AD tg (.ref it) u) (λ_ s2=>∃x H',Inv X pq σ H' s2/\RelV x u/\J.yld i H x H'/\tn (i+1) s2.heap/\∀b∈fp,H' b=we) E s1) E s
 done:∀(X:Cx),X.prog=P->X.w=w->X.K=K->X.calm=wf->∀(i:Nat)(pq:List (Addr×Obj))(s:X2)(σ:St)(H:Hp)(E:X0->X2->Prop),Inv X pq σ H s->(∀b∈fp,FpOk X pq H b)->tn i s.heap->J.stop i H->
  X3 (X8 P w) X.A (Z1 (.ref it)) (λr s1=>r=we/\Inv X pq σ H s1) E s
 self:∀(A:Xz)(i:Nat)(s:X2)(Q:X0->X2->Prop)(E:X0->X2->Prop),tn i s.heap->Q (.ref it) s->X3 (X8 P w) A (pyIter (.ref it)) Q E s
abbrev TI:=St->Hp->(It->Hp->Prop)->Prop
def PIE(X:Cx)(u:List (Addr×Obj))(g:St)(d:Expr)(R:It->Hp->Prop)(j:X0)(w:X2):Prop:=
 ∃(y:Addr) (z:List Addr) (m:Nat->Heap->Prop) (J:It) (l:Hp),j=.ref y/\Inv X u g l w/\Turn X.prog X.w X.K d J z y m/\m 0 w.heap/\(∀b∈z,FpOk X u l b)/\R J l
def PI(X:Cx)(w j:Expr)(y:TI):Prop:=
 ∀(u:List (Addr×Obj))(s:X2)(l:St)(H:Hp)(R:It->Hp->Prop),Inv X u l H s->y l H R->
  X3 (X8 X.prog X.w) X.A (eval j X.env) (λv z=>X3 (X8 X.prog X.w) X.A (pyIter v) (PIE X u l w R) X.xe z) X.xe s
def W0(l:s.heap.get? it=wc o)(w:o.cls=.type n)(hd:o.data=.fields vs)
  (y:["enumerate","zip","dict_itemiterator","dict_reverseitemiterator","odict_iterator","itertools.zip_longest","itertools.pairwise"].contains n=wg)(j:Q () s):X3 M A (AD tg (.ref it) u) Q E s:=by
 unfold AD;cases tg<;>first
  |erw[Xa j]
  |(cases u<;>first
    |erw[Xa j]
    |(erw[X1 (wpAny_load l ?_)]
      rw[w,hd];show X3 M A (if(["enumerate","zip","dict_itemiterator","dict_reverseitemiterator","odict_iterator","itertools.zip_longest","itertools.pairwise"].contains n&&vs[0]?==wc (Y8 _))=wf then _ else _) Q E s;rw[if_neg (by intro h;rw[y,WI]at h;cases h)]
      erw[Xa j]))
def Itl(K:X4)(a:Addr):It:=
 ⟨λi H=>∃j x,SqL K H a j/\j[i]?=wc x,λi H x l=>l=H/\∀j,SqL K H a j->j[i]?=wc x,λi H=>∃j,SqL K H a j/\j.length<=i⟩
def Itt(K:X4)(a:Addr):It:=
 ⟨λi H=>∃j x,SqT K H a j/\j[i]?=wc x,λi H x l=>l=H/\∀j,SqT K H a j->j[i]?=wc x,λi H=>∃j,SqT K H a j/\j.length<=i⟩
noncomputable def Itr(lo:Int)(n:Nat):It:=⟨λi _=>i<n,λi H x j=>j=H/\x=.int (lo+i),λi _=>n<=i⟩
def RA{K:X4}(a j:Addr):Turn P w K tg (Itl K a) [j] j (λi h=>h.IsListIter j a i)where
 mem:=by simp
 obj:=λi h st b l=>by
  have e:b=j:=by simpa using l
  subst e;have⟨o,e,c,d⟩:=st;erw[⟨o,e,λv z=>by rw[d]at z;cases z⟩]
 keep:=λi h m st k=>st.at λo e=>k j (by simp) o e
 item:=by
  intro X q r L A i B s C H E I g st N;subst q r L;have⟨D,x,f,O⟩:=N;have⟨R,T,p,F⟩:=I.list f;have⟨u,G,J⟩:=T.get O;have⟨f0,U,M,W,Y,Z⟩:=g j (by simp)
  erw[wpAny_pyNext_list_item st p.isList (x:=u) (by simpa using G) λm y Q=>?_]
  have S:Inv X B C H {s with heap:=m}:=I.turned (g:=s.toks) (λb o l e=>(Q.2 b l).trans e) f0 U W Y Z;have⟨o,e,c,d⟩:=id y;erw[⟨u,rfl,W0 (s:={s with heap:=m}) e c d (by decide) ⟨x,H,S,J,⟨rfl,λys n=>by rw[I.list_inj n f];erw[O]⟩,y,λb l=>(g b l).1⟩⟩]
 done:=by
  intro X q r L A i B s C H E I g st N;subst q r L;have⟨D,f,O⟩:=N;have⟨R,T,p,F⟩:=I.list f;have⟨f0,U,M,W,Y,Z⟩:=g j (by simp)
  have hl:=T.length;erw[wpAny_pyNext_list_end (I.ok.hd A) st p.isList (by simp;lia) λm eb=>⟨rfl,I.turned (g:=s.toks) (λb o l e=>eb b o l e) f0 U W Y Z⟩]
 self:=λ_ _ _ _ _ st h=>wpAny_pyIter_listiter st h
def RB{K:X4}(a j:Addr):Turn P w K tg (Itt K a) [j] j (λi h=>h.IsTupleIter j a i)where
 mem:=by simp
 obj:=λi h st b l=>by
  have e:b=j:=by simpa using l
  subst e;have⟨o,e,c,d⟩:=st;erw[⟨o,e,λv z=>by rw[d]at z;cases z⟩]
 keep:=λi h g st k=>st.at λo e=>k j (by simp) o e
 item:=by
  intro X r L N A i B s C H E I f st O;subst r L N;have⟨D,x,q,R⟩:=O;have⟨y,T,p,F⟩:=I.tuple q;have⟨u,G,J⟩:=T.get R;have⟨f0,U,M,W,Y,Z⟩:=f j (by simp)
  erw[wpAny_pyNext_tuple_item st (show s.heap.IsTuple a y.toArray from p) (x:=u) (by simpa using G) λg m Q=>?_]
  have S:Inv X B C H {s with heap:=g}:=I.turned (g:=s.toks) (λb o l e=>(Q.2 b l).trans e) f0 U W Y Z;have⟨o,e,c,d⟩:=id m;erw[⟨u,rfl,W0 (s:={s with heap:=g}) e c d (by decide) ⟨x,H,S,J,⟨rfl,λys n=>by rw[I.tuple_inj n q];erw[R]⟩,m,λb l=>(f b l).1⟩⟩]
 done:=by
  intro X r L N A i B s C H E I f st O;subst r L N;have⟨D,q,R⟩:=O;have⟨y,T,p,F⟩:=I.tuple q;have⟨f0,U,M,W,Y,Z⟩:=f j (by simp)
  have hl:=T.length;erw[wpAny_pyNext_tuple_end (I.ok.hd A) st (show s.heap.IsTuple a y.toArray from p) (by simp;lia) λg eb=>⟨rfl,I.turned (g:=s.toks) (λb o l e=>eb b o l e) f0 U W Y Z⟩]
 self:=λ_ _ _ _ _ st h=>wpAny_pyIter_tupleiter st h
def RC{K:X4}(j:Addr)(lo:Int)(n:Nat):Turn P w K tg (Itr lo n) [j] j (λi h=>IsRangeIter h j (lo+(i:Nat)*1) ((n:Int) - (i:Nat)) 1)where
 mem:=by simp
 obj:=λi h st b l=>by
  have e:b=j:=by simpa using l
  subst e;erw[⟨_,st,λv z=>by
   have U:Data.fields _=Data.cell v:=z;cases U⟩]
 keep:=λi h y st k=>k j (by simp) _ st
 item:=by
  intro X g d c f i O s R H E I m st q;subst g d c;have⟨f0,r,Y,p,L,N⟩:=m j (by simp)
  have W:=Walks.range (prog:=X.prog) (w:=X.w) (I.ok.hd f) j lo 1 n;erw[W.item i s _ _ q st λv y T Z u A=>?_];have⟨t,rfl⟩:=Z;have B:Inv X O R H {s with heap:=y,toks:=T}:=I.turned (λb o l e=>A b o (by simpa using l) e) f0 r p L N
  erw[⟨_,rfl,W0 (s:={s with heap:=y,toks:=T}) (n:="range_iterator") u rfl rfl (by decide) ⟨.int (lo+i),H,B,⟨t,?_⟩,⟨rfl,rfl⟩,u,fun b l=>(m b l).1⟩⟩]
  rw[Int.mul_one]
 done:=by
  intro X g d c f i O s R H E I m st q;subst g d c;have⟨f0,r,Y,p,L,N⟩:=m j (by simp)
  erw[wpAny_pyNext_range_end (I.ok.hd f) st (by have:n<=i:=q;lia) λy C=>⟨rfl,I.turned (g:=s.toks) (λb o l e=>C b o l e) f0 r p L N⟩]
 self:=λ_ _ _ _ _ st h=>wpAny_pyIter_rangeiter st h
section
variable{X:Cx}{tg:Expr}
def RD{lo:Int}{t:Tok}(I:Inv X pq σ H s)(l:-(2^62)<=lo)(w:lo<2^62)(y:-(2^62)<=hi)(z:hi<2^62)
  (q:R (Itr lo (hi - lo).toNat) H):X3 (X8 X.prog X.w) X.A (pyIter (.ref s.heap.objs.size)) (PIE X pq σ tg R) E {s with heap:=s.heap.push {cls:=.type "range",data:=.fields #[.int lo t,.int hi u,.int 1 v]},toks:=tk}:=by
 erw[wpAny_pyIter_range (IsRange.new ..) (small_one l w y z) ?_];have j:Inv X pq σ H {s with heap:=s.heap.push {cls:=.type "range",data:=.fields #[.int lo t,.int hi u,.int 1 v]},toks:=tk}:=I.kept fun b o e=>Xu _ e;erw[⟨(s.heap.push {cls:=.type "range",data:=.fields #[.int lo t,.int hi u,.int 1 v]}).objs.size,[(s.heap.push {cls:=.type "range",data:=.fields #[.int lo t,.int hi u,.int 1 v]}).objs.size],_,_,H,rfl,
  j.kept (t':=tk) λb o e=>Xu _ e,RC _ lo (hi - lo).toNat,?_,λb m=>?_,q⟩]
 .have g:lo+((0:Nat):Int)*1=lo:=by simp
  have d:(((hi - lo).toNat:Nat):Int) - ((0:Nat):Int)=Gj lo hi 1:=by rw[rangeSize_one];split<;>lia
  show IsRangeIter _ _ (lo+((0:Nat):Int)*1) ((((hi - lo).toNat:Nat):Int) - ((0:Nat):Int)) 1;rw[g,d];erw[XO _ rfl]
 .have e:b=(s.heap.push {cls:=.type "range",data:=.fields #[.int lo t,.int hi u,.int 1 v]}).objs.size:=by simpa using m
  subst e;erw[j.fpOk (X9 _) (j.hok.fresh (X9 _))]
def RE(l:TA):TI:=λu H R=>l u H λw y=>∃j:Int,w=[.int j]/\ -(2^62)<=j/\j<2^62/\R (Itr 0 j.toNat) y
def RF{a:Expr}{w:TA}{p l:Pos}(y:Gl X "range")(z:X.mg "range"=we)(m:PA X [a] w)(g:Xx [a] X.env=[(wg,eval a X.env)]:=by rfl):PI X tg (.Call (.Name "range" p) [a] [] l) (RE w):=by
 intro d s c H R I h;erw[Call_ (Us I y z boot_range (WK (thn (m l d s c H _ I h) λT U f=>?_) g rfl))];have⟨W,Y,L,N,u⟩:=f;have⟨j,e,u,O,q⟩:=u;subst e;cases N with
 |cons r P=>
  cases P;have⟨t,rfl⟩:=r;erw[call_range_1 (RD L (by lia) (by lia) u O (by simpa using q))]
def tFor(z:TI)(g:TG)(d:TS):TS:=λD j H=>z j H λJ c=>∃W:Nat->Nat->St->Hp->Prop,(∃m,W 0 m j c)/\∀i m j H,W i m j H->
 (J.stop i H/\D.nx j H)\/(J.go i H/\∃N:St->Hp->Prop,(∀l u,N l u->∃y,y<m/\W (i+1) y l u)/\∀x u,J.yld i H x u->g x j u λw f=>d {D with nx:=N,ct:=N,bk:=D.nx} w f)
noncomputable def W3(j:List Addr)(h:Heap):List (Addr×Obj):=j.filterMap λb=>(h.get? b).map λo=>(b,o)
def BE(j:b∈fp)(e:h.get? b=wc o):(b,o)∈W3 fp h:=List.mem_filterMap.mpr ⟨b,j,by rw[e];rfl⟩
def RG(j:p∈W3 fp h):p.1∈fp/\h.get? p.1=wc p.2:=by
 have⟨b,l,e⟩:=List.mem_filterMap.mp j;cases q:h.get? b with
 |none=>rw[q]at e;cases e
 |some o=>
  rw[q]at e;have u:(b,o)=p:=Y4 e;subst u;erw[⟨l,q⟩]
def Inv.pinned(I:Inv X pq σ H s)(u:∀b∈fp,FpOk X pq H b)(w:∀b∈fp,∃o,s.heap.get? b=wc o/\∀v,o.data≠.cell v):Inv X (pq++W3 fp s.heap) σ H s:=
 I.pins_of λp y=>(Yo.mp y).elim (λz=>I.pin p (ZB _ z)) λz=>by
  have⟨j,e⟩:=RG z;have⟨f0,m,g,_⟩:=u p.1 j;have⟨o,l,d⟩:=w p.1 j;rw[e]at l;cases l;erw[⟨e,f0,m,g,d⟩]
def Inv.unpinned(I:Inv X (pq++pl) σ H s):Inv X pq σ H s:=I.pins_of λp j=>I.pin p (ZB _ (AO _ j))
def RI{l:Expr}{O:List Stmt}{wi:TI}{g:TG}{tb:TS}{M:Pos}(Z:PassesOwn (X8 X.prog X.w) X.A X.env X.xe)(hc:X.calm=wf)(hi:PI X tg l wi)(hg:PG X tg g)(w:PSs X O tb)
  (hs:∀x,AE l X.env x=pure x:=by intro _;rfl):PS X (.For tg l O [] M) (tFor wi g tb):=by
 intro R s σ H D I h;erw[wpAny_For (thn (hi R s σ H _ I h) λv s1 h1=>thn h1 λitv s2 h2=>?_) hs];have⟨it,A,tn,J,H2,e,I2,T,Q,f2,W,⟨m0,w0⟩,B⟩:=h2;subst e;have y:∀{L:Hp},(∀b∈A,L b=we)->∀b∈A,FpOk X R L b:=λhn b w=>⟨hn b w,(f2 b w).2⟩;erw[codeAny_forLoop_any (λn s'=>∃i z L,Inv X R z L s'/\tn i s'.heap/\(∀b∈A,L b=we)/\W i n z L) ?_ m0 ⟨0,σ,H2,I2,Q,λb w=>(f2 b w).1,w0⟩];rintro n s3 ⟨i,c,G,I3,st3,C,w3⟩;rcases B i n c G w3 with⟨E,qn⟩|⟨go,N,hN,step⟩
 .erw[V6 Z (thn (T.done X rfl rfl rfl hc i R s3 c G X.xe I3 (y C) st3 E) λr s4 U=>?_)];have⟨S,I4⟩:=U;subst S;erw[wpAny_execs_nil ⟨c,G,I4,qn⟩]
 .erw[V6 Z (thn (T.item X rfl rfl rfl hc i R s3 c G X.xe I3 (y C) st3 go) λr s4 U=>?_)];have⟨u,S,h4⟩:=U;subst S;erw[V6 Z (thn h4 λ_ s5 U=>?_)];have⟨x,H5,I5,r5,y5,Y,a⟩:=U;have I5':=I5.pinned (y a) (T.obj _ _ Y);erw[V6 Z (thn (hg _ s5 c H5 x u _ I5' r5 (step x H5 y5)) λ_ s6 U=>?_)];have⟨σ6,H6,I6,q6⟩:=U;erw[V6 Z (thn (w _ s6 σ6 H6 _ I6 q6) λf s7 P=>?_)];have again:∀{j:St} {q:Hp},Inv X (R++W3 A s5.heap) j q s7->N j q->∃m,m<n/\∃i z L,Inv X R z L s7/\tn i s7.heap/\(∀b∈A,L b=we)/\W i m z L:=fun{j q} p F=>by
   have⟨m',hm,w7⟩:=hN j q F;erw[⟨m',hm,i+1,j,q,p.unpinned,T.keep _ _ _ Y λb w o e=>(p.pin (b,o) (ZB _ (ZB _ (BE w e)))).1,λb w=>?_,w7⟩];have⟨o,e,d⟩:=T.obj _ _ Y b w;erw[(p.pin (b,o) (ZB _ (ZB _ (BE w e)))).2.1]
  cases f with
  |next=>have⟨j,q,p,F⟩:=P;erw[again p F]
  |cont=>have⟨j,q,p,F⟩:=P;erw[again p F]
  |brk=>have⟨j,q,p,P⟩:=P;erw[⟨j,q,p.unpinned,P⟩]
  |ret v=>have⟨x7,j,q,p,r7,P⟩:=P;erw[⟨x7,j,q,p.unpinned,r7,P⟩]
end
abbrev R2:=V->V->Hp->VK->Prop
def OpR(X:Cx)(f:X0->X0->Sem X0)(r:R2):Prop:=
 ∀(j:List (Addr×Obj))(s:X2)(l:St)(H:Hp)(x y:V)(v u:X0)(Q:VK),Inv X j l H s->RelV x v->RelV y u->r x y H Q->
  X3 (X8 X.prog X.w) X.A (f v u) (EP X j l Q) X.xe s
def UnR(X:Cx)(f:X0->Sem X0)(r:V->Hp->VK->Prop):Prop:=
 ∀(j:List (Addr×Obj))(s:X2)(l:St)(H:Hp)(x:V)(v:X0)(Q:VK),Inv X j l H s->RelV x v->r x H Q->
  X3 (X8 X.prog X.w) X.A (f v) (EP X j l Q) X.xe s
def YM(X:Cx)(f:X0)(r:List V->Hp->VK->Prop):Prop:=
 ∀(j:List (Addr×Obj))(s:X2)(l:St)(H:Hp)(u:List V)(w:List X0)(Q:VK),Inv X j l H s->Vals u w->r u H Q->
  X3 (X8 X.prog X.w) X.A (call f w) (EP X j l Q) X.xe s
noncomputable def tOp(r:R2)(l u:TE):TE:=λj H Q=>l j H λx w=>u j w λy z=>r x y z Q
noncomputable def tUn(r:V->Hp->VK->Prop)(j:TE):TE:=λl H Q=>j l H λx u=>r x u Q
noncomputable def rI(C:Int->Int->Prop)(g:Int->Int->V):R2:=λx y H Q=>∃i j,x=.int i/\y=.int j/\C i j/\Q (g i j) H
noncomputable def rI0(g:Int->Int->V):R2:=λx y H Q=>∃i j,x=.int i/\y=.int j/\Q (g i j) H
noncomputable def rU(g:Int->V):V->Hp->VK->Prop:=λx H Q=>∃i,x=.int i/\Q (g i) H
section
variable{X:Cx}{a b c:Expr}{ta tb tc:TE}{pos:Pos}
def binT(r:PE X a ta)(p:PE X b tb){m:List (Addr×Obj)}{s:X2}{j:St}{H:Hp}{R:V->V->Hp->Prop}(I:Inv X m j H s)
  (h:ta j H λx d=>tb j d λy l=>R x y l){Q:X0->X2->Prop} {f:X0->X0->Sem X0}
  (e:∀v u g x y l,Inv X m j l g->RelV x v->RelV y u->R x y l->X3 (X8 X.prog X.w) X.A (f v u) Q X.xe g):
  X3 (X8 X.prog X.w) X.A (eval a X.env) (λv w=>X3 (X8 X.prog X.w) X.A (eval b X.env) (λu z=>X3 (X8 X.prog X.w) X.A (f v u) Q X.xe z) X.xe w) X.xe s:=by
 erw[thn (r m s j H _ I h) λv L q=>?_];have⟨x,d,N,O,P⟩:=q;erw[thn (p m L j d _ N P) λu g q=>?_];have⟨y,l,T,U,W⟩:=q;erw[e v u g x y l T O U W]
def RJ{j:UH}{r:R2}(l:OpR X (Yq j) r)(w:PE X a ta)(z:PE X b tb):PE X (.BinOp a j b pos) (tOp r ta tb):=by
 intro m s g H Q I h;erw[wpAny_BinOp (binT w z I h λv u d x y f p e L q=>l m d g f x y v u Q p e L q)]
def RK{j:UnaryOp}{r:V->Hp->VK->Prop}(w:UnR X (unaryOp j) r)(y:PE X a ta):PE X (.UnaryOp j a pos) (tUn r ta):=by
 intro l s u H Q I h;erw[UnaryOp_ (thn (y l s u H _ I h) λv z ⟨x,m,g,d,f⟩=>w l z u m x v Q g d f)]
def opI{f:X0->X0->Sem X0}{C:Int->Int->Prop}{g:Int->Int->Int}
  (rule:∀(i j:Int)(t u:Tok)(s:X2)(Q:X0->X2->Prop)(E:X0->X2->Prop),C i j->Q (.int (g i j) s.toks) {s with toks:=s.toks+1}->X3 (X8 X.prog X.w) X.A (f (.int i t) (.int j u)) Q E s):
  OpR X f (rI C λi j=>.int (g i j)):=by
 intro d s r H x y v u Q I l w h;have⟨i,j,rfl,rfl,z,q⟩:=h;have⟨t,rfl⟩:=l;have⟨m,rfl⟩:=w;erw[rule i j t m s _ _ z ⟨.int (g i j),H,I.tok _,⟨_,rfl⟩,q⟩]
def opI0{f:X0->X0->Sem X0}{g:Int->Int->Int}
  (rule:∀(i j:Int)(t u:Tok)(s:X2)(Q:X0->X2->Prop)(E:X0->X2->Prop),Q (.int (g i j) s.toks) {s with toks:=s.toks+1}->X3 (X8 X.prog X.w) X.A (f (.int i t) (.int j u)) Q E s):
  OpR X f (rI0 λi j=>.int (g i j)):=by
 intro m s d H x y v u Q I l w h;have⟨i,j,rfl,rfl,q⟩:=h;have⟨t,rfl⟩:=l;have⟨z,rfl⟩:=w;erw[rule i j t z s _ _ ⟨.int (g i j),H,I.tok _,⟨_,rfl⟩,q⟩]
def opB0{f:X0->X0->Sem X0}{g:Int->Int->Bool}
  (rule:∀(i j:Int)(t u:Tok)(s:X2)(Q:X0->X2->Prop)(E:X0->X2->Prop),Q (.bool (g i j)) s->X3 (X8 X.prog X.w) X.A (f (.int i t) (.int j u)) Q E s):
  OpR X f (rI0 λi j=>.bl (g i j)):=by
 intro m s d H x y v u Q I l w h;have⟨i,j,rfl,rfl,q⟩:=h;have⟨t,rfl⟩:=l;have⟨z,rfl⟩:=w;erw[rule i j t z s _ _ ⟨.bl (g i j),H,I,rfl,q⟩]
noncomputable def CPow(i j:Int):Prop:=0<=j/\j<=1000000/\i.natAbs<2^64
noncomputable def CMul(i j:Int):Prop:=(-(2^64)<i/\i<2^64)\/(-(2^64)<j/\j<2^64)
def CMul.ok(h:CMul i j):IntMulOk i j:=by
 rcases h with⟨l,u⟩|⟨l,u⟩
 .erw[.of_left (intBits_le_64 l u)]
 .erw[.of_right (intBits_le_64 l u)]
def RL:OpR X (Yq .Add) (rI0 λi j=>.int (i+j)):=opI0 λ_ _ _ _ _ _ _ q=>add_int q
def RN:OpR X (Yq .Sub) (rI0 λi j=>.int (i - j)):=opI0 λ_ _ _ _ _ _ _ q=>sub_int q
def RP:OpR X (Yq .Mult) (rI CMul λi j=>.int (i*j)):=opI λ_ _ _ _ _ _ _ l q=>mul_int q l.ok
def RQ:OpR X (Yq .Mod) (rI (λ_ j=>0<j) λi j=>.int (i%j)):=opI λi j _ _ _ _ _ l q=>by
 have u:(0:Int)<j:=l;erw[mod_int' (by lia) (by rw[Int.fmod_eq_emod_of_nonneg i (by lia)];erw[q])]
def RT:OpR X (Yq .Pow) (rI CPow λi j=>.int (i^j.toNat)):=opI λ_ _ _ _ _ _ _ l q=>pow_int_small l.1 l.2.1 l.2.2 q
def RU:OpR X (Yq .BitAnd) (rI0 λi j=>.int (By i j)):=opI0 λ_ _ _ _ _ _ _ q=>and_int q
def RV:OpR X (Yq .BitXor) (rI0 λi j=>.int (Bz i j)):=opI0 λ_ _ _ _ _ _ _ q=>xor_int q
def unI{f:X0->Sem X0}{g:Int->Int}
  (rule:∀(i:Int)(t:Tok)(s:X2)(Q:X0->X2->Prop)(E:X0->X2->Prop),Q (.int (g i) s.toks) {s with toks:=s.toks+1}->X3 (X8 X.prog X.w) X.A (f (.int i t)) Q E s):
  UnR X f (rU λi=>.int (g i)):=by
 intro l s u H x v Q I j h;have⟨i,rfl,q⟩:=h;have⟨t,rfl⟩:=j;erw[rule i t s _ _ ⟨.int (g i),H,I.tok _,⟨_,rfl⟩,q⟩]
def RW:UnR X (unaryOp .USub) (rU λi=>.int (-i)):=unI λ_ _ _ _ _ q=>neg_int q
end
noncomputable def scal:V->V->Bool
 |.non,.non=>wf|.non,.int _=>wf|.int _,.non=>wf|.non,.bl _=>wf|.bl _,.non=>wf|.non,.str _=>wf|.str _,.non=>wf
 |.int _,.int _=>wf|.bl _,.bl _=>wf|.str _,.str _=>wf|.byt _,.byt _=>wf
 |.int _,.str _=>wf|.str _,.int _=>wf|.bl _,.str _=>wf|.str _,.bl _=>wf
 |_,_=>wg
def rEq:R2:=λx y H Q=>scal x y=wf/\Q (.bl (decide (x=y))) H
def rNe:R2:=λx y H Q=>scal x y=wf/\Q (.bl (!decide (x=y))) H
def GF:decide (V.int i=V.int j)=(i==j):=by
 rw[Bg];simp
def GG:decide (V.bl i=V.bl j)=(i==j):=by
 rw[Bg];simp
def GH:decide (V.str i=V.str j)=(i==j):=by
 rw[Bg];simp
def GJ:decide (V.byt i=V.byt j)=(i.toList==j.toList):=by
 rw[Bg];cases i;cases j;simp
section
variable{X:Cx}{a b c:Expr}{ta tb tc:TE}{pos:Pos}
def XH{k:Bool}(I:Inv X pq σ H s)(q:Q (.bl k) H)(e:k=k'):EP X pq σ Q (.bool k') s:=by
 subst e;erw[⟨.bl k,H,I,rfl,q⟩]
def RX:OpR X (Y6 .Eq) rEq:=by
 intro g s d H x y v u Q I m l h;have⟨z,q⟩:=h;cases x with
 |non=>
  cases m;cases y with
  |non=>cases l;erw[PySem.EqNone.eq_none_none (XH I q (by simp))]
  |bl j=>cases l;erw[PySem.EqNone.eq_none_bool (XH I q (by simp))]
  |int j=>have⟨w,rfl⟩:=l;erw[PySem.EqNone.eq_none_int (XH I q (by simp))]
  |str j=>have⟨w,rfl⟩:=l;erw[PySem.EqNone.eq_none_str (XH I q (by simp))]
  |_=>erw[absurd (show wg=wf from z) XD]
 |bl i=>
  cases m;cases y with
  |non=>cases l;erw[PySem.EqNone.eq_bool_none (XH I q (by simp))]
  |bl j=>cases l;erw[eq_bool (XH I q GG)]
  |str j=>have⟨w,rfl⟩:=l;erw[PySem.EqMixed.eq_bool_str (XH I q (by simp))]
  |_=>erw[absurd (show wg=wf from z) XD]
 |int i=>
  have⟨t,rfl⟩:=m;cases y with
  |non=>cases l;erw[PySem.EqNone.eq_int_none (XH I q (by simp))]
  |int j=>have⟨w,rfl⟩:=l;erw[eq_int (XH I q GF)]
  |str j=>have⟨w,rfl⟩:=l;erw[PySem.EqMixed.eq_int_str (XH I q (by simp))]
  |_=>erw[absurd (show wg=wf from z) XD]
 |str i=>
  have⟨t,rfl⟩:=m;cases y with
  |non=>cases l;erw[PySem.EqNone.eq_str_none (XH I q (by simp))]
  |bl j=>cases l;erw[PySem.EqMixed.eq_str_bool (XH I q (by simp))]
  |int j=>have⟨w,rfl⟩:=l;erw[PySem.EqMixed.eq_str_int (XH I q (by simp))]
  |str j=>have⟨w,rfl⟩:=l;erw[eq_str (XH I q GH)]
  |_=>erw[absurd (show wg=wf from z) XD]
 |byt i=>
  have⟨t,rfl⟩:=m;cases y with
  |byt j=>have⟨w,rfl⟩:=l;erw[PySem.W.eq_bytes (XH I q GJ)]
  |_=>erw[absurd (show wg=wf from z) XD]
 |_=>cases y<;>erw[absurd (show wg=wf from z) XD]
def RY:OpR X (Y6 .NotEq) rNe:=by
 intro g s d H x y v u Q I m l h;have⟨z,q⟩:=h;cases x with
 |non=>
  cases m;cases y with
  |non=>cases l;erw[PySem.EqNone.ne_none_none (XH I q (by simp))]
  |bl j=>cases l;erw[PySem.EqNone.ne_none_bool (XH I q (by simp))]
  |int j=>have⟨w,rfl⟩:=l;erw[PySem.EqNone.ne_none_int (XH I q (by simp))]
  |str j=>have⟨w,rfl⟩:=l;erw[PySem.EqNone.ne_none_str (XH I q (by simp))]
  |_=>erw[absurd (show wg=wf from z) XD]
 |bl i=>
  cases m;cases y with
  |non=>cases l;erw[PySem.EqNone.ne_bool_none (XH I q (by simp))]
  |bl j=>cases l;erw[ne_bool (XH I q (congrArg not GG))]
  |str j=>have⟨w,rfl⟩:=l;erw[PySem.EqMixed.ne_bool_str (XH I q (by simp))]
  |_=>erw[absurd (show wg=wf from z) XD]
 |int i=>
  have⟨t,rfl⟩:=m;cases y with
  |non=>cases l;erw[PySem.EqNone.ne_int_none (XH I q (by simp))]
  |int j=>have⟨w,rfl⟩:=l;erw[ne_int (XH I q (congrArg not GF))]
  |str j=>have⟨w,rfl⟩:=l;erw[PySem.EqMixed.ne_int_str (XH I q (by simp))]
  |_=>erw[absurd (show wg=wf from z) XD]
 |str i=>
  have⟨t,rfl⟩:=m;cases y with
  |non=>cases l;erw[PySem.EqNone.ne_str_none (XH I q (by simp))]
  |bl j=>cases l;erw[PySem.EqMixed.ne_str_bool (XH I q (by simp))]
  |int j=>have⟨w,rfl⟩:=l;erw[PySem.EqMixed.ne_str_int (XH I q (by simp))]
  |str j=>have⟨w,rfl⟩:=l;erw[ne_str (XH I q (congrArg not GH))]
  |_=>erw[absurd (show wg=wf from z) XD]
 |byt i=>
  have⟨t,rfl⟩:=m;cases y with
  |byt j=>have⟨w,rfl⟩:=l;erw[PySem.W.ne_bytes (XH I q (congrArg not GJ))]
  |_=>erw[absurd (show wg=wf from z) XD]
 |_=>cases y<;>erw[absurd (show wg=wf from z) XD]
def RZ:OpR X (Y6 .Lt) (rI0 λi j=>.bl (decide (i<j))):=opB0 λ_ _ _ _ _ _ _ q=>lt_int q
def S0:OpR X (Y6 .LtE) (rI0 λi j=>.bl (decide (i<=j))):=opB0 λ_ _ _ _ _ _ _ q=>le_int q
def S1:OpR X (Y6 .Gt) (rI0 λi j=>.bl (decide (j<i))):=opB0 λ_ _ _ _ _ _ _ q=>gt_int q
def S3:OpR X (Y6 .GtE) (rI0 λi j=>.bl (decide (j<=i))):=opB0 λ_ _ _ _ _ _ _ q=>ge_int q
def S4:OpR X (Y6 .Is) (λx y H Q=>y=.non/\Q (.bl (decide (x=.non))) H):=by
 intro w s z H x y v u Q I j l h;have⟨rfl,q⟩:=h;cases l;erw[is_none_gen (XH I q ?_)];cases x<;>first
  |(cases j;rfl)
  |(have⟨t,rfl⟩:=j;rfl)
def S5:OpR X (Y6 .IsNot) (λx y H Q=>y=.non/\Q (.bl (!decide (x=.non))) H):=by
 intro w s z H x y v u Q I j l h;have⟨rfl,q⟩:=h;cases l;erw[isnot_none_gen (XH I q ?_)];cases x<;>first
  |(cases j;rfl)
  |(have⟨t,rfl⟩:=j;rfl)
def S6{j:CmpOp}{r:R2}(l:OpR X (Y6 j) r)(w:PE X a ta)(z:PE X b tb)(m:behindInMarks j b=wg):PE X (.Compare a [j] [b] pos) (tOp r ta tb):=by
 intro g s d H Q I h;erw[wpAny_Compare1 (binT w z I h λv u f x y p e L N q=>l g f d p x y v u Q e L N q) m]
noncomputable def GK(t:TE):TT:=λj H Q=>t j H λx l=>∃k,x=.bl k/\Q k l
def S7{j:CmpOp}{r:R2}(m:OpR X (Y6 j) r)(g:PE X a ta)(d:PE X b tb)(f:behindInMarks j b=wg):PT X (.Compare a [j] [b] pos) (GK (tOp r ta tb)):=by
 intro l s w H Q I h;erw[wpAny_isTrue_Compare1 (thn (g l s w H _ I h) λv q ⟨x,p,L,N,O⟩=>thn (d l q w p _ L O) λu P ⟨y,R,T,U,W⟩=>
  thn (m l P w R x y v u _ T N U W) λc C ⟨z,Y,Z,A,k,e,B⟩=>?_) f]
 subst e;cases A;erw[Zz ⟨Y,Z,B⟩]
noncomputable def Dr(r u:R2)(ta tb tc:TE):TE:=λj H Q=>ta j H λx w=>tb j w λy m=>r x y m λz l=>∃k,z=.bl k/\
 (if k=wf then tc j l λg d=>u y g d Q else Q (.bl wg) l)
def S8{m j:CmpOp}{r f:R2}(O:OpR X (Y6 m) r)(g:OpR X (Y6 j) f)(P:PE X a ta)(R:PE X b tb)(T:PE X c tc)
  (U:lastMarks [m,j] [b,c]=wg:=by with_unfolding_all rfl):PE X (.Compare a [m,j] [b,c] pos) (Dr r f ta tb tc):=by
 intro l s w H Q I h;erw[Compare_chain (thn (P l s w H _ I h) λv W ⟨x,Y,Z,A,B⟩=>chain_link (thn (R l W w Y _ Z B) λu C ⟨y,D,E,q,F⟩=>
  thn (O l C w D x y v u _ E A q F) λd G ⟨z,p,L,J,k,e,N⟩=>?_)) U]
 subst e;cases J;erw[Zz ?_];cases k with
 |false=>erw[ite_ff ⟨.bl wg,p,L,rfl,N⟩]
 |true=>erw[ite_tt (chain_last (thn (T l G w p _ L N) λM S ⟨o,i,n,r4,q4⟩=>g l S w i y o u M Q n q r4 q4))]
def S9{m j:CmpOp}{r f:R2}(O:OpR X (Y6 m) r)(g:OpR X (Y6 j) f)(P:PE X a ta)(R:PE X b tb)(T:PE X c tc)
  (U:lastMarks [m,j] [b,c]=wg:=by with_unfolding_all rfl):PT X (.Compare a [m,j] [b,c] pos) (GK (Dr r f ta tb tc)):=by
 intro l s w H Q I h;erw[isTrue_chain (thn (P l s w H _ I h) λv W ⟨x,Y,Z,A,B⟩=>test_link (thn (R l W w Y _ Z B) λu C ⟨y,D,E,q,F⟩=>
  thn (O l C w D x y v u _ E A q F) λd G ⟨z,p,L,J,k,e,N⟩=>?_)) U]
 subst e;cases J;erw[Zz ?_];cases k with
 |false=>
  have⟨k',M,S⟩:=N;cases M;erw[ite_ff ⟨p,L,S⟩]
 |true=>
  erw[ite_tt (test_last (thn (T l G w p _ L N) λo i ⟨n,H4,I4,r4,q4⟩=>thn (g l i w H4 y n u o _ I4 q r4 q4) λd' s5 h'=>?_))];have⟨z2,H5,I5,r5,k2,e2,q5⟩:=h';subst e2;cases r5;erw[Zz ⟨H5,I5,q5⟩]
def W4:(sizeLine:Nat)<2^63:=by rw[sizeLine_eq];decide
def Sa:OpR X (Yq .Add) (λx y H Q=>∃i j,x=.str i/\y=.str j/\i.length+j.length<=sizeLine/\Q (.str (i++j)) H):=by
 intro g s d H x y v u Q I l w h;have⟨i,j,rfl,rfl,z,q⟩:=h;have⟨t,rfl⟩:=l;have⟨m,rfl⟩:=w;erw[add_str (λm f=>⟨.str (i++j),H,I.tok _,⟨_,rfl⟩,q⟩) z]
def _N(r:Vals [x] us):∃u,us=[u]/\RelV x u:=by
 cases r with
 |cons j l=>cases l;erw[⟨_,rfl,j⟩]
def WO(r:Vals [x,y] us):∃u j,us=[u,j]/\RelV x u/\RelV y j:=by
 cases r with
 |cons l w=>
  cases w with
  |cons z m=>cases m;erw[⟨_,_,rfl,l,z⟩]
def Sb(w:X.calm=wf):YM X (.builtin "max") (fun l H Q=>∃i j,l=[.int i,.int j]/\Q (.int (if j>i then j else i)) H):=by
 intro y s z H l m Q I r h;have⟨i,j,rfl,q⟩:=h;have⟨u,g,rfl,⟨t,rfl⟩,⟨d,rfl⟩⟩:=WO r;erw[max_two_ints (I.ok.hd w) λf p k=>⟨_,H,I.kept k,?_,q⟩];by_cases hj:j>i
 .rw[if_pos hj,if_pos hj];erw[⟨_,rfl⟩]
 .rw[if_neg hj,if_neg hj];erw[⟨_,rfl⟩]
def Sc(w:X.calm=wf):YM X (.builtin "min") (fun l H Q=>∃i j,l=[.int i,.int j]/\Q (.int (if j<i then j else i)) H):=by
 intro y s z H l m Q I r h;have⟨i,j,rfl,q⟩:=h;have⟨u,g,rfl,⟨t,rfl⟩,⟨d,rfl⟩⟩:=WO r;erw[min_two_ints (I.ok.hd w) λf p k=>⟨_,H,I.kept k,?_,q⟩];by_cases hj:j<i
 .rw[if_pos hj,if_pos hj];erw[⟨_,rfl⟩]
 .rw[if_neg hj,if_neg hj];erw[⟨_,rfl⟩]
def Sd:YM X (.type "int") (fun j H Q=>(∃i,j=[.int i]/\Q (.int i) H)\/∃k,j=[.bl k]/\Q (.int (if k then 1 else 0)) H):=by
 intro w s y H j z Q I r h;rcases h with⟨i,rfl,q⟩|⟨k,rfl,q⟩
 .have⟨u,rfl,t,rfl⟩:=_N r;erw[call_int_int ⟨.int i,H,I,⟨_,rfl⟩,q⟩]
 .have⟨u,rfl,l⟩:=_N r;cases l;erw[call_int_bool ⟨.int (if k then 1 else 0),H,I.tok _,⟨_,rfl⟩,q⟩]
end
structure ObjM (h:Heap)(x dx C:Addr)(mA:Str->Option X0):Prop where
 obj:h.get? x=wc (UL C dx)
 ns:h.Ns1 dx mA
 ne:dx≠x
set_option tactic.hygienic true in
def Se{h:Heap}{l:Addr}{u:Str->Option X0}(n:h.Ns1 l u):∃w,h.get? l=wc w/\∀name,B4 name w=wc (u name):=by
 have⟨o,m,p,g,hd,d,_,c⟩:=n;erw[⟨o,g,λname=>?_⟩];have e:=c name;unfold nsFind findBy at e;rw[<-Array.find?_toList]at e;unfold B4;rw[hd];dsimp only;split
 .rename_i y q
  rw[q]at e;erw[congrArg wc e]
 .rename_i q
  rw[q]at e;have a:m.toList.any (·.refKey)=wg:=by
   rw[List.any_eq_false];intro y f;have⟨z,t,j⟩:=d y (Array.mem_toList_iff.mp f);simp[DictEntry.refKey,j]
  have r:¬m.toList.any (·.refKey)=wf:=by rw[a];erw[XD]
  rw[if_neg r];erw[congrArg wc e]
def ObjM.look(I:ObjM h x dx C mA):∃j,PySem.W.InstAt h x (UL C dx) C (wc j)/\∀name,B4 name j=wc (mA name):=
 let⟨j,ho,hl⟩:=Se I.ns
 ⟨j,⟨I.obj,rfl,rfl,ho⟩,hl⟩
section
variable{prog:Xr}{w:Xl}{A:Xz}{E:X0->X2->Prop}{s:X2}{K:X4}{x dx C f:Addr}{mA:Str->Option X0}{name:Str}{v:X0}
def Sf(X:K.In s.heap)(I:ObjM s.heap x dx C mA)(l:B3 K C name=wf)(u:D7 K C=wf)
  (y:Y3 K (.ref C) name=wc we)(z:mA name=wc v)(j:PySem.W.handedIn v=wf)(h:Q v {s with toks:=s.toks+1}):
  X3 (X8 prog w) A (getAttr (.ref x) name expr) Q E s:=by
 have⟨g,J,m⟩:=I.look;erw[PySem.W.get_value X J (D4 l).1 (PySem.W.findObj_own u y rfl (by rw[m,z])) j h]
def Sg(X:K.In s.heap)(I:ObjM s.heap x dx C mA)(j:B3 K C name=wf)
  (l:Y3 K (.ref C) name=wc (wc (.ref f)))(u:B8 K (.ref f)=wf)(y:mA name=we)(h:Q (.ref f,[.ref x]) s):
  X3 (X8 prog w) A (getMethod (.ref x) name pl) Q E s:=by
 have⟨z,J,m⟩:=I.look;erw[PySem.W.method_fn X J (D4 j).1 (D4 j).2 l (beq_iff_eq.mp u) (by show(B4 name z).map (·.isSome)=wc wg;rw[m,y];rfl) h]
def Sh(X:K.In s.heap)(I:ObjM s.heap x dx C mA)
  (c:Y3 K (.ref C) "__setattr__"=wc (wc (.builtin "object.__setattr__")))(q:PySem.W.plainOver K C=wf)(p:D8 K C name=wc we)(e:D7 K C=wf)
  (hw:Dk mA ns)(L:ns.length<=sizeLine)
  (h:∀u,ObjM u x dx C (λy=>if y=name then wc v else mA y)->Uk dx s.heap u->Q () {s with heap:=u,toks:=s.toks+2}):
  X3 (X8 prog w) A (setAttr (.ref x) name v) Q E s:=by
 have⟨T,J,U⟩:=I.look;erw[PySem.W.set_plain X J c (PySem.W.osa_open (s:={s with toks:=s.toks+1}) (r:=we) X J q p λb=>?_)];have⟨W,N,z⟩:=PySem.W.any_some e;have O:s.heap.get? x=wc ⟨.ref C,wc dx,.plain,#[]⟩:=I.obj;erw[X1 (Xa (X1 (X1 (wpAny_loadPart O (X1 (PySem.W.Looks.here (s:={s with toks:=s.toks+1}) (PySem.W.looks_clsIn X N) ?_))))))];rw[z];erw[Xa (a:=wc dx) (X1 (Xa (X1 ?_)))];erw[wpAny_nsSet1 (s:={s with toks:=s.toks+1}) I.ns λu j l=>?_];have⟨Y,P,R,m,g,d⟩:=j.count (PySem.Within.cons name v hw);erw[X1 (wpAny_lookBehind m (by rw[g];erw[pastItsLine_dict (Xv d (by rw[Yj];lia))]) ?_)]
 erw[Xa (h _ ⟨(l.2 _ (XR I.ne)).trans I.obj,j,I.ne⟩ l)]
def Si(X:K.In s.heap)(l:D9 K C=wf)
  (u:Y3 K (.ref C) "__init__"=wc (wc (.ref f)))(y:PySem.W.typeIn K (.ref f)=wc (.type "function"))
  (h:YJ (X8 prog w) (A.under (.builtin "type.__call__" ⟨.ref C::vs,kw⟩)) (.call (.ref f) ⟨.ref (s.heap.objs.size+1)::vs,kw⟩) (PySem.W.InitBack (s.heap.objs.size+1) R)
   {s with heap:=(s.heap.push Ug).push (UL C s.heap.objs.size)}):
  YJ (X8 prog w) A (.call (.ref C) ⟨vs,kw⟩) R s:=by
 have⟨z,g,d,t,os⟩:=s;erw[PySem.W.make_core (PySem.W.makes_of X l) (PySem.W.looks_findIn X u) (λj=>PySem.W.bind_fn X j y) (.inl rfl) h]
end
noncomputable def putF(f:Str)(v:V):List (Str×V)->List (Str×V)
 |[]=>[(f,v)]
 |(g,x)::r=>if g=f then(g,v)::r else(g,x)::putF f v r
theorem GM(f g:Str)(v:V):∀fs:List (Str×V),(putF f v fs).lookup g=if g=f then wc v else fs.lookup g
 |[]=>by
  show Uf g [(f,v)]=_;by_cases h:g=f
  .have j:(g==f)=wf:=beq_iff_eq.mpr h;simp only[Uf,j,if_pos h]
  .have j:(g==f)=wg:=beq_eq_false_iff_ne.mpr h;simp only[Uf,j,if_neg h]
 |(k,x)::r=>by
  have l:=GM f g v r;rw[show putF f v ((k,x)::r)=(if k=f then(k,v)::r else(k,x)::putF f v r)from rfl];by_cases hk:k=f
  .rw[if_pos hk];by_cases h:g=k
   .have j:(g==k)=wf:=beq_iff_eq.mpr h;simp only[Uf,j,if_pos (h.trans hk)]
   .have j:(g==k)=wg:=beq_eq_false_iff_ne.mpr h;simp only[Uf,j,if_neg (λe:g=f=>h (e.trans hk.symm))]
  .rw[if_neg hk];by_cases h:g=k
   .have j:(g==k)=wf:=beq_iff_eq.mpr h;simp only[Uf,j,if_neg (λe:g=f=>hk (h.symm.trans e))]
   .have j:(g==k)=wg:=beq_eq_false_iff_ne.mpr h;simp only[Uf,j];erw[l]
theorem Ds(f:Str)(v:V):∀fs:List (Str×V),f∈(putF f v fs).map (·.1)/\∀g,g∈fs.map (·.1)->g∈(putF f v fs).map (·.1)
 |[]=>⟨by simp[putF],λg h=>by simp at h⟩
 |(k,x)::r=>by
  have⟨j,l⟩:=Ds f v r;rw[show putF f v ((k,x)::r)=(if k=f then(k,v)::r else(k,x)::putF f v r)from rfl];by_cases hk:k=f
  .rw[if_pos hk];subst hk;erw[⟨by simp,λg h=>by simpa using h⟩]
  .rw[if_neg hk];erw[⟨?_,λg h=>?_⟩]
   .rw[Xt];erw[XJ _ j]
   .rw[Xt]at h ⊢;rcases Xj.mp h with e|e
    .erw[Xj.mpr (.inl e)]
    .erw[XJ _ (l g e)]
theorem GN(f:Str)(v:V):∀fs:List (Str×V),(putF f v fs).length<=fs.length+1
 |[]=>by simp[putF]
 |(k,x)::r=>by
  have j:=GN f v r;rw[show putF f v ((k,x)::r)=(if k=f then(k,v)::r else(k,x)::putF f v r)from rfl];by_cases hk:k=f
  .rw[if_pos hk,Yj,Yj];lia
  .rw[if_neg hk,Yj,Yj];lia
def RelO.some_of(r:RelO (wc v) o):∃u,o=wc u/\RelV v u:=by
 cases o with
 |none=>erw[(show False from r).elim]
 |some u=>erw[⟨u,rfl,r⟩]
def RelO.none_of(r:RelO we o):o=we:=by
 cases o with
 |none=>rfl
 |some u=>erw[(show False from r).elim]
def Sj(r:RelV v u):PySem.W.handedIn u=wf:=by
 cases v with
 |non=>cases(show u=UO from r);rfl
 |bl b=>cases(show u=UP b from r);rfl
 |int i=>have⟨t,e⟩:=(show∃t,u=VR i t from r);cases e;rfl
 |str x=>have⟨t,e⟩:=(show∃t,u=Zf x t from r);cases e;rfl
 |byt b=>have⟨t,e⟩:=(show∃t,u=Value.bytes b t from r);cases e;rfl
 |flt b=>have⟨t,e⟩:=(show∃t,u=Bm b t from r);cases e;rfl
 |ref a=>cases(show u=XB a from r);rfl
 |ty n=>cases(show u=ZK n from r);rfl
section
variable{P:Xr}{w:Xl}{H H':Hp}{h h':Heap}{a C dx:Addr}{fs fs':List (Str×V)}
def WP(l:HOk P w H h)(e:H a=wc (.ins C dx fs)):∃j,ObjM h a dx C j/\(∀f,RelO (fs.lookup f) (j f))/\Dk j (fs.map (·.1))/\fs.length<=1000/\H dx=wc (.own a):=by
 have⟨d,z,u,y,j,n,r,q⟩:=(show ObjOk P w H h a (.ins C dx fs)from l a _ e);erw[⟨j,⟨y,n,u⟩,r,q,z,d⟩]
end
structure Cls (K:X4)(C:Addr):Prop where
 pg:B3 K C VY=wf
 hd:D7 K C=wf
 po:PySem.W.plainOver K C=wf
 sa:Y3 K (.ref C) "__setattr__"=wc (wc (.builtin "object.__setattr__"))
def Cls.get{K:X4}(c:Cls K C)(f:Str):B3 K C f=wf:=c.pg
noncomputable def NoAttr(K:X4)(C:Addr)(f:Str):Prop:=Y3 K (.ref C) f=wc we
def NoAttr.taker{K:X4}(n:NoAttr K C f):D8 K C f=wc we:=by
 unfold D8;rw[show Y3 K (.ref C) f=wc we from n]
 rfl
structure Meth (K:X4)(C:Addr)(m:Str)(f:Addr):Prop where
 at_:Y3 K (.ref C) m=wc (wc (.ref f))
 fn:B8 K (.ref f)=wf
 kp:Zq K (.ref f)=wf
section
variable{X:Cx}{pq:List (Addr×Obj)}{σ:St}{H:Hp}{s:X2}{a C dx:Addr}{fs:List (Str×V)}{f:Str}{v:V}{A:Xz}{E:X0->X2->Prop}
def Sl(I:Inv X pq σ H s)(e:H a=wc (.ins C dx fs))(c:Cls X.K C)(n:NoAttr X.K C f)(l:fs.lookup f=wc v)
  (h:∀u j,Inv X pq σ H j->RelV v u->Q u j):X3 (X8 X.prog X.w) A (getAttr (.ref a) f b) Q E s:=by
 have⟨y,O,r,_,_,_⟩:=WP I.hok e;have⟨u,z,w⟩:=RelO.some_of (v:=v) (o:=y f) (by rw[<-l];erw[r f])
 erw[Sf I.kIn O (c.get f) c.hd n z (Sj w) (h u _ (I.tok _) w)]
def GO(I:Inv X pq σ H s)(e:H a=wc (.ins C dx fs))(c:Cls X.K C)(k:Meth X.K C m g)(l:fs.lookup m=we)
  (h:Q (.ref g,[.ref a]) s):X3 (X8 X.prog X.w) A (getMethod (.ref a) m pl) Q E s:=by
 have⟨j,O,r,_,_,_⟩:=WP I.hok e;have u:j m=we:=RelO.none_of (by rw[<-l];erw[r m])
 erw[Sg I.kIn O (c.get m) k.at_ k.fn u h]
def Sn(I:Inv X pq σ H s)(e:H a=wc (.ins C dx fs))(c:Cls X.K C)(n:NoAttr X.K C f)(U:fs.length<1000)(p:RelV y u)
  (h:∀l,Inv X pq σ (upd H a (.ins C dx (putF f y fs))) l->Q () l):X3 (X8 X.prog X.w) A (setAttr (.ref a) f u) Q E s:=by
 have⟨w,O,r,m,_,d⟩:=WP I.hok e;have L:(fs.map (·.1)).length<=sizeLine:=by rw[X5,sizeLine_eq];lia
 erw[Sh I.kIn O c.sa c.po n.taker c.hd m L λN j P=>h _ ?_];have hd:∃o,N.get? dx=wc o:=let⟨o,_,_,e',_⟩:=j.ns;⟨o,e'⟩
 erw[I.write (x:=a) (e:=dx) (by rw[e];erw[YL]) (.inr d) (λb q R z=>(P.2 b R).trans z) hd ?_]
 erw[⟨by rw[XE O.ne];erw[d],?_,O.ne,j.obj,_,j.ns,λg=>?_,λg T=>?_⟩]
 .have:=GN f y fs;lia
 .show RelO ((putF f y fs).lookup g) (if g=f then wc u else w g);rw[GM];by_cases q:g=f
  .rw[if_pos q,if_pos q];erw[p]
  .rw[if_neg q,if_neg q];erw[r g]
 .by_cases q:g=f
  .rw[q];erw[(Ds f y fs).1]
  .erw[(Ds f y fs).2 g (m g λz=>T ?_)];show(if g=f then wc u else w g)=we;rw[if_neg q];erw[z]
def Inv.made(I:Inv X pq σ H s):Inv X pq σ (upd (upd H s.heap.objs.size (.own (s.heap.objs.size+1))) (s.heap.objs.size+1) (.ins C s.heap.objs.size []))
  {s with heap:=(s.heap.push Ug).push (UL C s.heap.objs.size)}:=by
 have j:(s.heap.push Ug).get? s.heap.objs.size=wc Ug:=XO s.heap rfl;have w:((s.heap.push Ug).push (UL C s.heap.objs.size)).get? (s.heap.objs.size+1)=wc (UL C s.heap.objs.size):=by
  have:=XO (s.heap.push Ug) (o:=UL C s.heap.objs.size) rfl
  rwa [Uj]at this
 have z:(s.heap.push Ug).Ns s.heap.objs.size (λ_=>we):=⟨Ug,#[],_,j,rfl,(λe m=>absurd m (by simp)),λ_=>rfl⟩
 have g:=I.laid (a:=s.heap.objs.size) (o:=.own (s.heap.objs.size+1)) (h':=s.heap.push Ug) (t':=s.toks) (λb u q=>Xu _ q) (X9 _) ⟨_,j⟩;erw[g.laid (a:=s.heap.objs.size+1) (o:=.ins C s.heap.objs.size []) (t':=s.toks) (λb u q=>Xu _ q) (WH (Uj _ _)) ?_];have l:s.heap.objs.size≠s.heap.objs.size+1:=XG (ZX _);erw[⟨by rw[XE l,_M],YB _,l,w,λ_=>we,(Heap.Ns1.of_empty z).at λo q=>Xu _ q,λ_=>YL,λy d=>absurd rfl d⟩]
def So(l:UI e f env (eval e env)=eval e env)
  (h:X3 (X8 prog w) A (eval e env) (λo j=>X3 (X8 prog w) A (getAttr o f wf) Q E j) E s):X3 (X8 prog w) A (eval (.Attribute e f pos) env) Q E s:=
 Attribute_any_ h (by rw[arm_eval_Attribute,l])
end
def tFld(K:X4)(l:TE)(f:Str):TE:=λu H Q=>l u H λx j=>∃a C w fs v,x=.ref a/\j a=wc (.ins C w fs)/\Cls K C/\NoAttr K C f/\fs.lookup f=wc v/\Q v j
def sFld(K:X4)(w z:TE)(f:Str):TS:=λD j H=>z j H λy m=>w j m λx l=>∃a C u fs,x=.ref a/\l a=wc (.ins C u fs)/\Cls K C/\NoAttr K C f/\fs.length<1000/\
 D.nx j (upd l a (.ins C u (putF f y fs)))
section
variable{X:Cx}{o e value:Expr}{f:Str}{pos pos' tpos:Pos}{ta tv:TE}
def Sq(j:PE X e ta)(w:UI e f X.env (eval e X.env)=eval e X.env):PE X (.Attribute e f pos) (tFld X.K ta f):=by
 intro y s z H Q I h;erw[So w (thn (j y s z H _ I h) λu P m=>?_)];have⟨x,g,d,r,a,C,R,fs,v,p,L,c,n,l,q⟩:=m;subst p;obtain rfl:u=XB a:=r;erw[Sl d L c n l λT U N O=>⟨v,g,N,O,q⟩]
def Sr(z:PE X o ta)(m:PE X value tv)(g:ZS value (wc (.Attribute o f pos')) pos.line X.env=pure wg):PS X (.Assign [.Attribute o f pos'] value pos) (sFld X.K ta tv f):=by
 intro w s j H D I h;erw[plainObj_wpAny_Assign_Attribute (thn (m w s j H _ I h) λu d ⟨y,r,p,L,q⟩=>thn (z w d j r _ p q) λN Z O=>?_) g];have⟨x,A,P,R,a,C,B,fs,T,U,c,n,l,W⟩:=O;subst T;obtain rfl:N=XB a:=R;erw[Sn P U c n l L λE Y=>⟨j,_,Y,W⟩]
end
section
variable{X:Cx}{pq:List (Addr×Obj)}{σ:St}{H:Hp}{s:X2}{A:Xz}{E:X0->X2->Prop}{Q:X0->X2->Prop}{c:X0}{b:Bool}
inductive TyOf (K:X4)(H:Hp):V->X0->Prop where
 |non:TyOf K H .non (.type "NoneType")
 |bl (x:Bool):TyOf K H (.bl x) (.type "bool")
 |int (i:Int):TyOf K H (.int i) (.type "int")
 |str (x:Str):TyOf K H (.str x) (.type "str")
 |flt (x:UInt64):TyOf K H (.flt x) (.type "float")
 |lst {a:Addr} {xs:List V} (e:H a=some (.lst xs)):TyOf K H (.ref a) (.type "list")
 |frz {a:Addr} {o:Obj} {xs:List V} (e:H a=some (.frz o (.lst xs))):TyOf K H (.ref a) (.type "list")
 |tup {a:Addr} {xs:List V} (e:H a=some (.tup xs)):TyOf K H (.ref a) (.type "tuple")
 |dK {a:Addr} {kvs:List (Key×V)} (e:H a=some (.dK kvs)):TyOf K H (.ref a) (.type "dict")
 |dT {a:Addr} {kvs:List (List Key×V)} (e:H a=some (.dT kvs)):TyOf K H (.ref a) (.type "dict")
 |ins {a C dx:Addr} {fs:List (Str×V)} (e:H a=some (.ins C dx fs))(cl:Cls K C)(ha:Y3 K (.ref C) "__class__"=some (some (.builtin "object.__class__")))
   (hn:PySem.W.specialIn K (.builtin "object.__class__") "__get__"=some (some (.builtin "getset_descriptor.__get__")))(htk:PySem.W.takesIn K (.builtin "object.__class__")=some true)
   (hm:PySem.W.mroIn K C (.type "object")=some true):TyOf K H (.ref a) (.ref C)
def Su{t:X0}(I:Inv X pq σ H s)(j:RelV x u)(ty:TyOf X.K H x t)(e:Vg X.K t c=wc b)(h:∀L,Q (.bool b) {s with toks:=L}):
  X3 (X8 X.prog X.w) A (call (.builtin "isinstance") [u,c]) Q E s:=by
 cases ty with
 |non=>cases(show u=UO from j);erw[ZF PySem.W.kitx_none I.kIn YL e (λz=>nomatch z) h]
 |bl y=>cases(show u=UP y from j);erw[ZF PySem.W.kitx_bool I.kIn YL e (λz=>nomatch z) h]
 |int i=>have⟨t,q⟩:=(show∃t,u=VR i t from j);cases q;erw[ZF PySem.W.kitx_int I.kIn YL e (λz=>nomatch z) h]
 |str y=>have⟨t,q⟩:=(show∃t,u=Zf y t from j);cases q;erw[ZF PySem.W.kitx_str I.kIn YL e (λz=>nomatch z) h]
 |flt y=>have⟨t,q⟩:=(show∃t,u=Bm y t from j);cases q;erw[ZF PySem.W.kitx_float I.kIn YL e (λz=>nomatch z) h]
 | @lst a g l=>
  cases(show u=XB a from j);have⟨_,_,n,_,w⟩:=(show ObjOk X.prog X.w H s.heap a (.lst g)from I.hok a _ l);erw[ZF AZ I.kIn ⟨_,w,rfl⟩ e (λz=>nomatch z) h]
 | @frz a N g l=>
  cases(show u=XB a from j);have⟨_,_,_,n,_,w⟩:=(show ObjOk X.prog X.w H s.heap a (.frz N (.lst g))from I.hok a _ l);erw[ZF AZ I.kIn ⟨_,w,rfl⟩ e (λz=>nomatch z) h]
 | @tup a g l=>
  cases(show u=XB a from j);have⟨_,_,_,p⟩:=(show ObjOk X.prog X.w H s.heap a (.tup g)from I.hok a _ l);have⟨o,w,d,_⟩:=p.1;erw[ZF PySem.W.kitx_tuple I.kIn ⟨o,w,d⟩ e (λz=>nomatch z) h]
 | @dK a m l=>
  cases(show u=XB a from j);have⟨_,_,Y,_,p⟩:=(show ObjOk X.prog X.w H s.heap a (.dK m)from I.hok a _ l);have⟨o,P,R,w,d,_⟩:=p;erw[ZF B0 I.kIn ⟨o,w,d.1⟩ e (λz=>nomatch z) h]
 | @dT a m l=>
  cases(show u=XB a from j);have⟨_,_,g,_,o,P,R,w,d,_⟩:=(show ObjOk X.prog X.w H s.heap a (.dT m)from I.hok a _ l);erw[ZF B0 I.kIn ⟨o,w,d.1⟩ e (λz=>nomatch z) h]
 | @ins a C Z fs l r T U f W=>
  cases(show u=XB a from j);have⟨B,O,_⟩:=WP I.hok l;have⟨D,J,_⟩:=O.look;erw[ZF (PySem.W.kitx_own (r.get _) r.hd T U f W) I.kIn J e (λz=>nomatch z) h]
end
structure Room (k:Nat)(A:Xz):Prop where
 hd:A.handled=we
 dp:A.depth+3*k+5<recursionLimit
 un:A.units+16*k+200<cLine
def Room.mono{k:Nat}(r:Room k A)(h:j<=k):Room j A:=⟨r.hd,by have:=r.dp;lia,by have:=r.un;lia⟩
theorem Room.deeper{k:Nat}(r:Room (k+1) A)(j:Env):Room k (A.deeper j):=
 ⟨r.hd,by have:=r.dp;show A.depth+1+3*k+5<_;lia,by have:=r.un;show A.units+3+16*k+200<_;lia⟩
def Sv{A:Xz}{C:Addr}{j:List X0}{l:List (Str×X0)}:(A.under (.builtin "type.__call__" ⟨.ref C::j,l⟩)).depth=A.depth+1:=by
 first|rfl|simp[Dh,Code.weight,Code.isCreation,Code.isGuard,Code.isCaller,Code.frames,Code.isFrame,guardIds]
def Sw{A:Xz}{C:Addr}{j:List X0}{l:List (Str×X0)}:(A.under (.builtin "type.__call__" ⟨.ref C::j,l⟩)).units=A.units+1:=by
 first|rfl|simp[Dh,Code.cUnits,Code.frames,Code.isFrame]
def Room.make{k:Nat}(r:Room (k+1) A)(C:Addr)(us:List X0)(j:List (Str×X0)):Room k (A.under (.builtin "type.__call__" ⟨.ref C::us,j⟩)):=
 ⟨r.hd,by have:=r.dp;rw[Sv];lia,by have:=r.un;rw[Sw];lia⟩
theorem Room.depth{k:Nat}(r:Room k A):A.depth<recursionLimit:=by have:=r.dp;lia
noncomputable def tNil:TA:=λ_ H Q=>Q [] H
noncomputable def W5(l:TE)(u:TA):TA:=λj H Q=>l j H λx w=>u j w λy z=>Q (x::y) z
section
variable{X:Cx}{e:Expr}{es:List Expr}{te:TE}{t:TA}{pos:Pos}
def pa_nil:PA X [] tNil:=λ_ _ _ _ H Q I h=>WM ⟨[],H,I,.nil,h⟩
def W6(w:PE X e te)(y:PA X es t)(z:Xx (e::es) X.env=(wg,eval e X.env)::Xx es X.env:=by rfl):PA X (e::es) (W5 te t):=by
 intro pos j s l H Q I h;rw[z];show X3 _ _ (spliced ((wg,eval e X.env)::Y0 pos (Xx es X.env))) _ _ s;erw[WL (thn (w j s l H _ I h) λu m g=>?_)];have⟨x,d,c,f,q⟩:=g;erw[thn (y pos j m l d _ c q) λP R ⟨r,p,L,N,O⟩=>⟨x::r,p,L,.cons f N,O⟩]
def tTup(t:TA):TE:=λu H Q=>t u H λj l=>j.length<=sizeLine/\∀p,l p=we->Q (.ref p) (upd l p (.tup j))
def tLst(t:TA):TE:=λu H Q=>t u H λj l=>j.length<=sizeLine/\∀p,l p=we->Q (.ref p) (upd l p (.lst j))
def Sx{y}(h:PA X es t):PE X (.Tuple es y pos) (tTup t):=by
 intro m s g H Q I d;erw[wpAny_Tuple_spliced (thn (h pos m s g H _ I d) λc j ⟨f,l,w,r,z,q⟩=>⟨by rw[<-r.length];erw[z],?_⟩)]
 have p:l j.heap.objs.size=we:=w.hok.fresh (X9 _);erw[⟨.ref j.heap.objs.size,upd l j.heap.objs.size (.tup f),w.laid (t':=j.toks) (λb u e=>Xu _ e) (X9 _) ?_,rfl,q _ p⟩];erw[⟨z,c,r,⟨_,XO _ rfl,rfl,_,rfl⟩,_,XO _ rfl,rfl⟩]
def Sy(h:PA X es t):PE X (.List es pos) (tLst t):=by
 intro y s m H Q I g;erw[wpAny_List_spliced (thn (h pos y s m H _ I g) λd j ⟨c,l,w,r,z,q⟩=>⟨by rw[<-r.length];erw[z],?_⟩)]
 have f:l j.heap.objs.size=we:=w.hok.fresh (X9 _);erw[⟨.ref j.heap.objs.size,upd l j.heap.objs.size (.lst c),w.laid (t':=j.toks) (λb u e=>Xu _ e) (X9 _) ?_,rfl,q _ f⟩];erw[⟨z,d,0,r,XO _ rfl⟩]
end
abbrev Sp:=List V->Hp->VK->XK->Prop
abbrev CXT:=List Env->Hp->X2->XK->X0->X2->Prop
structure Env0 (P:Xr)(w:Xl)(K:X4)(mg:Str->Option X0)(base:Heap)(A:Xz)(outer:List Env)(s:X2)(H:Hp):Prop where
 frames:A.frames=wc outer
 mod:Mod K mg base
 bs:∀b o,base.get? b=wc o->s.heap.get? b=wc o/\H b=we
 bsz:base.objs.size<=s.heap.objs.size
 funs:s.heap.FunFrames base outer
 frf:∀b∈frs outer,H b=we
 hok:HOk P w H s.heap
 bare:AllBare s.gens
def CE(j:List Env)(P:Xr)(w:Xl)(H:Hp)(s:X2)(Q:VK)(u:X0)(l:X2):Prop:=
 ∃v y,l.os=s.os/\AllBare l.gens/\Un (frs j) [] H y s.heap l.heap/\HOk P w y l.heap/\RelV v u/\Q v y
def CR(y:CXT)(j:List Env)(P:Xr)(w:Xl)(H:Hp)(s:X2)(Q:VK)(E:XK)(r:Result)(l:X2):Prop:=
 match r with
 |.ok (.ret u)=>CE j P w H s Q u l
 |.ok _=>False
 |.error e=>y j H s E e l
structure FnOk (P:Xr)(w:Xl)(K:X4)(mg:Str->Option X0)(base:Heap)(CX:CXT)(k:Nat)(f:Addr)(fd:Zk)(ps:List Str)(sp:Sp):Prop where
 len:∀vs H Q E,sp vs H Q E->vs.length=ps.length
 run:∀(A:Xz)(outer:List Env)(s:X2)(H:Hp)(args:Args)(us:List X0)(vs:List V)(Q:VK)(E:XK),Room k A->Env0 P w K mg base A outer s H->BindsTo s fd args (ps.zip us)->Vals vs us->sp vs H Q E->
  YJ (X8 P w) A (.call (.ref f) args) (CR CX outer P w H s Q E) s
theorem FnOk.mono{K:X4}{k:Nat}(F:FnOk P w K mg base CX j f fd ps sp)(h:j<=k):
  FnOk P w K mg base CX k f fd ps sp:=⟨F.len,λA l s H u y z Q E m=>F.run A l s H u y z Q E (m.mono h)⟩
def FnOk.imp{K:X4}{k:Nat}(F:FnOk P w K mg base CX k f fd ps sp)
  (h:∀l H Q E,sp' l H Q E->sp l H Q E):FnOk P w K mg base CX k f fd ps sp':=
 ⟨λl H Q E q=>F.len l H Q E (h _ _ _ _ q),λA j s H u y l Q E z m g d c=>F.run A j s H u y l Q E z m g d (h _ _ _ _ c)⟩
def Env0.make{K:X4}(e:Env0 P w K mg base A outer s H)(C:Addr)(us:List X0)(j:List (Str×X0)):
  Env0 P w K mg base (A.under (.builtin "type.__call__" ⟨.ref C::us,j⟩)) outer s H:=⟨by first|erw[e.frames]|(simpa [Dh,Code.envs,Code.isFrame,pushEnvs]using e.frames),e.mod,e.bs,e.bsz,e.funs,e.frf,e.hok,e.bare⟩
section
variable{X:Cx}{pq:List (Addr×Obj)}{σ:St}{H:Hp}{s s':X2}
def Inv.env0(I:Inv X pq σ H s):Env0 X.prog X.w X.K X.mg X.base X.A X.stack s H:=
 ⟨I.ok.frames,I.ok.mod,I.bs,Xv I.ok.bsz I.sz,I.stack,I.stkFree,I.hok,I.bare⟩
def Inv.after(I:Inv X pq σ H s)(h:CE X.stack X.prog X.w H s Q u s'):EP X pq σ Q u s':=by
 have⟨v,y,os,j,un,l,r,q⟩:=h;have⟨m,g,d,t,w⟩:=s';obtain rfl:w=s.os:=os;erw[⟨v,y,I.call (h':=m) (L:=g) (P:=d) (O:=t) (y:=[]) un l j (λb z=>absurd z (by simp)),r,q⟩]
end
noncomputable def Sz(l:Sp)(j:List V)(E:XK)(t:TA):TE:=λu H Q=>t u H λw y=>l (w++j) y Q E
noncomputable def GP(C:Addr)(m:Str)(w:Sp)(j:List V)(E:XK)(y:TE)(t:TA):TE:=λl H Q=>y l H λx u=>∃a z fs,x=.ref a/\u a=wc (.ins C z fs)/\fs.lookup m=we/\
 t l u λg d=>w (x::(g++j)) d Q E
def SA(C:Addr)(w:Sp)(l:List V)(E:XK)(t:TA):TE:=λy H Q=>t y H λz u=>∀x j,u x=we->u j=we->j≠x->
 w (.ref x::(z++l)) (upd (upd u j (.own x)) x (.ins C j [])) (λv m=>v=.non/\Q (.ref x) m) E
noncomputable def Binds(K:X4)(w:Zk)(l:List Str)(u:List X0):Prop:=
 ∀(s:X2)(j:List X0),K.In s.heap->(j++u).length=l.length->BindsTo s w ⟨j,[]⟩ (l.zip (j++u))
def Binds.all{K:X4}(h:∀us:List X0,us.length=ps.length->bindArgs fd ⟨us,[]⟩=pure (ps.zip us)):Binds K fd ps []:=λs us _ j=>by
 rw[Z3]at j ⊢;erw[.of_eq (h us j)]
def Vq(l:CXT)(X:Cx)(E:XK):Prop:=∀(u:List (Addr×Obj))(w:St)(H:Hp)(s:X2)(e:X0)(j:X2),Inv X u w H s->l X.stack H s E e j->X.xe e j
section
variable{X:Cx}{CX:CXT}{k:Nat}{f C:Addr}{fd:Zk}{ps:List Str}{sp:Sp}{dvs:List V}{ds:List X0}{E:XK}{x m:Str}{p pos apos:Pos}{e o:Expr}{es:List Expr}{ta:TE}{t:TA}
def Dt(F:FnOk X.prog X.w X.K X.mg X.base CX k f fd ps sp)(w:Room k X.A)(y:Binds X.K fd ps ds)(hd:Vals dvs ds)(z:Vq CX X E)
  (I:Inv X pq σ H s)(r:Vals vs us)(h:sp (vs++dvs) H Q E):X3 (X8 X.prog X.w) X.A (call (.ref f) us) (EP X pq σ Q) X.xe s:=by
 have l:Vals (vs++dvs) (us++ds):=r.append hd;have g:(us++ds).length=ps.length:=by rw[<-l.length];erw[F.len _ _ _ _ h]
 erw[VB (VC (F.run X.A X.stack s H ⟨us,[]⟩ (us++ds) (vs++dvs) Q E w I.env0 (y s us I.kIn g) l h) λr d j=>?_)];cases r with
 |error e=>erw[z pq σ H s e d I j]
 |ok c=>
  cases c with
  |ret u=>erw[I.after j]
  |next=>erw[Y7 j]
  |brk=>erw[Y7 j]
  |cont=>erw[Y7 j]
def SC(F:FnOk X.prog X.w X.K X.mg X.base CX k f fd ps sp)(w:Room k X.A)(y:Gl X x)(z:X.mg x=wc (.ref f))(g:Zq X.K (.ref f)=wf)(d:Binds X.K fd ps ds)(hd:Vals dvs ds)(c:Vq CX X E)
  (L:PA X (e::es) t)(j:(x==("__debug__":Str))=wg:=by decide)(N:Xx (e::es) X.env=(wg,eval e X.env)::Xx es X.env:=by rfl)(l:(Y0 pos (Xx es X.env)).any (·.1)=wg:=by rfl):
  PE X (.Call (.Name x p) (e::es) [] pos) (Sz sp dvs E t):=by
 intro O s P H Q I h;erw[U9 (Dq I y z ?_ j)];erw[D5 (h₀:=X.base) I.ok.mod.kin g (thn (L pos O s P H _ I h) λR T ⟨U,W,u,r,q⟩=>⟨u.kIn,?_⟩) N l];erw[Dt F w d hd c u r q]
def SD{y:Sem Bool}(O:PE X o ta)(c:Cls X.K C)(z:Meth X.K C m f)(F:FnOk X.prog X.w X.K X.mg X.base CX k f fd ps sp)(P:Room k X.A)(R:Binds X.K fd ps ds)(hd:Vals dvs ds)(T:Vq CX X E)(U:PA X (e::es) t)
  (j:Xx (e::es) X.env=(wg,eval e X.env)::Xx es X.env:=by rfl)(w:(Y0 pos (Xx es X.env)).any (·.1)=wg:=by rfl)
  (W:eval (.Call (.Attribute o m apos) (e::es) [] pos) X.env=(do
   let ov<- eval o X.env
   standAt apos.atName
   let(f,first)<- Z9 [ov] (getMethod ov m y)
   callWith pos f first (Y0 pos (Xx (e::es) X.env)) (Ua pos (Ub [] X.env))):=by rfl):
  PE X (.Call (.Attribute o m apos) (e::es) [] pos) (GP C m sp dvs E ta t):=by
 intro g s d H Q I h;erw[FN (pl:=y) (thn (O g s d H _ I h) λu Y Z=>?_) W];have⟨x,A,L,B,a,v,fs,D,G,l,q⟩:=Z;subst D;obtain rfl:u=XB a:=B;erw[GO L G c z l ?_];erw[D5 (first:=[.ref a]) (h₀:=X.base) I.ok.mod.kin z.kp (thn (U pos g Y d A _ L q) λJ i ⟨M,n,N,r,S⟩=>⟨N.kIn,?_⟩) j w]
 erw[Dt (us:=.ref a::J) (vs:=.ref a::M) F P R hd T N (.cons rfl r) S]
def SE{w:Sem Bool}(z:PE X o ta)(c:Cls X.K C)(y:Meth X.K C m f)(F:FnOk X.prog X.w X.K X.mg X.base CX k f fd ps sp)(g:Room k X.A)(d:Binds X.K fd ps ds)(hd:Vals dvs ds)(r:Vq CX X E)
  (L:eval (.Call (.Attribute o m apos) [] [] pos) X.env=(do
   let ov<- eval o X.env
   standAt apos.atName
   let(f,first)<- Z9 [ov] (getMethod ov m w)
   callWith pos f first (Y0 pos (Xx [] X.env)) (Ua pos (Ub [] X.env))):=by rfl):
  PE X (.Call (.Attribute o m apos) [] [] pos) (GP C m sp dvs E ta tNil):=by
 intro N s O H Q I h;erw[FN (pl:=w) (thn (z N s O H _ I h) λu W P=>?_) L];have⟨x,Y,j,R,a,Z,fs,T,U,l,q⟩:=P;subst T;obtain rfl:u=XB a:=R;erw[GO j U c y l ?_];erw[PySem.W.callWith_K0 (first:=[.ref a]) j.kIn y.kp (Dt (us:=[.ref a]) (vs:=[.ref a]) F g d hd r j (.cons rfl .nil) q)]
structure Mk (K:X4)(C f:Addr):Prop where
 makes:D9 K C=wf
 init:Y3 K (.ref C) "__init__"=wc (wc (.ref f))
 fn:B8 K (.ref f)=wf
 kp:Zq K (.ref C)=wf
def SF(M:Mk X.K C f)(F:FnOk X.prog X.w X.K X.mg X.base CX k f fd ps sp)(g:Room (k+1) X.A)(d:Binds X.K fd ps ds)(hd:Vals dvs ds)
  (c:Vq CX X E)(I:Inv X pq σ H s)(r:Vals vs us)
  (h:∀x l,H x=we->H l=we->l≠x->sp (.ref x::(vs++dvs)) (upd (upd H l (.own x)) x (.ins C l [])) (λv q=>v=.non/\Q (.ref x) q) E):
  X3 (X8 X.prog X.w) X.A (call (.ref C) us) (EP X pq σ Q) X.xe s:=by
 have y:=h (s.heap.objs.size+1) s.heap.objs.size (I.hok.fresh (YC _)) (I.hok.fresh (X9 _)) (XG (ZX _));have w:=Inv.made (C:=C) I;have z:Vals (V.ref (s.heap.objs.size+1)::(vs++dvs)) (XB (s.heap.objs.size+1)::(us++ds)):=.cons rfl (r.append hd);have L:(XB (s.heap.objs.size+1)::us++ds).length=ps.length:=by
  have e:=z.length;rw[F.len _ _ _ _ y]at e;erw[e.symm]
 erw[VB (Si (f:=f) I.kIn M.makes M.init (beq_iff_eq.mp M.fn) (VC (F.run _ X.stack _ _ ⟨XB (s.heap.objs.size+1)::us,[]⟩ (XB (s.heap.objs.size+1)::(us++ds)) _ _ E (g.make C us [])
  (w.env0.make C us []) (d _ (XB (s.heap.objs.size+1)::us) w.kIn L) z y) λr N j=>?_))]
 cases r with
 |error e=>erw[c pq σ _ _ e N w j]
 |ok O=>
  cases O with
  |ret u=>
   have⟨v,P,R,T,U,W⟩:=w.after j;subst U;erw[⟨T,⟨V.ref (s.heap.objs.size+1),P,R,rfl,W⟩⟩]
  |next=>erw[Y7 j]
  |brk=>erw[Y7 j]
  |cont=>erw[Y7 j]
def SG(M:Mk X.K C f)(F:FnOk X.prog X.w X.K X.mg X.base CX k f fd ps sp)(w:Room (k+1) X.A)(y:Gl X x)(z:X.mg x=wc (.ref C))(g:Binds X.K fd ps ds)(hd:Vals dvs ds)(d:Vq CX X E)
  (c:PA X (e::es) t)(j:(x==("__debug__":Str))=wg:=by decide)(L:Xx (e::es) X.env=(wg,eval e X.env)::Xx es X.env:=by rfl)(l:(Y0 pos (Xx es X.env)).any (·.1)=wg:=by rfl):
  PE X (.Call (.Name x p) (e::es) [] pos) (SA C sp dvs E t):=by
 intro N s O H Q I h;erw[U9 (Dq I y z ?_ j)];erw[D5 (h₀:=X.base) I.ok.mod.kin M.kp (thn (c pos N s O H _ I h) λP R ⟨T,U,u,r,q⟩=>⟨u.kIn,?_⟩) L l];erw[SF M F w g hd d u r q]
end
section
variable{X:Cx}{CX:CXT}{k:Nat}{f C:Addr}{fd:Zk}{ps ks:List Str}{sp:Sp}{E:XK}{x m:Str}{p pos apos kpos:Pos}{e o:Expr}{es:List Expr}{kws:List Za}{te ta:TE}{t tk:TA}{nm:Option Str}
variable{g:List X0->List X0->List X0}{gV:List V->List V->List V}
end
structure FnScope (N P:List Str)(sc:Scope):Prop where
 kind:sc.kind=.function
 co:sc.isCoroutine=wg
 gen:sc.isGenerator=wg
 nd:N.Nodup
 pre:N.take P.length=P
 par:∀x∈P,sc.names.lookup x=wc .local\/sc.names.lookup x=wc .cell
 nofree:∀y∈sc.names,y.2≠.free
theorem GQ{kindOf:Str->Option Zl}:∀{binds:List (Str×X0)} {m:Str->Option X0},(∀v,(x,v)∉binds)->bindL kindOf binds m x=m x
 |[],_,_=>rfl
 |(n,v)::r,m,h=>by
  unfold bindL;rw[GQ λw j=>h w (XJ _ j)];split
  .have:x≠n:=by rintro rfl;erw[h v Y2]
   simp[this]
  .rfl
theorem GR{kindOf:Str->Option Zl}:∀{binds:List (Str×X0)} {m:Str->Option X0},(∀v,(x,v)∉binds)->bindC kindOf binds m x=m x
 |[],_,_=>rfl
 |(n,v)::r,m,h=>by
  unfold bindC;rw[GR λw j=>h w (XJ _ j)];split
  .rfl
  .have:x≠n:=by rintro rfl;erw[h v Y2]
   simp[this]
theorem GS{kindOf:Str->Option Zl}:∀{P:List Str} {j:List X0} {i:Nat} {m:Str->Option X0},P.Nodup->P[i]?=wc x->j[i]?=wc v->kindOf x=wc .local->
  bindL kindOf (P.zip j) m x=wc v
 |[],_,_,_,_,h,_,_=>by simp at h
 |_::_,[],_,_,_,_,h,_=>by simp at h
 |p::P,w::j,0,m,nd,h1,h2,hk=>by
  simp at h1 h2;subst h1;subst h2;show bindL kindOf ((p,w)::P.zip j) m p=_;unfold bindL;rw[GQ λv l=>(Yc.mp nd).1 (D3 l).1,if_pos hk];simp
 |p::P,w::j,i+1,m,nd,h1,h2,hk=>by
  show bindL kindOf ((p,w)::P.zip j) m x=_;unfold bindL;erw[GS (i:=i) (Yc.mp nd).2 (by simpa using h1) (by simpa using h2) hk]
theorem GT{kindOf:Str->Option Zl}:∀{P:List Str} {j:List X0} {i:Nat} {m:Str->Option X0},P.Nodup->P[i]?=wc x->j[i]?=wc v->kindOf x≠wc .local->
  bindC kindOf (P.zip j) m x=wc v
 |[],_,_,_,_,h,_,_=>by simp at h
 |_::_,[],_,_,_,_,h,_=>by simp at h
 |p::P,w::j,0,m,nd,h1,h2,hk=>by
  simp at h1 h2;subst h1;subst h2;show bindC kindOf ((p,w)::P.zip j) m p=_;unfold bindC;rw[GR λv l=>(Yc.mp nd).1 (D3 l).1,if_neg hk];simp
 |p::P,w::j,i+1,m,nd,h1,h2,hk=>by
  show bindC kindOf ((p,w)::P.zip j) m x=_;unfold bindC;erw[GT (i:=i) (Yc.mp nd).2 (by simpa using h1) (by simpa using h2) hk]
noncomputable def start(N:List Str)(vs:List V):St:=vs.map wc++Xi (N.length - vs.length) we
noncomputable def cxOf(g:CXT)(P:Xr)(w:Xl)(K:X4)(d:Str->Option X0)(z:Heap)(N:List Str)(u:Str)(j:Scope)(f:Addr)(m:X0)(A:Xz)(l:List Env)(s:X2)(H:Hp)(E:XK):Cx where
 prog:=P
 w:=w
 K:=K
 mg:=d
 base:=z
 A:=A.deeper (envOfC u j s.heap.objs.size f m)
 N:=N
 s₀:=s
 H₀:=H
 env:=envOfC u j s.heap.objs.size f m
 outer:=l
 stack:=envOfC u j s.heap.objs.size f m::l
 ex:=[]
 calm:=wf
 fn:=λ_=>wf
 pn:=[]
 xe:=λe c=>X3 (X8 P w) (A.deeper (envOfC u j s.heap.objs.size f m)) (leaving (envOfC u j s.heap.objs.size f m) e) (λ_ y=>g l H s E e y) (λq y=>g l H s E q y) c
def GU{j:Scope}{n:Nat}{x:Str}(h:j.names.lookup x=wc .cell):∃c,(cellsFrom n j.names []).lookup x=wc c:=by
 have q:=FK j.names n [] (.inl h);erw[Option.isSome_iff_exists.mp q]
def SH{G:CXT}{P:Xr}{w:Xl}{K:X4}{D:Str->Option X0}{d:Heap}{N O:List Str}{m:Str}{j:Scope}{f:Addr}{Z:X0}{A:Xz}{l:List Env}{s I:X2}{H:Hp}{E:XK}{F:List X0}{R:List V}
  (S:FnScope N O j)(hd:A.handled=we)(L:Env0 P w K D d A l s H)(hl:R.length=O.length)(r:Vals R F)
  (x:InCallC s s.heap.objs.size (bindL (envOfC m j s.heap.objs.size f Z).kindOf (O.zip F) λ_=>we) (cellsFrom (s.heap.objs.size+1) j.names []) (bindC (envOfC m j s.heap.objs.size f Z).kindOf (O.zip F) λ_=>we) I):
  Inv (cxOf G P w K D d N m j f Z A l s H E) [] (start N R) H I:=by
 have Q:O.length<=N.length:=by have:=congrArg WE S.pre;rw[Yf]at this;lia
 have⟨B,tk,rfl,J⟩:=x.done;have T:∀b:Addr,b∉(cxOf G P w K D d N m j f Z A l s H E).ex:=λb z=>absurd (show b∈([]:List Addr)from z) (by simp)
 erw[⟨⟨L.mod,S.kind,rfl,rfl,X9 _,λy z c B g=>?_,λy U=>?_,λy c _ h=>?_,λ_=>hd,Around.frames_deeper L.frames,.inr ⟨rfl,rfl⟩,λb z=>absurd z (T b),L.bs,L.bsz,λb _ _=>T b,λb z=>absurd z (T b),L.funs,L.frf⟩,
  rfl,L.bare,Un.kept J,⟨_,x.toInCall.ns,λi y v B g h3=>?_⟩,λy c h=>⟨_,x.cell y c h⟩,L.hok.fresh (X9 _),λy c h=>?_,λp W=>absurd (show p∈([]:List (Addr×Obj))from W) (by simp),L.hok.kept J,?_⟩]
 .erw[name_of_addr x.apart (VW B) (VW g)]
 .have U:j.names.lookup y=wc .cell\/j.names.lookup y=wc .free:=U;rcases U with U|U
  .erw[GU U]
  .erw[absurd rfl (S.nofree _ (VW U))]
 .erw[ZJ (x.above y c (VW h))]
 .have C:i<R.length:=by
   unfold start at g;by_cases C:i<R.length
   .erw[C]
   .rw[Zn (by simpa using C)]at g
    rw[FH]at g;split at g<;>cases g
  have X:R[i]?=wc v:=by
   unfold start at g;rw[ZA (by simpa using C),Xe]at g
   cases e:R[i]? with
   |none=>rw[e]at g;cases g
   |some a=>rw[e]at g;cases g;rfl
  have⟨u,M,o⟩:=r.get X;have W:O[i]?=wc y:=by
   rw[<-S.pre,List.getElem?_take_of_lt (by lia)];erw[B]
  have Y:O.Nodup:=by rw[<-S.pre];erw[S.nd.sublist (List.take_sublist _ _)]
  erw[⟨u,o,?_⟩];rcases S.par y (Xd W)with k|k
  .erw[.inl ⟨k,GS Y W M k⟩]
  .have⟨c,e⟩:=GU (n:=s.heap.objs.size+1) k;erw[.inr ⟨.inl k,c,e,?_⟩];have q:=x.cell y c e;rw[GT Y W M (by show j.names.lookup y≠_;rw[k];decide)]at q
   erw[q]
 .erw[L.hok.fresh (ZJ (x.above y c (VW h)))]
 .unfold start;show _=N.length;rw[Ya,X5,Zc];lia
def SI{K:X4}{k:Nat}{name:Str}{kV:X0}
    (D:K.lookup f=wc ⟨oc,od,.func (ZH name qual params body scope dV kV doc pm an cdv ct),osl⟩)(R:B5 K cdv qual=wf)(S:FnScope N ps scope)
  (len:∀l H Q E,sp l H Q E->l.length=ps.length)
  (g:∀(A:Xz)(j:List Env)(s:X2)(H:Hp)(l:List V)(Q:VK)(E:XK),Room k (A.deeper (envOfC qual scope s.heap.objs.size f cdv))->sp l H Q E->
   ∃t,PSs (cxOf CX P w K mg base N qual scope f cdv A j s H E) body t/\t {nx:=λ_ m=>Q .non m,rt:=Q} (start N l) H):
  FnOk P w K mg base CX (k+1) f (ZH name qual params body scope dV kV doc pm an cdv ct) ps sp:=by
 erw[⟨len,λA j s H Z F l Q E T p G r L=>?_⟩];have M:=len _ _ _ _ L;have B:K.In s.heap:=p.mod.kin.keeps λb o e=>(p.bs b o e).1;have U:s.heap.NoLimit:=p.mod.nolimit.keeps λb o e=>(p.bs b o e).1;have d:∀y∈ps.zip F,scope.names.lookup y.1=wc .local\/(scope.names.lookup y.1=wc .cell/\((cellsFrom (s.heap.objs.size+1) scope.names []).lookup y.1).isSome=wf):=fun⟨n,v⟩ X=>by
  rcases S.par n (D3 X).1 with q|q
  .erw[.inl q]
  .erw[.inr ⟨q,FK _ _ _ (.inl q)⟩]
 erw[codeAny_call_function T.depth (B _ _ D) rfl S.co S.gen rfl (PySem.W.codeRec_of B R) (G _ _ _ _ ?_)];erw[wpAny_newFunctionEnv_cells S.kind d λi h C x=>?_];subst h;erw[⟨U.keeps x.toInCall.keep,codeAny_func ?_⟩];have⟨t,a,hq⟩:=g A j s H l Q E (T.deeper _) L;have I:Inv (cxOf CX P w K mg base N qual scope f cdv A j s H E) [] (start N l) H C:=SH S T.hd p M r x;erw[ZR (a [] C (start N l) H _ I hq) (λfl W c=>?_) λe W c=>c];have O:∀{z:St} {m:Hp} {v:V} {u:X0},Inv (cxOf CX P w K mg base N qual scope f cdv A j s H E) [] z m W->RelV v u->Q v m->CE j P w H s Q u W:=
  fun{z m v u} J Y q=>⟨v,m,J.os,J.bare,J.base,J.hok,Y,q⟩
 cases fl with
 |ret u=>
  have⟨v,z,m,J,Y,q⟩:=c;erw[O J Y q]
 |next=>
  have⟨z,m,J,q⟩:=c;erw[O (v:=V.non) (u:=UO) J rfl q]
 |brk=>
  have⟨_,_,_,q⟩:=c;erw[Y7 q]
 |cont=>
  have⟨_,_,_,q⟩:=c;erw[Y7 q]
section
variable{X:Cx}{x:Str}{p pos:Pos}{e:Expr}{es:List Expr}{t:TA}{id T:String}{r:List V->Hp->VK->Prop}
noncomputable def tCB(r:List V->Hp->VK->Prop)(t:TA):TE:=λj H Q=>t j H λl u=>r l u Q
def SJ(y:YM X (.builtin id) r)(z:Gl X x)(m:X.mg x=we)(g:YI x=wc (.builtin id))(d:PA X (e::es) t)(c:x≠"__name__":=by decide)(j:(x==("__debug__":Str))=wg:=by decide)
  (f:Xx (e::es) X.env=(wg,eval e X.env)::Xx es X.env:=by rfl)(l:(Y0 pos (Xx es X.env)).any (·.1)=wg:=by rfl):PE X (.Call (.Name x p) (e::es) [] pos) (tCB r t):=by
 intro u s w H Q I h;erw[U9 (Us I z m g ?_ c j)];erw[FQ (thn (d pos u s w H _ I h) λq L ⟨N,O,P,R,U⟩=>y u L w O N q Q P R U) f l]
def SK(y:YM X (.type T) r)(z:Gl X x)(m:X.mg x=we)(g:YI x=wc (.type T))(d:PA X (e::es) t)(c:x≠"__name__":=by decide)(j:(x==("__debug__":Str))=wg:=by decide)
  (f:Xx (e::es) X.env=(wg,eval e X.env)::Xx es X.env:=by rfl)(l:(Y0 pos (Xx es X.env)).any (·.1)=wg:=by rfl):PE X (.Call (.Name x p) (e::es) [] pos) (tCB r t):=by
 intro u s w H Q I h;erw[U9 (Us I z m g ?_ c j)];erw[WK (thn (d pos u s w H _ I h) λq L ⟨N,O,P,R,U⟩=>y u L w O N q Q P R U) f l]
end
end L2
namespace HT
open PySem PyProof.Rows
section
open PySem.SeqAt
open PySem.AutoSeq1 (wpAny_loadPart')
open PySem.MeetsSeq PySem.MeetsSeq2 PySem.MeetsSeq3
end
section
variable{prog:Xr}{w:Xl}{A:Xz}{E:X0->X2->Prop}{s:X2}
def cat_tup{t:Addr}(L:IsTup s.heap t vs.toArray)(N:IsTup s.heap b ws.toArray)(g:vs≠ [])
  (O:ws=[]->Q (.ref t) s)(P:ws≠ []->Q (.ref s.heap.objs.size) {s with heap:=s.heap.push {cls:=.type "tuple",data:=.seq (vs++ws).toArray} })
  (m:vs.length+ws.length<=sizeLine):X3 (X8 prog w) A (Yq .Add (.ref t) (.ref b)) Q E s:=by
 have⟨⟨R,d,c,f⟩,z,q,n,hd⟩:=id L;have⟨⟨r,l,data2,u⟩,j,y,p,hd2⟩:=id N;simp only at q hd y hd2;subst q hd y hd2;have e:vs.toArray++ws.toArray=(vs++ws).toArray:=by simp
 by_cases hw:ws=[]
 .erw[concat_meets ⟨_,z,rfl⟩ ⟨_,j,rfl⟩ noFill_tuple_add seq_tuple_add G4 G1 (FZ _ _)
   (tuple_addW1 t b vs.toArray ws.toArray n p d l f u (by simpa using g) (by simp[hw])) ⟨z,j,O hw⟩]
 .erw[concat_meets ⟨_,z,rfl⟩ ⟨_,j,rfl⟩ noFill_tuple_add seq_tuple_add G4 G1 (FZ _ _)
   (tuple_addW2 t b vs.toArray ws.toArray n p d l f u (by simpa using g) (by simpa using hw) (by rw[XN,XN];erw[m])) ⟨z,j,?_⟩]
  rw[e];erw[P hw]
noncomputable def sIx(n d:Nat):Option Int->Nat
 |we=>d
 |wc v=>if v<0 then(v+(n:Int)).toNat else min v.toNat n
def sIx_none(n d:Nat):sIx n d we=d:=rfl
def sIx_nat(n d k:Nat):sIx n d (wc (k:Int))=min k n:=by
 show(if(k:Int)<0 then((k:Int)+(n:Int)).toNat else min (k:Int).toNat n)=min k n;rw[if_neg (by lia),YT]
def SL(n d:Nat)(hd:d<=n)(o:Option Int):sIx n d o<=n:=by
 cases o with
 |none=>erw[hd]
 |some v=>
  show(if v<0 then(v+(n:Int)).toNat else min v.toNat n)<=n;by_cases hv:v<0
  .rw[if_pos hv];lia
  .rw[if_neg hv];erw[Nat.min_le_right _ _]
def GV(v:Int)(n d:Nat):(if v<0 then max (v+(n:Int)) 0 else min v (n:Int))=((sIx n d (wc v):Nat):Int):=by
 show(if v<0 then max (v+(n:Int)) 0 else min v (n:Int))=(((if v<0 then(v+(n:Int)).toNat else min v.toNat n):Nat):Int);by_cases hv:v<0
 .simp only[if_pos hv];lia
 .simp only[if_neg hv];lia
def SM(lo j:Option Int)(n:Nat):Dp lo j 1 (n:Int)=(((sIx n 0 lo:Nat):Int),((sIx n n j:Nat):Int)):=by
 have l:¬((1:Int)<0):=by lia
 unfold Dp;simp only[l,if_false];erw[Prod.ext ?_ ?_]
 .cases lo with
  |none=>rfl
  |some v=>erw[GV v n 0]
 .cases j with
  |none=>rfl
  |some v=>erw[GV v n n]
def SN(i j:Nat):Bt (i:Int) (j:Int) 1=j - i:=by
 unfold Bt;have l:(1:Int)>0:=by lia
 simp only[l,if_true,Int.ediv_one];split<;>lia
def GW(p:IsPart v o)(h:Q o s):X3 (X8 prog w) A (Builtin.Slice.slicePartIndex v) Q E s:=by
 cases p with
 |none=>erw[slicePart_none h]
 |int i t=>erw[slicePart_int h]
def GX{m:Addr}{y z:X0}{lo j:Option Int}{n:Nat}{Q:Int×Int×Nat->X2->Prop}(g:s.heap.IsSliceOf m y z .none)(d:IsPart y lo)(c:IsPart z j)
  (h:Q (((sIx n 0 lo:Nat):Int),1,sIx n n j - sIx n 0 lo) s):X3 (X8 prog w) A (G9 (.ref m) (pure (n:Int))) Q E s:=by
 have⟨os,l,f,u⟩:=id g;unfold G9 Builtin.Slice.sliceFields;erw[X1 (X1 (wpAny_field l u (x:=y) rfl (X1 (wpAny_field l u (x:=z) rfl (X1 (wpAny_field l u (x:=.none) rfl (Xa ?_)))))))];erw[X1 (slicePart_none ?_)];show X3 _ _ (if((1:Int)==0)=wf then _ else _) _ _ s;rw[if_neg (by decide)]
 erw[X1 (GW d (X1 (GW c (X1 (Xa ?_)))))];show X3 _ _ (match Dp lo j 1 (n:Int)with|(lo,j)=>pure (lo,(1:Int),Bt lo j 1)) _ _ s
 rw[SM lo j n];show X3 _ _ (pure (((sIx n 0 lo:Nat):Int),(1:Int),Bt ((sIx n 0 lo:Nat):Int) ((sIx n n j:Nat):Int) 1)) _ _ s;rw[SN];erw[Xa h]
def SO(j:Array X0)(i k:Nat):((Xq k).filterMap fun(m:Nat)=>j[((i:Int)+(m:Int)*1).toNat]?).toArray=((j.toList.drop i).take k).toArray:=by
 have e:(fun(m:Nat)=>j[((i:Int)+(m:Int)*1).toNat]?)=λm=>j[i+m]?:=by
  funext m
  have:((i:Int)+(m:Int)*1).toNat=i+m:=by lia
  rw[this]
 rw[e];have:=pick_run j i k;rw[List.filterMap_map]at this;have l:((λx=>j[x]?)∘ λx=>i+x)=λm=>j[i+m]?:=rfl;rw[l]at this;rw[this]
def getItem_tuple_cut{t:Addr}{items:Array X0}{lo:Option Int}(l:IsTup s.heap t items)(d:s.heap.IsSliceOf sl vl vu .none)(c:IsPart vl lo)(f:IsPart vu hi)
  (hw:¬(sIx items.size 0 lo=0/\sIx items.size items.size hi=items.size))
  (h:Q (.ref s.heap.objs.size) {s with heap:=s.heap.push {cls:=.type "tuple",data:=.seq ((items.toList.drop (sIx items.size 0 lo)).take (sIx items.size items.size hi - sIx items.size 0 lo)).toArray} })
  (r:items.size<=sizeLine):X3 (X8 prog w) A (getItem (.ref t) (.ref sl)) Q E s:=by
 have j:sizeOk (.seq ((items.toList.drop (sIx items.size 0 lo)).take (sIx items.size items.size hi - sIx items.size 0 lo)).toArray):=by
  show((items.toList.drop (sIx items.size 0 lo)).take (sIx items.size items.size hi - sIx items.size 0 lo)).toArray.size<=sizeLine;rw[XN,Yf,AU,Yg];lia
 have e:sIx items.size items.size hi<=items.size:=SL _ _ (X9 _) hi;have⟨os,u,y,p⟩:=id d;have z:s.TypeIs (.ref sl) "slice":=⟨os,u,y⟩;unfold getItem
 try with_reducible erw[Yx ?_]
 first|erw[X1 (Xa ?_)]|skip
 erw[X1 (wpAny_sequenceKey l.typeIs (by decide) ?_)]
 erw[X1 (AF (name:=VX "__getitem__") l.typeIs VU
  (Zm VU l.typeIs entry_tuple_getitem ?_ (args_tuple_getitem _ _)))]
 show X3 _ _ (FS (.ref t)>>= _) _ _ s;erw[X1 (tupleItemsOf_ l ?_)];erw[X1 (V7 z ?_)];rw[if_pos (by decide)]
 erw[X1 (GX d c f ?_)];have g:¬((((sIx items.size 0 lo:Nat):Int)==0&&(1:Int)==1&&(sIx items.size items.size hi - sIx items.size 0 lo)==items.size)=wf):=by
  intro q;rw[XQ,XQ]at q;have L:((sIx items.size 0 lo:Nat):Int)=0:=eq_of_beq q.1.1;have N:sIx items.size items.size hi - sIx items.size 0 lo=items.size:=eq_of_beq q.2;erw[hw ⟨by lia,by lia⟩]
 show X3 _ _ (if(((sIx items.size 0 lo:Nat):Int)==0&&(1:Int)==1&&(sIx items.size items.size hi - sIx items.size 0 lo)==items.size)=wf then _ else _) _ _ s;rw[if_neg g,SO]
 first
  |erw[X1 (m:=Bq _) (ZU (Xa ⟨_,rfl,Xa h⟩) j)]
  |erw[X1 (m:=Bq _) (ZU (X1 (Xa (Xa ⟨_,rfl,Xa h⟩))) j)]
  |erw[X1 (X1 (m:=Bq _) (ZU (Xa (Xa ⟨_,rfl,Xa h⟩)) j))]
  |erw[X1 (X1 (m:=Bq _) (ZU (Xa ⟨_,rfl,Xa h⟩) j))]
end
end HT
namespace L2
open PySem PySem.Spec PyProof.Rows
abbrev TO:=St->Hp->(Option Int->Hp->Prop)->Prop
def PO(X:Cx)(e:Option Expr)(t:TO):Prop:=
 ∀(l:List (Addr×Obj))(s:X2)(j:St)(H:Hp)(Q:Option Int->Hp->Prop),Inv X l j H s->t j H Q->
  X3 (X8 X.prog X.w) X.A (evalPart e X.env) (λu y=>∃o w,Inv X l j w y/\IsPart u o/\Q o w) X.xe s
noncomputable def SQ:TO:=λ_ H Q=>Q we H
noncomputable def SR(t:TE):TO:=λj H Q=>t j H λx l=>∃i,x=.int i/\Q (wc i) l
def SS:∀{j:List X0},Vals (l.map V.int) j->IntsAre j l:=by
 induction l with
 |nil=>intro j r;rw[Yb]at r;cases r;erw[.nil]
 |cons n l u=>
  intro j r;rw[Xt]at r;cases r with
  |cons w y=>
   have⟨t,e⟩:=w;subst e;erw[.cons n t (u y)]
section
variable{X:Cx}{e:Expr}{te:TE}{lo hi:Option Expr}{tl th:TO}{pos p2:Pos}
def SU:PO X we SQ:=by
 intro j s l H Q I h;rw[evalPart_none];erw[Xa ⟨we,H,I,.none,h⟩]
def SV(h:PE X e te):PO X (wc e) (SR te):=by
 intro j s l H Q I w;rw[evalPart_some];erw[thn (h j s l H _ I w) λu c y=>?_];have⟨x,z,m,g,d⟩:=y;have⟨i,rfl,q⟩:=d;have⟨t,rfl⟩:=g;erw[⟨wc i,z,m,.int i t,q⟩]
def SlR(X:Cx)(r:V->Option Int->Option Int->Hp->VK->Prop):Prop:=
 ∀(j:List (Addr×Obj))(s:X2)(l:St)(H:Hp)(x:V)(v u w:X0)(lo hi:Option Int)(y:Addr)(Q:VK),Inv X j l H s->RelV x v->s.heap.IsSliceOf y u w .none->IsPart u lo->IsPart w hi->r x lo hi H Q->
  ∃T id,typeLookup (.type T) "__getitem__"=pure (wc (.builtin id))/\s.TypeIs v T/\X3 (X8 X.prog X.w) X.A (getItem v (.ref y)) (EP X j l Q) X.xe s
noncomputable def tSl(r:V->Option Int->Option Int->Hp->VK->Prop)(te:TE)(tl th:TO):TE:=λj H Q=>te j H λx w=>tl j w λl y=>th j y λu z=>r x l u z Q
def SW{r:V->Option Int->Option Int->Hp->VK->Prop}(c:SlR X r)(f:PE X e te)(p:PO X lo tl)(L:PO X hi th):PE X (.Subscript e (.Slice lo hi we p2) pos) (tSl r te tl th):=by
 intro w s y H Q I h;erw[Subscript_ (thn (f w s y H _ I h) λv N g=>?_)];have⟨x,O,P,R,U⟩:=g;erw[wpAny_Slice (thn (p w N y O _ P U) λz W ⟨l,Y,Z,A,B⟩=>thn (L w W y Y _ Z B) λm j g=>?_)];have⟨u,d,C,D,E⟩:=g;rw[evalPart_none];erw[Xa ?_];have F:Inv X w y d {j with heap:=j.heap.push {cls:=.type "slice",data:=.fields #[z,m,.none]} }:=C.kept (t':=j.toks) fun b S q=>Xu _ q;have⟨T,id,G,J,M⟩:=c w {j with heap:=j.heap.push {cls:=.type "slice",data:=.fields #[z,m,.none]} } y d x v z m l u j.heap.objs.size Q F R (Heap.IsSliceOf.new ..) A D E;show X3 (X8 X.prog X.w) X.A (subscriptTail e (.Slice lo hi we p2) v (.ref j.heap.objs.size)) (EP X w y Q) X.xe {j with heap:=j.heap.push {cls:=.type "slice",data:=.fields #[z,m,.none]} };erw[tail_any (ops:=[.ref j.heap.objs.size,v]) J G M (by with_unfolding_all rfl)]
noncomputable def cutV(j:List V)(lo hi:Option Int):List V:=(j.drop (HT.sIx j.length 0 lo)).take (HT.sIx j.length j.length hi - HT.sIx j.length 0 lo)
def GY(j:List V)(lo hi:Option Int):(cutV j lo hi).length<=j.length:=by
 unfold cutV;rw[Yf,AU];lia
def rSlT(K:X4):V->Option Int->Option Int->Hp->VK->Prop:=λx lo hi H Q=>∃a j,x=.ref a/\SqT K H a j/\
 ¬(HT.sIx j.length 0 lo=0/\HT.sIx j.length j.length hi=j.length)/\∀p,H p=we->Q (.ref p) (upd H p (.tup (cutV j lo hi)))
def SX:SlR X (rSlT X.K):=by
 intro p s L H x v N O lo hi P Q I z m g d h;have⟨a,l,rfl,c,f,q⟩:=h;cases z;have⟨u,r,w,y⟩:=I.tuple c;have j:u.toArray.size=l.length:=by rw[XN];erw[r.length.symm]
 erw[⟨"tuple",_,VU.lookup,w.typeIs,?_⟩];erw[HT.getItem_tuple_cut w m g d (by rw[j];erw[f]) ?_ (by rw[j];erw[y])]
 rw[j];erw[⟨.ref s.heap.objs.size,_,I.laid (t':=s.toks) (o:=.tup (cutV l lo hi)) (λb R q=>Xu _ q) (X9 _) ?_,rfl,q _ (I.hok.fresh (X9 _))⟩];erw[⟨Xv (GY l lo hi) y,_,(r.drop (HT.sIx l.length 0 lo)).take (HT.sIx l.length l.length hi - HT.sIx l.length 0 lo),IsTup.new _ _,_,XO _ rfl,rfl⟩]
def SY(K:X4):R2:=λx y H Q=>∃a b l j,x=.ref a/\y=.ref b/\SqT K H a l/\SqT K H b j/\l≠ []/\l.length+j.length<=sizeLine/\
 (j=[]->Q (.ref a) H)/\(j≠ []->∀p,H p=we->Q (.ref p) (upd H p (.tup (l++j))))
def Vals.nil_iff(r:Vals xs us):us=[]↔xs=[]:=by
 cases r with
 |nil=>simp
 |cons _ _=>simp
def SZ:OpR X (Yq .Add) (SY X.K):=by
 intro U s W H x y v u Q I d c h;have⟨a,b,f,r,rfl,rfl,p,L,N,m,O,P⟩:=h;cases d;cases c;have⟨R,l,T,_⟩:=I.tuple p;have⟨g,j,p2,_⟩:=I.tuple L;erw[HT.cat_tup T p2 (λz=>N (l.nil_iff.mp z)) (λz=>⟨.ref a,H,I,rfl,O (j.nil_iff.mp z)⟩) (λz=>?_) (by rw[<-l.length,<-j.length];erw[m])]
 erw[⟨.ref s.heap.objs.size,_,I.laid (t':=s.toks) (o:=.tup (f++r)) (λb Y q=>Xu _ q) (X9 _) ?_,rfl,P (λw=>z (j.nil_iff.mpr w)) _ (I.hok.fresh (X9 _))⟩];erw[⟨by rw[Ya];erw[m],_,l.append j,IsTup.new _ _,_,XO _ rfl,rfl⟩]
end
noncomputable def ixN(n:Nat)(i:Int):Option Nat:=if 0<=i then(if i<n then wc i.toNat else we)else if -(n:Int)<=i then wc (i+n).toNat else we
def atI{α:Type}(xs:List α)(i:Int):Option α:=(ixN xs.length i).bind λj=>xs[j]?
def GZ(h:ixN n i=wc j):seqIndex? i n=wc j/\j<n/\ -(n:Int)<=i/\i<n:=by
 unfold ixN at h;by_cases h0:0<=i
 .rw[if_pos h0]at h;by_cases h1:i<n
  .rw[if_pos h1]at h;have e:i.toNat=j:=Y4 h;erw[⟨by rw[seqIndex_of h0 h1,e],by lia,by lia,h1⟩]
  .rw[if_neg h1]at h;cases h
 .rw[if_neg h0]at h;by_cases h1:-(n:Int)<=i
  .rw[if_pos h1]at h;have e:(i+n).toNat=j:=Y4 h;erw[⟨by rw[seqIndex_neg (by lia) h1,e],by lia,h1,by lia⟩]
  .rw[if_neg h1]at h;cases h
def Du{u:Type}{l:List u}{i:Int}{v:u}(h:atI l i=wc v):∃j,seqIndex? i l.length=wc j/\l[j]?=wc v/\j<l.length/\ -(l.length:Int)<=i/\i<l.length:=by
 unfold atI at h;cases e:ixN l.length i with
 |none=>rw[e]at h;cases h
 |some j=>
  rw[e]at h;have⟨w,y,z,m⟩:=GZ e;erw[⟨j,w,h,y,z,m⟩]
def Yl{u:Type}{l:List u}{j:Nat}{v:u}(h:l[j]?=wc v):atI l (j:Int)=wc v:=by
 have w:j<l.length:=(Xm.mp h).1;have e:ixN l.length (j:Int)=wc j:=by
  unfold ixN;rw[if_pos (by lia),if_pos (by lia)];simp
 unfold atI;rw[e];erw[h]
def atI_last{l:Type}(j:List l)(v:l):atI (j++[v]) (-1)=wc v:=by
 have u:(j++[v]).length=j.length+1:=by simp
 have e:ixN (j++[v]).length (-1)=wc j.length:=by
  unfold ixN;rw[u,if_neg (by decide),if_pos (by lia)]
  congr 1;lia
 unfold atI;rw[e];show(j++[v])[j.length]?=wc v;simp
noncomputable def Ha(b:Expr):Prop:=∀o i,subscripted b wg o i=operate [o,i] (getItem o i)
def IxR(X:Cx)(r:R2):Prop:=
 ∀(l j:Expr)(w:List (Addr×Obj))(s:X2)(z:St)(H:Hp)(x y:V)(v u:X0)(Q:VK),Inv X w z H s->RelV x v->RelV y u->r x y H Q->
  subscripted j wg v u=operate [v,u] (getItem v u)->X3 (X8 X.prog X.w) X.A (subscriptTail l j v u) (EP X w z Q) X.xe s
def MtR(X:Cx)(id:String)(r:V->List V->Hp->VK->Prop):Prop:=
 ∀(j:List (Addr×Obj))(s:X2)(l:St)(H:Hp)(x:V)(u:List V)(v:X0)(w:List X0)(Q:VK),Inv X j l H s->RelV x v->Vals u w->r x u H Q->
  X3 (X8 X.prog X.w) X.A (call (.builtin id) (v::w)) (EP X j l Q) X.xe s
section
variable{X:Cx}{a b:Expr}{ta tb:TE}{pos:Pos}
def T0{r:R2}(j:IxR X r)(l:PE X a ta)(w:PE X b tb)(z:Ha b):PE X (.Subscript a b pos) (tOp r ta tb):=by
 intro m s g H Q I h;erw[Subscript_ (binT l w I h λv u d x y c f p e q=>j a b m d g c x y v u Q f p e q (z _ _))]
def rIxL(K:X4):R2:=λx y H Q=>∃p j i v,x=.ref p/\y=.int i/\SqL K H p j/\atI j i=wc v/\Q v H
def rIxT(K:X4):R2:=λx y H Q=>∃p j i v,x=.ref p/\y=.int i/\SqT K H p j/\atI j i=wc v/\Q v H
def rIxS:R2:=λx y H Q=>∃z i c,x=.str z/\y=.int i/\z.length<=sizeLine/\atI z.cps.toList i=wc c/\Q (.str ⟨#[c]⟩) H
def Hb:IxR X (rIxL X.K):=by
 intro g d N s O H x y v u Q I T U h P;have⟨p,E,i,z,rfl,rfl,W,Y,q⟩:=h;cases T;have⟨t,rfl⟩:=U;have⟨c,r,f,F⟩:=I.list W;have⟨j,m,Z,G,A,B⟩:=Du Y;have⟨w,R,e⟩:=r.get Z;have C:=r.length;have J:=W4;have l:EP X N O Q w s:=⟨z,H,I,e,q⟩;by_cases h0:0<=i
 .have L:i.toNat=j:=by
   rw[seqIndex_of h0 B]at m;erw[Y4 m]
  erw[item_listR f.isList h0 (by lia) (by rw[L];simpa using R) l P]
 .have L:(i+(c.toArray.size:Int)).toNat=j:=by
   rw[seqIndex_neg (by lia) A]at m
   rw[XN,<-C];erw[Y4 m]
  erw[subscriptTail_builtinR (x:=w) f.isList.typeIs slot_list_getitem.lookup
   (wpAny_getItem_list_neg (Q:=λr D=>r=w/\EP X N O Q r D) f.isList (by lia) (by rw[XN]<;>lia) (by lia) (by rw[L];simpa using R) ⟨rfl,l⟩) P]
def T1:IxR X (rIxT X.K):=by
 intro l m c s f H x y v u Q I L N h O;have⟨p,B,i,z,rfl,rfl,P,R,q⟩:=h;cases L;have⟨t,rfl⟩:=N;have⟨T,r,e,C⟩:=I.tuple P;have⟨j,U,W,D,E,F⟩:=Du R;have⟨w,Y,g⟩:=r.get W;have Z:=r.length;have G:=W4;have d:EP X c f Q w s:=⟨z,H,I,g,q⟩;erw[subscriptTail_builtinR (x:=w) e.typeIs slot_tuple_getitem.lookup
  (getItem_tuple (j:=j) (Q:=λr A=>r=w/\EP X c f Q r A) e (by lia) (by lia) (by rw[XN,<-Z];erw[U]) (by simpa using Y) ⟨rfl,d⟩) O]
def T2:IxR X rIxS:=by
 intro l w R s T H x y v u Q I g d h f;have⟨z,i,c,rfl,rfl,U,r,q⟩:=h;have⟨t,rfl⟩:=g;have⟨W,rfl⟩:=d;have⟨j,m,p,Y,e,L⟩:=Du r;have N:z.cps.toList.length=z.length:=by simp[Str.length]
 rw[N]at m e L;have Z:=W4;erw[tail_any (typeIs_str s z t) slot_str_getitem.lookup (getItem_str (c:=c) (by
  have O:decide (i< -(2^63:Int))=wg:=decide_eq_false (by lia)
  have P:decide (i >= 2^63)=wg:=decide_eq_false (by lia)
  rw[O,P,Bool.or_false]) (by rw[m];simpa using p) ⟨.str ⟨#[c]⟩,H,I.tok _,⟨_,rfl⟩,q⟩) f]
def T3(l:List X0)(n j:Nat)(u:X0):Ur (·.setIfInBounds j u) {cls:=.type "list",data:=.seq l.toArray n}={cls:=.type "list",data:=.seq (l.set j u).toArray n}:=by
 simp[Ur]
theorem Inv.lst(I:Inv X pq σ H s)(h:H p=wc (.lst xs)):
  ∃(j:List X0) (n:Nat),Vals xs j/\s.heap.get? p=wc {cls:=.type "list",data:=.seq j.toArray n}/\xs.length<=sizeLine:=by
 have⟨z,j,n,r,e⟩:=I.hok p _ h;erw[⟨j,n,r,e,z⟩]
def Inv.lstUpd{z:List (Addr×Obj)}{m:St}{H:Hp}{s:X2}{p:Addr}{d w:List V}{l j:List X0}{n y:Nat}{f:Obj->Obj}(I:Inv X z m H s)(h:H p=wc (.lst d))
  (c:s.heap.get? p=wc {cls:=.type "list",data:=.seq l.toArray n})(g:f {cls:=.type "list",data:=.seq l.toArray n}={cls:=.type "list",data:=.seq j.toArray y})(r:Vals w j)(L:w.length<=sizeLine)(t:Nat):
  Inv X z m (upd H p (.lst w)) {s with heap:=s.heap.update p f,toks:=t}:=by
 have e:(s.heap.update p f).get? p=wc {cls:=.type "list",data:=.seq j.toArray y}:=by
  rw[Vh f c (by rw[g]<;>rfl),g]
 erw[I.write (x:=p) (e:=p) (by rw[h];trivial) (.inl rfl) (λb u N q=>(Ui _ _ (XR N)).trans q) ⟨_,e⟩ ?_]
 erw[⟨L,j,y,r,e⟩]
def T4:V->V->V->Hp->(Hp->Prop)->Prop:=λo i v H Q=>∃p l k j,o=.ref p/\i=.int k/\H p=wc (.lst l)/\ixN l.length k=wc j/\Q (upd H p (.lst (l.set j v)))
def T5:PSet X T4:=by
 intro e s L H o i v W Y u Q I N O P h;have⟨p,R,k,j,rfl,rfl,g,T,q⟩:=h;cases N;have⟨t,rfl⟩:=O;have⟨l,n,r,y,U⟩:=I.lst g;have⟨w,Z,d,c⟩:=GZ T;have z:=r.length;have A:=W4;have f:Inv X e L (upd H p (.lst (R.set j v))) {s with heap:=s.heap.update p (Ur (·.setIfInBounds j u))}:=
  I.lstUpd g y (T3 l n j u) (r.set P j) (by rw[ZV];erw[U]) s.toks
 by_cases h0:0<=k
 .have m:k.toNat=j:=by
   rw[seqIndex_of h0 c]at w;erw[Y4 w]
  erw[PySem.W.ki_setAt y h0 (by lia) (by rw[XN,<-z];erw[c]) (by rw[m];erw[⟨_,f,q⟩])]
 .have m:(k+(l.toArray.size:Int)).toNat=j:=by
   rw[seqIndex_neg (by lia) d]at w
   rw[XN,<-z];erw[Y4 w]
  erw[PySem.W.ki_setBack y (by lia) (by rw[XN,<-z];erw[d]) (by lia) (by rw[m];erw[⟨_,f,q⟩])]
def T6(lo j:Option Int)(n:Nat):(V8 lo j we n).1=((HT.sIx n 0 lo:Nat):Int)/\(V8 lo j we n).2.1=((HT.sIx n n j:Nat):Int)/\(V8 lo j we n).2.2=1:=by
 erw[⟨?_,?_,rfl⟩]
 .cases lo with
  |none=>simp[V8,HT.sIx]
  |some i=>
   simp only[V8,HT.sIx,Option.getD_none,show(1:Int)>0 by decide,if_true]
   by_cases h:i<0
   .simp only[h,if_true]<;>lia
   .simp only[h,if_false]<;>lia
 .cases j with
  |none=>simp[V8,HT.sIx]
  |some i=>
   simp only[V8,HT.sIx,Option.getD_none,show(1:Int)>0 by decide,if_true]
   by_cases h:i<0
   .simp only[h,if_true]<;>lia
   .simp only[h,if_false]<;>lia
def T7(j:List X0)(lo l:Option Int):slicePick j.toArray lo l we=((j.drop (HT.sIx j.length 0 lo)).take (HT.sIx j.length j.length l - HT.sIx j.length 0 lo)).toArray:=by
 have⟨u,w,y⟩:=T6 lo l j.toArray.size;unfold slicePick;rw[u,w,y];simp only[sliceRange_one,pick_run,XN]<;>rfl
def rSlL(K:X4):V->Option Int->Option Int->Hp->VK->Prop:=λx lo l H Q=>∃a j,x=.ref a/\SqL K H a j/\∀p,H p=we->Q (.ref p) (upd H p (.lst (cutV j lo l)))
def Hc:SlR X (rSlL X.K):=by
 intro p s e H x v L N lo u O Q I y z m g h;have⟨a,j,rfl,d,q⟩:=h;cases y;have⟨c,r,w,f⟩:=I.list d;have l:=r.length;erw[⟨"list",_,slot_list_getitem.lookup,w.isList.typeIs,?_⟩];erw[wpAny_getItem_list_slice w.isList z m g .none (by simp) ?_ (by rw[XN]<;>lia)]
 rw[T7,<-l];erw[⟨.ref s.heap.objs.size,_,I.laid (t':=s.toks) (o:=.lst (cutV j lo u)) (λb P q=>Xu _ q) (X9 _) ?_,rfl,q _ (I.hok.fresh (X9 _))⟩];erw[⟨Xv (GY j lo u) f,_,0,(r.drop (HT.sIx j.length 0 lo)).take (HT.sIx j.length j.length u - HT.sIx j.length 0 lo),XO _ rfl⟩]
noncomputable def U0:V->Bool
 |.non=>wf
 |.bl _=>wf
 |.int _=>wf
 |.str _=>wf
 |_=>wg
noncomputable def eqV:V->V->Bool
 |.non,.non=>wf
 |.bl a,.bl b=>a==b
 |.bl a,.int b=>(if a then 1 else 0)==b
 |.int a,.bl b=>a==(if b then 1 else 0)
 |.int a,.int b=>a==b
 |.str a,.str b=>a==b
 |_,_=>wg
def Hd(w:RelV y u)(j:RelV x v)(m:U0 y=wf)(z:U0 x=wf):SeqAt.EqAt A s u v (eqV y x):=by
 cases y with
 |non=>
  cases w;cases x with
  |non=>cases j;erw[SeqAt.EqAt.same _]
  |bl b=>cases j;erw[SeqAt.EqAt.none_bool b]
  |int b=>have⟨t,rfl⟩:=j;erw[SeqAt.EqAt.none_int b t]
  |str b=>have⟨t,rfl⟩:=j;erw[SeqAt.EqAt.none_str b t]
  |_=>erw[absurd (show wg=wf from z) XD]
 |bl a=>
  cases w;cases x with
  |non=>cases j;erw[SeqAt.EqAt.bool_none a]
  |bl b=>cases j;erw[SeqAt.EqAt.bool_bool a b]
  |int b=>have⟨t,rfl⟩:=j;erw[SeqAt.EqAt.bool_int a b t]
  |str b=>have⟨t,rfl⟩:=j;erw[SeqAt.EqAt.bool_str a b t]
  |_=>erw[absurd (show wg=wf from z) XD]
 |int a=>
  have⟨l,rfl⟩:=w;cases x with
  |non=>cases j;erw[SeqAt.EqAt.int_none a l]
  |bl b=>cases j;erw[SeqAt.EqAt.int_bool a l b]
  |int b=>have⟨t,rfl⟩:=j;erw[SeqAt.EqAt.int_int a l b t]
  |str b=>have⟨t,rfl⟩:=j;erw[Gn a l b t]
  |_=>erw[absurd (show wg=wf from z) XD]
 |str a=>
  have⟨l,rfl⟩:=w;cases x with
  |non=>cases j;erw[SeqAt.EqAt.str_none a l]
  |bl b=>cases j;erw[SeqAt.EqAt.str_bool a l b]
  |int b=>have⟨t,rfl⟩:=j;erw[Go a l b t]
  |str b=>have⟨t,rfl⟩:=j;erw[SeqAt.EqAt.str_str a l b t]
  |_=>erw[absurd (show wg=wf from z) XD]
 |_=>erw[absurd (show wg=wf from m) XD]
def eqU(x:V)(u:X0):Bool:=match u with
 |.none=>eqV .non x
 |.bool b=>eqV (.bl b) x
 |.int i _=>eqV (.int i) x
 |.str z _=>eqV (.str z) x
 |_=>wg
def He(r:RelV y u)(f:U0 y=wf):eqU x u=eqV y x:=by
 cases y with
 |non=>cases r;rfl
 |bl b=>cases r;rfl
 |int i=>have⟨t,rfl⟩:=r;rfl
 |str z=>have⟨t,rfl⟩:=r;rfl
 |_=>erw[absurd (show wg=wf from f) XD]
theorem WQ:∀{j:List V} {l:List X0},Vals j l->j.all U0=wf->l.any (eqU x)=j.any λy=>eqV y x
 |_,_,.nil,_=>rfl
 |y::j,u::l,.cons r t,f=>by
  rw[Vf,XQ]at f;rw[ZW,ZW,He r f.1,WQ t f.2]
theorem WR(z:RelV x v)(m:U0 x=wf):∀{l:List V} {w:List X0},Vals l w->l.all U0=wf->∀u∈w,SeqAt.EqAt A s u v (eqU x u)
 |_,_,.nil,_=>λu j=>by cases j
 |y::l,u::w,.cons r t,f=>λg j=>by
  rw[Vf,XQ]at f;rcases Xj.mp j with rfl|j
  .rw[He r f.1];erw[Hd r z f.1 m]
  .erw[WR z m t f.2 g j]
def inV(x:V)(j:List V):Bool:=j.any λy=>eqV y x
def rIn(K:X4)(l:Bool):R2:=λx y H Q=>∃p j,y=.ref p/\(SqL K H p j\/SqT K H p j)/\U0 x=wf/\j.all U0=wf/\Q (.bl (if l then !inV x j else inV x j)) H
def Dv:OpR X (Y6 .In) (rIn X.K wg):=by
 intro e s L H x y v u Q I g c h;have⟨p,N,rfl,l,d,fs,q⟩:=h;cases c;rcases l with l|l
 .have⟨j,r,z,f⟩:=I.list l;erw[SeqAt.in_listAt (eqU x) z.isList (λw m=>WR g d r fs w (by simpa using m)) ⟨.bl _,H,I,rfl,?_⟩]
  rw[show j.toArray.any (eqU x)=j.any (eqU x) by simp,WQ r fs]
  erw[q]
 .have⟨j,r,z,f⟩:=I.tuple l;erw[SeqAt.in_tupleAt (eqU x) z (λw m=>WR g d r fs w (by simpa using m)) ⟨.bl _,H,I,rfl,?_⟩]
  rw[show j.toArray.any (eqU x)=j.any (eqU x) by simp,WQ r fs]
  erw[q]
def Dw:OpR X (Y6 .NotIn) (rIn X.K wf):=by
 intro e s L H x y v u Q I g c h;have⟨p,N,rfl,l,d,fs,q⟩:=h;cases c;rcases l with l|l
 .have⟨j,r,z,f⟩:=I.list l;erw[SeqAt.notIn_listAt (eqU x) z.isList (λw m=>WR g d r fs w (by simpa using m)) ⟨.bl _,H,I,rfl,?_⟩]
  rw[show j.toArray.any (eqU x)=j.any (eqU x) by simp,WQ r fs]
  erw[q]
 .have⟨j,r,z,f⟩:=I.tuple l;erw[SeqAt.notIn_tupleAt (eqU x) z (λw m=>WR g d r fs w (by simpa using m)) ⟨.bl _,H,I,rfl,?_⟩]
  rw[show j.toArray.any (eqU x)=j.any (eqU x) by simp,WQ r fs]
  erw[q]
def Dx:YM X (.builtin "len") (fun g H Q=>∃p l,g=[.ref p]/\(SqL X.K H p l\/SqT X.K H p l)/\Q (.int l.length) H):=by
 intro f s e H g L Q I r h;have⟨p,l,rfl,w,q⟩:=h;have⟨u,rfl,d⟩:=_N r;cases d;have N:=W4;rcases w with w|w
 .have⟨y,z,m,c⟩:=I.list w;have j:=z.length;erw[Calls.call_len_list m.isList (by simp only[XN]<;>lia) ⟨.int l.length,H,I.tok _,⟨s.toks+1,by rw[XN,j]⟩,q⟩]
 .have⟨y,z,m,c⟩:=I.tuple w;have j:=z.length;erw[len_tuple m (by simp only[XN]<;>lia) ⟨.int l.length,H,I.tok _,⟨s.toks+1,by rw[XN,j]⟩,q⟩]
def T8:YM X (.builtin "len") (fun j H Q=>∃z,j=[.str z]/\z.length<=sizeLine/\Q (.int z.length) H):=by
 intro l s w H j y Q I r h;have⟨z,rfl,m,q⟩:=h;have⟨u,rfl,t,rfl⟩:=_N r;have g:=W4;erw[len_str (by lia) ⟨.int z.length,H,I.tok _,⟨_,rfl⟩,q⟩]
def Hf:YM X (.type "list") (fun R H Q=>∃p y,R=[.ref p]/\(SqL X.K H p y\/SqT X.K H p y)/\∀l,H l=we->Q (.ref l) (upd H l (.lst y))):=by
 intro U s W H R Z Q I r h;have⟨p,y,rfl,g,q⟩:=h;have⟨u,rfl,Y⟩:=_N r;cases Y;have d:∀(j:List X0),Vals y j->y.length<=sizeLine->∀(w:Heap)(z:Nat),(∀b T,s.heap.get? b=wc T->w.get? b=wc T)->
   w.get? s.heap.objs.size=wc {cls:=.type "list",dict:=we,data:=.seq j.toArray z,slots:=#[]}->EP X U W Q (.ref s.heap.objs.size) {s with heap:=w}:=fun j m c w z f e=>
  ⟨.ref s.heap.objs.size,_,I.laid (t':=s.toks) f (X9 _) (show ObjOk X.prog X.w _ w _ (.lst y)from⟨c,j,z,m,e⟩),rfl,q _ (I.hok.fresh (X9 _))⟩
 rcases g with g|g
 .have⟨j,m,N,c⟩:=I.list g;have L:=m.length;have⟨o,O,P,n,hd⟩:=N.isList;erw[call_list_seq p (.inl rfl) O P hd (λw z f e=>d j m c w z f e) (by simp only[XN]<;>lia)]
 .have⟨j,m,N,c⟩:=I.tuple g;have L:=m.length;have⟨o,O,P,n,hd⟩:=N;erw[call_list_seq p (.inr rfl) O P hd (λw z f e=>d j m c w z f e) (by simp only[XN]<;>lia)]
def T9:YM X (.type "tuple") (fun d H Q=>∃p w,d=[.ref p]/\((SqL X.K H p w/\∀l,H l=we->Q (.ref l) (upd H l (.tup w)))\/(SqT X.K H p w/\Q (.ref p) H))):=by
 intro c s f H d U Q I r h;have⟨p,w,rfl,h⟩:=h;have⟨u,rfl,P⟩:=_N r;cases P;rcases h with⟨z,q⟩|⟨z,q⟩
 .have⟨j,m,g,L⟩:=I.list z;have N:=m.length;erw[call_tuple_list g.isList (λy R=>?_) (by simp only[XN]<;>lia)]
  have O:Inv X c f H {s with heap:=y}:=I.kept (t':=s.toks) R;have T:Inv X c f (upd H y.objs.size (.tup w)) {s with heap:=y.push {cls:=.type "tuple",data:=.seq j.toArray} }:=
   O.laid (t':=s.toks) (λb o e=>Xu _ e) (X9 _) (show ObjOk X.prog X.w _ _ _ (.tup w)from⟨L,j,m,IsTup.new _ _,_,XO _ rfl,rfl⟩)
  erw[⟨.ref y.objs.size,_,T,rfl,q _ (O.hok.fresh (X9 _))⟩]
 .have⟨j,m,g,L⟩:=I.tuple z;erw[call_tuple_same g ⟨.ref p,H,I,rfl,q⟩]
def tyV(K:X4)(T:String)(x:V)(H:Hp):Prop:=match x with
 |.str _=>T="str"
 |.int _=>T="int"
 |.ref p=>(T="list"/\∃l,SqL K H p l)\/(T="tuple"/\∃o,K.lookup p=wc o/\o.cls=.type "tuple"/\o.dict=we)\/
   (T="dict"/\((∃j,H p=wc (.dK j))\/∃j,H p=wc (.dT j)))\/(T="set"/\∃S n,H p=wc (.set S n))
 |_=>False
def Hg(I:Inv X pq σ H s)(r:RelV x v)(ty:tyV X.K T x H):
  s.TypeIs v T/\∀a,v=.ref a->∃y,s.heap.get? a=wc y/\y.dict=we:=by
 cases x with
 |str z=>
  have⟨t,rfl⟩:=r;cases(show T="str" from ty);erw[⟨typeIs_str s z t,λ_ e=>nomatch e⟩]
 |int i=>
  have⟨t,rfl⟩:=r;cases(show T="int" from ty);erw[⟨typeIs_int s i t,λ_ e=>nomatch e⟩]
 |ref p=>
  cases r;rcases ty with⟨rfl,q,g⟩|⟨rfl,o,j,d,hd⟩|⟨rfl,j⟩|⟨rfl,S,n,j⟩
  .have⟨f,_,m,_⟩:=I.list g;erw[⟨m.isList.typeIs,λa e=>?_⟩];cases e;have⟨o,n,e,c,hd,_⟩:=m;erw[⟨o,e,hd⟩]
  .erw[⟨⟨o,I.kIn p o j,d⟩,λa e=>?_⟩];cases e;erw[⟨o,I.kIn _ o j,hd⟩]
  .have z:∃o,s.heap.get? p=wc o/\o.ExactDict:=by
    rcases j with⟨u,j⟩|⟨u,j⟩
    .have⟨_,_,_,_,o,_,_,e,l,_⟩:=I.hok p _ j;erw[⟨o,e,l⟩]
    .have⟨_,_,_,_,o,_,_,e,l,_⟩:=I.hok p _ j;erw[⟨o,e,l⟩]
   have⟨o,e,l⟩:=z;erw[⟨⟨o,e,l.1⟩,λa w=>?_⟩];cases w;erw[⟨o,e,l.2.1⟩]
  .have⟨o,_,_,_,e,l,_⟩:=I.hok p _ j;erw[⟨⟨o,e,l.1⟩,λa w=>?_⟩];cases w;erw[⟨o,e,l.2.1⟩]
 |_=>erw[Y7 ty]
def tBM0(K:X4)(T:String)(r:V->List V->Hp->VK->Prop)(to:TE):TE:=λl H Q=>to l H λx j=>tyV K T x j/\r x [] j Q
def tBM(K:X4)(T:String)(r:V->List V->Hp->VK->Prop)(to:TE)(t:TA):TE:=λj H Q=>to j H λx l=>tyV K T x l/\t j l λu w=>r x u w Q
variable{o e:Expr}{es:List Expr}{to:TE}{t:TA}{name:Str}{apos cpos:Pos}{T id:String}{r:V->List V->Hp->VK->Prop}
def Ta(d:PlainAttrs T)(u:Slot T name id)(w:typeOf (.builtin id)=pure (.type "method_descriptor"))(c:MtR X id r)(f:PE X o to)
  (j:UI o name X.env (eval o X.env)=eval o X.env:=by rfl)(l:(apos.endLine==cpos.line)=wf:=by rfl):PE X (.Call (.Attribute o name apos) [] [] cpos) (tBM0 X.K T r to):=by
 intro y s z H Q I h;erw[wpAny_Call_method0_late j l (thn (f y s z H _ I h) λv q p=>?_)];have⟨x,L,m,g,ty,N⟩:=p;have⟨O,P⟩:=Hg m g ty;erw[⟨T,id,d,u,w,O,P,Gg rfl (PySem.evalArgs_none (c y q z L x [] v [] Q m g .nil N))⟩]
def Tb(q:PlainAttrs T)(w:Slot T name id)(z:typeOf (.builtin id)=pure (.type "method_descriptor"))(p:MtR X id r)(L:PE X o to)(N:PA X (e::es) t)
  (l:UI o name X.env (eval o X.env)=eval o X.env:=by rfl)
  (y:((Y0 cpos (Xx (e::es) X.env)).all (λx=>!x.1)&&(Ua cpos (Ub [] X.env)).all (λx=>x.1.isSome)
   &&decide ((e::es).length+([]:List Za).length+(if([]:List Za).isEmpty then 0 else 1)<30))=wf:=by rfl)
  (u:(apos.endLine==cpos.line)=wf:=by rfl)(O:Xx (e::es) X.env=(wg,eval e X.env)::Xx es X.env:=by rfl)(j:(Y0 cpos (Xx es X.env)).any (·.1)=wg:=by rfl):
  PE X (.Call (.Attribute o name apos) (e::es) [] cpos) (tBM X.K T r to t):=by
 intro m s g H Q I h;erw[wpAny_Call_method_late l y u rfl (thn (L m s g H _ I h) λv P R=>?_)];have⟨x,U,d,c,ty,W⟩:=R;have⟨Y,Z⟩:=Hg d c ty;erw[⟨T,id,q,w,z,Y,Z,?_⟩];have f:=N cpos m P g U _ d W;rw[O]at f ⊢;erw[Gg (by show(wg||(Y0 cpos (Xx es X.env)).any (·.1))=wg;rw[j]<;>rfl) (Calls.evalArgs_plain ?_)]
 erw[thn f λA B ⟨C,D,E,F,G⟩=>p m B g D x C v A Q E c F G]
/- xs.append(e),list.index on a module's tuple .. are MtR facts of 06m -/
end
def MtM(X:Cx)(id:String)(r:V->List V->Hp->VK->Prop):Prop:=
 ∀(j:List (Addr×Obj))(s:X2)(l:St)(H:Hp)(x:V)(u:List V)(v:X0)(w:List X0)(Q:VK),Inv X j l H s->RelV x v->Vals u w->r x u H Q->
  X3 (X8 X.prog X.w) X.A (call (.builtin id) (v::w)) (EP X j l Q) X.xe s
def Vals.one:∀{x:V} {us:List X0},Vals [x] us->∃u,us=[u]/\RelV x u
 |_,_,.cons r .nil=>⟨_,rfl,r⟩
theorem Vals.eraseIdx:∀{j:List V} {l:List X0} (i:Nat),Vals j l->Vals (j.eraseIdx i) (l.eraseIdx i)
 |_,_,_,.nil=>.nil
 |_,_,0,.cons _ t=>t
 |_,_,i+1,.cons r t=>.cons r (Vals.eraseIdx i t)
theorem Vals.rep(h:Vals xs us):∀k:Nat,Vals (Xi k xs).flatten (Xi k us).flatten
 |0=>.nil
 |k+1=>by
  rw[Zo,Zo,ZD,ZD];erw[Vals.append h (Vals.rep h k)]
theorem Hh{j:Type}:∀(l:List j)(i:Nat),(l.eraseIdx i).length<=l.length
 |[],_=>X9 _
 |_::_,0=>YC _
 |_::r,i+1=>Bb (Hh r i)
theorem Dy(j:List X0):∀(k:Nat)(l:List X0),
  VN (λu w=>u++w) l.toArray (Xi k j.toArray)=(l++(Xi k j).flatten).toArray
 |0,l=>by simp
 |k+1,l=>by
  have e:l.toArray++j.toArray=(l++j).toArray:=by simp
  have y:(l++j)++(Xi k j).flatten=l++(Xi (k+1) j).flatten:=by
   rw[Zo,ZD,Vb]
  rw[<-y,<-Dy j k (l++j),<-e,Zo,Ve]
section
variable{X:Cx}{pq:List (Addr×Obj)}{σ:St}{H:Hp}{s:X2}{l b:Addr}{xs ys zs:List V}
def Inv.lset{w j:List X0}{n:Nat}{f:Array X0->Array X0}{y:Nat}(I:Inv X pq σ H s)(z:H l=wc (.lst xs))
  (e:s.heap.get? l=wc {cls:=.type "list",data:=.seq w.toArray n})(m:f w.toArray=j.toArray)(g:Vals ys j)(d:ys.length<=sizeLine):
  Inv X pq σ (upd H l (.lst ys)) {s with heap:=s.heap.update l (Ur f),toks:=y}:=by
 have q:=PySem.IsL.update e f;rw[m]at q;erw[I.write (x:=l) (e:=l) (by rw[z];erw[trivial]) (.inl rfl) (λp u c r=>(Ui s.heap (Ur f) (XR c)).trans r) ⟨_,q⟩ ?_]
 erw[⟨d,j,_,g,q⟩]
def Inv.lnew(I:Inv X pq σ H s)(j:Vals ys its)(u:ys.length<=sizeLine):
  Inv X pq σ (upd H s.heap.objs.size (.lst ys)) {s with heap:=s.heap.push {cls:=.type "list",data:=.seq its.toArray},toks:=t'}:=
 I.laid (λ_ _ q=>Xu _ q) (X9 _) ⟨u,its,0,j,XO _ rfl⟩
theorem Inv.fresh(I:Inv X pq σ H s):H s.heap.objs.size=we:=I.hok.fresh (X9 _)
def Inv.lstM(I:Inv X pq σ H s)(u:H l=wc (.lst xs)):xs.length<=sizeLine/\∃(j:List X0) (n:Nat),Vals xs j/\xs.length=j.length/\s.heap.get? l=wc {cls:=.type "list",data:=.seq j.toArray n}:=by
 have⟨z,j,n,r,e⟩:=I.hok l _ u;erw[⟨z,j,n,r,r.length,e⟩]
def Hi(h:n<=sizeLine):Bv n=wg:=by
 unfold Bv;erw[decide_eq_false (by lia)]
end
section
variable{X:Cx}
def Tc:V->List V->Hp->VK->Prop:=λx u H Q=>∃l j y,x=.ref l/\u=[y]/\H l=wc (.lst j)/\j.length<sizeLine/\Q .non (upd H l (.lst (j++[y])))
def Hj:MtM X "list.append" Tc:=by
 intro c s f H x p v L Q I m g h;have⟨l,N,y,rfl,rfl,w,O,q⟩:=h;cases m;have⟨u,rfl,d⟩:=g.one;have⟨z,j,n,r,P,e⟩:=I.lstM w;erw[Uc F.slot_list_append ⟨_,e,rfl⟩ F.entry_list_append (F.args_list_append_2 _ _) (PySem.list_append l j.toArray n u (by rw[XN];lia)) ⟨e,?_⟩]
 erw[⟨.non,_,I.lset (j:=j++[u]) w e (by simp) (r.append (.cons d .nil)) ?_,rfl,q⟩]
 rw[Ya,AM];lia
def Td:V->List V->Hp->VK->Prop:=λx w H Q=>∃l b j u,x=.ref l/\w=[.ref b]/\H l=wc (.lst j)/\H b=wc (.lst u)/\j.length+u.length<=sizeLine/\Q .non (upd H l (.lst (j++u)))
def Te:MtM X "list.extend" Td:=by
 intro R s T H x U v W Q I d c h;have⟨l,b,Y,Z,rfl,rfl,g,f,A,q⟩:=h;cases d;have⟨u,rfl,p⟩:=c.one;cases p;have⟨z,w,n,r,B,e⟩:=I.lstM g;have⟨C,j,L,N,O,P⟩:=I.lstM f;have m:w.toArray.size+j.toArray.size<=sizeLine:=by rw[XN,XN];lia
 have y:¬(!w.toArray.isEmpty&&Bv (w.toArray.size+j.toArray.size))=wf:=by
  rw[Hi m,Bh];erw[XD]
 erw[Uc F.slot_list_extend ⟨_,e,rfl⟩ F.entry_list_extend (F.args_list_extend_2 _ _)
  (AutoSeq1.list_extend_list_list_0 l w.toArray n b j.toArray L y (by rw[XN];lia) (by lia)) ⟨e,P,?_⟩]
 erw[⟨.non,_,I.lset (j:=w++j) g e (by simp) (r.append N) ?_,rfl,q⟩]
 rw[Ya];lia
def rRep:R2:=λx y H Q=>∃l k j,x=.ref l/\y=.int k/\H l=wc (.lst j)/\ -(2^63)<=k/\k<2^63/\j.length*k.toNat<=sizeLine/\
 ∀p,H p=we->Q (.ref p) (upd H p (.lst (Xi k.toNat j).flatten))
def Hk{l:Type}(j:List l)(k:Nat):(Xi k j).flatten.length=k*j.length:=by
 induction k with
 |zero=>simp
 |succ k u=>rw[Zo,ZD,Ya,u,Nat.succ_mul,UM]
def Tf:OpR X (Yq .Mult) rRep:=by
 intro B s C H x y v u Q I O P h;have⟨l,k,D,rfl,rfl,R,W,Y,N,q⟩:=h;cases O;have⟨t,rfl⟩:=P;have⟨z,j,n,r,Z,e⟩:=I.lstM R;have g:j.toArray.size*k.toNat<=sizeLine:=by rw[XN,<-Z];erw[N]
 have d:¬j.toArray.size*k.toNat>(2^63 - 1)/8:=by
  have:(sizeLine:Nat)<=(2^63 - 1)/8:=by decide
  lia
 have c:¬(!Builtin.List.listFitsIndex k)=wf:=by
  rw[fitsIndex_both W Y];erw[XD]
 have w:¬Bv (j.toArray.size*k.toNat)=wf:=by
  rw[Hi g];erw[XD]
 have f:VN (λp L=>p++L) #[] (Xi (if j.toArray.isEmpty=wf then 0 else k.toNat) j.toArray)=(Xi k.toNat j).flatten.toArray:=by
  have f0:∀m:Nat,VN (λp L=>p++L) #[] (Xi m j.toArray)=(Xi m j).flatten.toArray:=λm=>by
   have:=Dy j m [];rw[Yk]at this;erw[this]
  rw[f0];cases j with
  |nil=>simp
  |cons a E=>rw[if_neg (by simp)]
 erw[wpAny_binaryOp_repeat_ref (T:="list") (U:="int") (by decide) ⟨_,e,rfl⟩ (fun A=>typeIs_int A k t) noFill_list_mul F.fills_int_mul F.slot_int_rmul repeat_list F.slot_int_index.lookup
  (Uc F.slot_int_rmul (typeIs_int s k t) F.entry_int_rmul (F.args_int_rmul_2 _ _) (int___rmul___int_list k t l j.toArray n)
   ⟨e,rfl,⟨_,e,rfl⟩,Uc F.slot_list_mul ⟨_,e,rfl⟩ F.entry_list_mul (F.args_list_mul_2 _ _) (AutoListH.list___mul___list_int_3 l j.toArray n k t c d w) ⟨e,?_⟩⟩)]
 rw[f];erw[⟨.ref _,_,I.lnew (t':=s.toks) (r.rep k.toNat) (by rw[Hk,Nat.mul_comm];erw[N]),rfl,q _ I.fresh⟩]
end
section
variable{prog:Xr}{w:Xl}{A:Xz}{E:X0->X2->Prop}{s:X2}
set_option maxRecDepth 100000 in
end
section
variable{X:Cx}
end
section
variable{κ:Type} [DecidableEq κ]
noncomputable def valV(j:List (κ×V))(k:κ):Option V:=(j.find? λl=>decide (l.1=k)).map (·.2)
noncomputable def putK(j:List (κ×V))(k:κ)(v:V):List (κ×V):=
 if(j.any λl=>decide (l.1=k))=wf then j.map (λl=>if l.1=k then(l.1,v)else l)else j++[(k,v)]
noncomputable def dropK(j:List (κ×V))(k:κ):List (κ×V):=j.filter λl=>decide (l.1≠k)
def BF{k:κ}(e:p.1=k):valV (p::r) k=wc p.2:=by simp[valV,VM,e]
def BG{k:κ}(e:¬p.1=k):valV (p::r) k=valV r k:=by simp[valV,VM,e]
theorem Hl(k:κ):∀j:List (κ×V),(j.any λl=>decide (l.1=k))=(valV j k).isSome
 |[]=>rfl
 |p::r=>by
  rw[ZW];by_cases e:p.1=k
  .simp only[BF e,decide_eq_true e,Bool.true_or,Option.isSome_some]
  .rw[BG e,decide_eq_false e,Df];erw[Hl k r]
def Hm(j:List (κ×V))(k:κ)(v:V):(putK j k v).length<=j.length+1:=by
 unfold putK;split
 .rw[X5];lia
 .rw[Ya,Yj,List.length_nil];lia
def RelO.isSome_eq(r:RelO o u):o.isSome=u.isSome:=by
 cases o with
 |none=>cases u with
  |none=>rfl
  |some _=>erw[(show False from r).elim]
 |some _=>cases u with
  |none=>erw[(show False from r).elim]
  |some _=>rfl
def KV.val(r:KV kvs vs)(k:κ):RelO (valV kvs k) (Zb vs k):=by
 unfold KV at r
 induction r with
 |nil=>erw[YL]
 | @cons p q g j h t y=>
  have⟨u,m⟩:=h;by_cases e:p.1=k
  .have l:q.1=k:=u.symm.trans e;have b:Zb (q::j) k=wc q.2:=by simp[Zb,VM,l]
   rw[BF e,b];erw[m]
  .have l:¬q.1=k:=λz=>e (u.trans z);have b:Zb (q::j) k=Zb j k:=by simp[Zb,VM,l]
   rw[BG e,b];erw[y]
theorem KV.any(r:KV kvs vs)(k:κ):(kvs.any λj=>decide (j.1=k))=vs.any λj=>decide (j.1=k):=by
 unfold KV at r
 induction r with
 |nil=>rfl
 |cons h t l=>rw[ZW,ZW,l,h.1]
def KV.repl(r:KV kvs vs)(k:κ)(m:RelV y u):
  KV (kvs.map λj=>if j.1=k then(j.1,y)else j) (vs.map λj=>if j.1=k then(j.1,u)else j):=by
 unfold KV at r ⊢
 induction r with
 |nil=>erw[.nil]
 | @cons p q c f h t g=>
  rw[Xt,Xt];erw[.cons ?_ g];have⟨l,d⟩:=h;by_cases e:p.1=k
  .rw[if_pos e,if_pos (l.symm.trans e)];erw[⟨l,m⟩]
  .rw[if_neg e,if_neg (λz=>e (l.trans z))];erw[⟨l,d⟩]
def KV.put(r:KV kvs vs)(k:κ)(j:RelV y u):KV (putK kvs k y) (stored vs k u):=by
 unfold putK stored;rw[r.any k];by_cases e:(vs.any λl=>decide (l.1=k))=wf
 .rw[if_pos e,if_pos e];erw[r.repl k j]
 .rw[if_neg e,if_neg e];erw[Paired.snoc r ⟨rfl,j⟩]
theorem KV.length(r:KV kvs vs):kvs.length=vs.length:=Paired.length r
end
def W7{k:Key}(r:RelV (kV k) u):(YD P w).is k u=wf:=by
 cases k with
 |inl i=>have⟨t,e⟩:=(show∃t,u=VR i t from r);subst e;erw[R5 P w i t]
 |inr x=>have⟨t,e⟩:=(show∃t,u=Zf x t from r);subst e;erw[R6 P w x t]
theorem Hn:∀{j:List Key} {l:List X0},Vals (j.map kV) l->ItemsAre (YD P w) j l
 |[],_,r=>by rw[Yb]at r;cases r;erw[.nil]
 |k::j,_,r=>by
  rw[Xt]at r;cases r with
  |cons h t=>erw[.cons (W7 h) (Hn t)]
abbrev KT(H:Hp):List (List Key×V)->List (List Key×Addr×X0)->Prop:=Paired λp q=>p.1=q.1/\H q.2.1=wc (.tup (p.1.map kV))/\RelV p.2 q.2.2
def KT.val(r:KT H kvs xs)(k:List Key):RelO (valV kvs k) ((atKey xs k).map (·.2)):=by
 induction r with
 |nil=>erw[YL]
 | @cons p q g j h t y=>
  have⟨u,_,m⟩:=h;by_cases e:p.1=k
  .have l:q.1=k:=u.symm.trans e;have b:atKey (q::j) k=wc q.2:=by simp[atKey,VM,l]
   rw[BF e,b];erw[m]
  .have l:¬q.1=k:=λz=>e (u.trans z);have b:atKey (q::j) k=atKey j k:=by simp[atKey,VM,l]
   rw[BG e,b];erw[y]
def KT.repl(r:KT H kvs xs)(k:List Key)(g:RelV y u):
  KT H (kvs.map λl=>if l.1=k then(l.1,y)else l) (xs.map (putAt k u)):=by
 induction r with
 |nil=>erw[.nil]
 | @cons p q f L h t d=>
  rw[Xt,Xt];erw[.cons ?_ d];have⟨j,m,c⟩:=h;unfold putAt;by_cases e:p.1=k
  .rw[if_pos e,if_pos (j.symm.trans e)];erw[⟨j,m,g⟩]
  .rw[if_neg e,if_neg (λz=>e (j.trans z))];erw[⟨j,m,c⟩]
def KT.put(r:KT H kvs xs)(k:List Key)(l:H b=wc (.tup (k.map kV)))(j:RelV y u):
  KT H (putK kvs k y) (storedH xs k b u):=by
 have e:(kvs.any λz=>decide (z.1=k))=(atKey xs k).isSome:=by
  rw[Hl,(r.val k).isSome_eq,Dj]
 unfold putK storedH;rw[e];by_cases q:(atKey xs k).isSome=wf
 .rw[if_pos q,if_pos q];erw[r.repl k j]
 .rw[if_neg q,if_neg q];erw[Paired.snoc r ⟨rfl,l,j⟩]
def KT.keeps{H l:Hp}{j:List (List Key×V)}{u:List (List Key×Addr×X0)}(r:KT H j u)(m:∀b y,H b=wc (.tup y)->l b=wc (.tup y)):KT l j u:=
 Paired.mapP r λ_ _ z=>⟨z.1,m _ _ z.2.1,z.2.2⟩
section
variable{P:Xr}{w:Xl}{H:Hp}{h:Heap}{a:Addr}
def Ho(ok:HOk P w H h)(e:Rd H a u):ObjOk P w H h a u:=e.ok ok
def Vr(ok:HOk P w H h)(e:Rd H a (.dK kvs)):kvs.length<=sizeLine/\(a==Z0)=wg/\∃j,KV kvs j/\h.DictOf (YD P w) a j:=
 show ObjOk P w H h a (.dK kvs)from Ho ok e
def Dz(ok:HOk P w H h)(e:H a=wc (.dK kvs)):kvs.length<=sizeLine/\(a==Z0)=wg/\∃j,KV kvs j/\h.DictOf (YD P w) a j:=Vr ok (.inl e)
def WT(ok:HOk P w H h)(e:H a=wc (.tup (ks.map kV))):(tupleKind (YD P w)).is h ks a:=by
 have⟨_,j,r,⟨o,l,u,n,y⟩,_⟩:=(show ObjOk P w H h a (.tup (ks.map kV))from ok a _ e);erw[⟨o,j.toArray,n,l,u,y,by simpa using Hn r⟩]
def WU(ok:HOk P w H h)(e:Rd H a (.dT kvs)):kvs.length<=sizeLine/\(a==Z0)=wg/\
  ∃u,KT H kvs u/\h.DictOfH (tupleKind (YD P w)) a u:=by
 have⟨z,y,u,r,o,d,c,f,L,N,O,R⟩:=(show ObjOk P w H h a (.dT kvs)from Ho ok e);erw[⟨z,y,u,r,o,d,c,f,L,N,O,λx j=>?_,R⟩];have all:∀{l:List (List Key×V)} {m:List (List Key×Addr×X0)},KT H l m->∀x∈m,(tupleKind (YD P w)).is h x.1 x.2.1:=by
  intro l m q
  induction q with
  |nil=>intro x j;erw[nomatch j]
  | @cons p q U W g t T=>
   intro x j;rcases Xj.mp j with e|j
   .subst e;erw[WT ok (by rw[<-g.1];erw[g.2.1])]
   .erw[T x j]
 erw[all r x j]
def Tg(ok:HOk P w H h)(e:H a=wc (.dT kvs)):kvs.length<=sizeLine/\(a==Z0)=wg/\
  ∃j,KT H kvs j/\h.DictOfH (tupleKind (YD P w)) a j:=WU ok (.inl e)
end
def DGet(H:Hp)(a:Addr)(y:V)(r:Option V):Prop:=
 (∃j k,Rd H a (.dK j)/\y=kV k/\r=valV j k)\/∃j k b,Rd H a (.dT j)/\y=.ref b/\H b=wc (.tup (k.map kV))/\r=valV j k
def DPut(H:Hp)(a:Addr)(y v:V)(l:Hp):Prop:=
 (∃j k,H a=wc (.dK j)/\y=kV k/\j.length<sizeLine/\l=upd H a (.dK (putK j k v)))\/
 ∃j k b,H a=wc (.dT j)/\y=.ref b/\H b=wc (.tup (k.map kV))/\j.length<sizeLine/\l=upd H a (.dT (putK j k v))
theorem DGet.k{k:Key}(e:H a=wc (.dK kvs)):DGet H a (kV k) (valV kvs k):=.inl ⟨kvs,k,.inl e,rfl,rfl⟩
theorem DPut.k{k:Key}(e:H a=wc (.dK kvs))(j:kvs.length<sizeLine):DPut H a (kV k) v (upd H a (.dK (putK kvs k v))):=.inl ⟨kvs,k,e,rfl,j,rfl⟩
section
variable{X:Cx}{pq:List (Addr×Obj)}{σ:St}{H:Hp}{s:X2}{a:Addr}{y v:V}{u r:X0}{o:Option V}{A:Xz}{E:X0->X2->Prop}
def Inv.big(I:Inv X pq σ H s):Z0<s.heap.objs.size:=by
 have h:Xp<s.heap.objs.size:=(I.mod.glob.keeps I.bk).lt;erw[Bd (by decide) h]
def Th(R:A.units+1<cLine)(I:Inv X pq σ H s)(g:DGet H a y (wc v))(O:RelV y u)(h:∀d P,Inv X pq σ H P->RelV v d->Q d P):
  X3 (X8 X.prog X.w) A (getItem (.ref a) u) Q E s:=by
 rcases g with⟨c,k,e,f,l⟩|⟨c,k,b,e,f,T,l⟩
 .subst f;have⟨z,hd,U,j,q⟩:=Vr I.hok e;have⟨d,L,m⟩:=RelO.some_of (v:=v) (o:=Zb U k) (by rw[l];erw[j.val k])
  erw[wpAny_getItem_of (W7 O) q.mapOf L (h d _ (I.tok _) m)]
 .subst f;cases(show u=XB b from O);have⟨z,hd,W,j,q⟩:=WU I.hok e;have⟨d,L,m⟩:=RelO.some_of (v:=v) (o:=(atKey W k).map (·.2)) (by rw[l];erw[j.val k])
  have⟨p,Y,N⟩:=Vl.mp L;erw[wpAny_getItem_heap (AG R) (WT I.hok T) q Y ?_];rw[N];erw[h d _ (I.tok _) m]
def d_in(L:A.units+1<cLine)(I:Inv X pq σ H s)(g:DGet H a y o)(f:RelV y u)(h:∀p,Inv X pq σ H p->Q (.bool o.isSome) p):
  X3 (X8 X.prog X.w) A (Y6 .In u (.ref a)) Q E s:=by
 rcases g with⟨m,k,e,d,l⟩|⟨m,k,b,e,d,N,l⟩
 .subst d;have⟨z,hd,O,j,c⟩:=Vr I.hok e;erw[wpAny_in_of (W7 f) hd c.mapOf ?_];rw[<-(j.val k).isSome_eq,<-l];erw[h _ (I.tok _)]
 .subst d;cases(show u=XB b from f);have⟨z,hd,P,j,c⟩:=WU I.hok e;erw[wpAny_in_heap (AG L) (WT I.hok N) hd c ?_];have q:=(j.val k).isSome_eq;rw[Dj]at q;rw[<-q,<-l];erw[h _ (I.tok _)]
def Ti(L:A.units+1<cLine)(I:Inv X pq σ H s)(g:DGet H a y o)(f:RelV y u)(h:∀p,Inv X pq σ H p->Q (.bool (!o.isSome)) p):
  X3 (X8 X.prog X.w) A (Y6 .NotIn u (.ref a)) Q E s:=by
 rcases g with⟨m,k,e,d,l⟩|⟨m,k,b,e,d,N,l⟩
 .subst d;have⟨z,hd,O,j,c⟩:=Vr I.hok e;erw[wpAny_notIn_of (W7 f) hd c.mapOf ?_];rw[<-(j.val k).isSome_eq,<-l];erw[h _ (I.tok _)]
 .subst d;cases(show u=XB b from f);have⟨z,hd,P,j,c⟩:=WU I.hok e;erw[wpAny_notIn_heap (AG L) (WT I.hok N) hd c ?_];have q:=(j.val k).isSome_eq;rw[Dj]at q;rw[<-q,<-l];erw[h _ (I.tok _)]
def Hq(I:Inv X pq σ H s)(j:Mut (H a))(l:Uk a s.heap h')(m:∃q,h'.get? a=wc q)(new:ObjOk X.prog X.w (upd H a ob) h' a ob):
  Inv X pq σ (upd H a ob) {s with heap:=h',toks:=t'}:=
 I.write (x:=a) (e:=a) j (.inl rfl) (λb q g z=>(l.2 b g).trans z) m new
def DA(z:kvs.length<=sizeLine)(hd:(a==Z0)=wg)(j:KV kvs vs)(l:h'.DictOf (YD P w) a vs):
  ObjOk P w H' h' a (.dK kvs):=⟨z,hd,vs,j,l⟩
def Tj{T:Hp}{Q:Unit->X2->Prop}(D:A.units+1<cLine)(I:Inv X pq σ H s)(g:DPut H a y v T)(U:RelV y u)(W:RelV v r)(h:∀Y,Inv X pq σ T Y->Q () Y):
  X3 (X8 X.prog X.w) A (setItem (.ref a) u r) Q E s:=by
 rcases g with⟨j,k,e,p,l,L⟩|⟨j,k,b,e,p,Z,l,L⟩
 .subst p L;have⟨z,hd,F,m,N⟩:=Dz I.hok e;have O:F.length<=sizeLine:=by rw[<-m.length];erw[z]
  have P:(putK j k v).length<=sizeLine:=by have:=Hm j k v;lia
  erw[wpAny_setItem_pairs (hsz:=O) (W7 U) N λB d R=>h _ ?_];have G:∃q,B.get? a=wc q:=let⟨q,_,_,f,_⟩:=d;⟨q,f⟩
  erw[Hq I (by rw[e];erw[YL]) R G (DA P hd (m.put k W) d)]
 .subst p L;cases(show u=XB b from U);have⟨z,hd,J,m,N⟩:=Tg I.hok e;have O:J.length<=sizeLine:=by rw[<-Paired.length m];erw[z]
  have P:(putK j k v).length<=sizeLine:=by have:=Hm j k v;lia
  erw[wpAny_setItem_heap (hsz:=O) (AG D) (WT I.hok Z) N λB d R=>h _ ?_];have⟨q,M,S,f,i,n,x,_,h5⟩:=d;erw[Hq I (by rw[e];erw[YL]) R ⟨q,f⟩ ⟨P,hd,_,(m.put k Z W).keeps λc ys C=>?_,q,M,S,f,i,n,x,h5⟩]
  rw[XE (Gr C e (λz=>nomatch z))];erw[C]
end
section
variable{X:Cx}{pq:List (Addr×Obj)}{σ:St}{H:Hp}{s:X2}{a:Addr}{kvs:List (Key×V)}{k:Key}{u:X0}{A:Xz}{E:X0->X2->Prop}
def Tk(I:Inv X pq σ H s)(e:Rd H a (.dK kvs))(h:∀t l,Inv X pq σ H l->Q (.int kvs.length t) l):X3 (X8 X.prog X.w) A (call (.builtin "len") [.ref a]) Q E s:=by
 have⟨z,hd,m,j,y⟩:=Vr I.hok e;erw[call_len_dict hd y (by rw[<-j.length];rw[sizeLine_eq]at z;lia) ?_]
 rw[<-j.length];erw[h _ _ (I.tok _)]
end
def Tl(I:Inv X pq σ H s)(g:DGet H a y o):s.TypeIs (.ref a) "dict":=by
 rcases g with⟨j,k,e,_,_⟩|⟨j,k,b,e,_,_,_⟩
 .have⟨_,_,u,_,l⟩:=Vr I.hok e;erw[l.typeIs]
 .have⟨_,_,z,_,l⟩:=WU I.hok e;erw[l.typeIs]
section
variable{X:Cx}{o i e value:Expr}{pos pos' tpos:Pos}{td ty tv:TE}
end
section
variable{X:Cx}{pos:Pos}
end
def Hr:List (TE×TE)->St->Hp->(List (V×V)->Hp->Prop)->Prop
 |[],_,H,Q=>Q [] H
 |(tk,tv)::r,σ,H,Q=>tk σ H λx j=>tv σ j λy l=>Hr r σ l λu z=>Q ((x,y)::u) z
abbrev VV:List (V×V)->List (X0×X0)->Prop:=Paired λp q=>RelV p.1 q.1/\RelV p.2 q.2
def PPs(X:Cx)(u:Pos)(l:List (Option Expr))(j:List Expr)(y:List (TE×TE)):Prop:=
 ∀(m:List (Addr×Obj))(s:X2)(z:St)(H:Hp)(Q:List (V×V)->Hp->Prop),Inv X m z H s->Hr y z H Q->
  X3 (X8 X.prog X.w) X.A (evalPairs (pairTrees l j X.env u)) (λc f=>∃g d,Inv X m z d f/\VV g c/\Q g d) X.xe s
def Tn:PPs X pos [] [] []:=λj s l H Q I h=>pairTrees_nil_walk ⟨[],H,I,.nil,h⟩
def To{X:Cx}{j:Pos}{k v:Expr}{d:List (Option Expr)}{c:List Expr}{f q:TE}{l:List (TE×TE)}(r:PE X k f)(p:PE X v q)(e:PPs X j d c l):
  PPs X j (wc k::d) (v::c) ((f,q)::l):=λz s m H Q I h=>
 pairTrees_cons_walk (thn (r z s m H _ I h) λu L ⟨x,N,O,P,R⟩=>thn (p z L m N _ O R) λG T ⟨y,U,W,Y,Z⟩=>
  thn (e z T m U _ W Z) λJ M ⟨B,C,D,g,F⟩=>⟨(x,y)::B,C,D,.cons ⟨P,Y⟩ g,F⟩)
structure M1 (X:Cx)(o:Expr)(m:Str)(apos:Pos)(e:Expr)(cpos:Pos):Prop where
 base:UI o m X.env (eval o X.env)=eval o X.env
 few:((Y0 cpos (Xx [e] X.env)).all (λx=>!x.1)&&(Ua cpos (Ub [] X.env)).all (λx=>x.1.isSome)
  &&decide (([e]:List Expr).length+([]:List Za).length+(if([]:List Za).isEmpty then 0 else 1)<30))=wf
 line:(apos.endLine==cpos.line)=wf
 trees:Y0 cpos (Xx [e] X.env)=[(wg,eval e X.env)]
structure M2 (X:Cx)(o:Expr)(m:Str)(apos:Pos)(e f:Expr)(cpos:Pos):Prop where
 base:UI o m X.env (eval o X.env)=eval o X.env
 few:((Y0 cpos (Xx [e,f] X.env)).all (λx=>!x.1)&&(Ua cpos (Ub [] X.env)).all (λx=>x.1.isSome)
  &&decide (([e,f]:List Expr).length+([]:List Za).length+(if([]:List Za).isEmpty then 0 else 1)<30))=wf
 line:(apos.endLine==cpos.line)=wf
 trees:Y0 cpos (Xx [e,f] X.env)=[(wg,eval e X.env),(wg,eval f X.env)]
section
variable{X:Cx}{pq:List (Addr×Obj)}{σ:St}{H:Hp}{s:X2}{a:Addr}{y d:V}{u r:X0}{o:Option V}{A:Xz}{E:X0->X2->Prop}
end
section
variable{X:Cx}{o e f:Expr}{apos cpos:Pos}{td ty tx:TE}
end
section
variable{X:Cx}{pq:List (Addr×Obj)}{σ:St}{H:Hp}{s:X2}{a:Addr}{kvs:List (Key×V)}{A:Xz}{E:X0->X2->Prop}
def Tp(I:Inv X pq σ H s)(e:Rd H a (.dK kvs))(h:∀p u,H p=we->Inv X pq σ (upd H p (.dK kvs)) u->Q (.ref p) u):X3 (X8 X.prog X.w) A (call (.type "dict") [.ref a]) Q E s:=by
 have⟨z,hd,d,j,m⟩:=Vr I.hok e;erw[kt_call_dict hd m (by rw[<-j.length];erw[z]) λc l g=>?_]
 erw[h _ _ (I.hok.fresh (X9 _)) (I.laid (a:=s.heap.objs.size) (o:=.dK kvs) (t':=s.toks) (λb q y=>?_) (X9 _) (DA z (beq_eq_false_iff_ne.mpr (XR (XG I.big))) j l))];erw[(g.2 b (XG (Xw y))).trans (Xu _ y)]
end
section
variable{X:Cx}{pq:List (Addr×Obj)}{σ:St}{H:Hp}{s:X2}{a:Addr}{y:V}{u:X0}{A:Xz}{E:X0->X2->Prop}
end
end L2
namespace Att
open PySem PySem.W PySem.Calls PyProof.Rows
def Tq:∀(j:List Int)(l:List X0),WellAll P h l (j.map WData.int)->IntsAre l j:=by
 intro j
 induction j with
 |nil=>
  intro l w;rw[Yb]at w;cases w;erw[.nil]
 |cons n j u=>
  intro l w;rw[Xt]at w;cases w with
  |cons a b=>
   cases a;erw[.cons _ _ (u _ b)]
def Tr{l:OpenLaw}{n:Nat}(N:l.most=wc n){P:Params}{h:Heap}{j:List WData}{w:List X0}
  (y:l.row.toRowW.claim.pre j=wf)(f:WellAll P h w j):
  ∃a e u,w=[XB a]/\j=[WData.list (u.map WData.int)]/\h.get? a=wc {cls:=.type "list",data:=.seq e.toArray}/\IntsAre e u/\u.length<=n:=by
 have p:WShape.hasAll [] j [.list .int]=wf:=(pre_splitW y).1;have L:l.pre.holds [] {args:=j}=wf:=(pre_splitW y).2;have⟨d,r,rfl,O,R⟩:=hasAllW_cons p;obtain rfl:=hasAllW_nil R;have⟨A,rfl,T⟩:=hasW_list O;have⟨u,rfl⟩:=items_int T;have z:u.length<=n:=by
  unfold OpenLaw.pre at L;have g:(WTm.not (.lt (.lit (.int (n:Int))) (.len (.arg 0)))).holds [] {args:=[.list (u.map .int)]}=wf:=by
   have g:=(holds_andW L).1;rw[N]at g;erw[g]
  have c:=condW_of g (w_not (w_lt w_lit (w_len_list (w_arg rfl))));rw[X5]at c;erw[Nat.le_of_not_lt λq=>?_];have U:(n:Int)<((u.length:Nat):Int):=by lia
  first
   |(rw[decide_eq_true U]at c;erw[absurd c (by decide)])
   |(simp at c;lia)
 cases f with
 |cons W Y=>
  cases Y;cases W with
  |list Z m=>erw[⟨_,_,u,rfl,rfl,Z,Tq u _ m,z⟩]
def Ts(l:OpenLaw)(j:List WData):l.row.toRowW.claim.post j (.bool wf) j=wf:=
 postW_of (r:=l.row.toRowW) (X:=(wf==wf))
  (show WShape.has [] (.bool wf) .bool=wf by first|rfl|decide|simp[WShape.has,WShape.arms,WShape.armsAll])
  (show(WTm.eq .res (.lit (.bool wf))).value [] {args:=j,res:=wc (.bool wf),after:=j}=wc (.bool (wf==wf))from w_eq_bool (w_res rfl) w_lit) rfl
def attach_call{l:OpenLaw}{n:Nat}{q:Xr}{u:List Str}{C:(Str->Option X0)->Heap->Prop}{D:Xl->Heap->Prop}{d:DefRec}
  (M:l.most=wc n)(T:d.params.defaults=[])
  (call:∀(w:Xl)(y j:X2)(N U:Str->Option X0)(c:Addr)(o:Obj)(W O z:X0)(a:Addr)(g:List X0)(P:List Int),
   Ground q u [] C w y N U j.heap->D w j.heap->
   j.heap.get? c=wc o->o.data=.func (docDef d.name d.params d.body d.scope W O z)->j.heap.CodeRec O d.name->N d.name=wc (.ref c)->
   j.heap.get? a=wc {cls:=.type "list",data:=.seq g.toArray}->IntsAre g P->P.length<=n->j.gens=#[]->
   YJ (X8 l.prog w) callerA (.call (.ref c) ⟨[.ref a],[]⟩) (λr R=>r=.ok (.ret (.bool wf))/\OldK j.heap R.heap/\R.os=j.os/\AllBare R.gens) j):
  WalkO q u C D l.row.toRowW d [] (λf g=>PySem.call f g):=by
 intro w y j N U G Y c o W O z Q kV S hd Z E A X F I as p J H B v;obtain rfl:Q=.none:=Dflts.none E T;obtain rfl:kV=.none:=Dflts.noKw E;have⟨a,g,P,rfl,rfl,e,m,L⟩:=Tr M p B;erw[enter_call (VC (call w y j N U c o W O z a g P G Y S (fd_plain hd) Z A e m L X) λr R s=>?_)];have⟨rfl,i,x,h⟩:=s;erw[⟨.inl ⟨.bool wf,.bool wf,[],rfl,λ_=>rfl,.bool wf,Ts l _,λ_=>⟨List.Pairwise.nil,λ_ b=>(nomatch b)⟩⟩,i,x,h⟩]
section
variable{prog:Xr}{w:Xl}{A:Xz}{E:X0->X2->Prop}{s:X2}{K:Frag}
noncomputable def ledger(h:Heap)(L d:Addr):List (Addr×Obj):=(Xq h.objs.size).filterMap λa=>if a=L\/a=d then we else(h.get? a).map λo=>(a,o)
end
end Att
namespace L2
open PySem PySem.Spec PyProof.Rows
theorem Hs:∀{j:List X0} {l:List Int},IntsAre j l->Vals (l.map V.int) j
 |_,_,.nil=>.nil
 |_,_,.cons n t h=>.cons ⟨t,rfl⟩ (Hs h)
noncomputable def Only(H:Hp):Prop:=∀b,H b=we\/∃o j,H b=wc (.frz o (.lst j))
def Tt{K:X4}{k:Nat}
  (M:K.In s₁.heap)(L:s₁.heap.Ns Xp mg)(l:s₁.heap.Ns builtinsNs mb)(C:∀x:Str,x≠"__name__"->mb x=YI x)(N:s₁.heap.NoLimit)(hg:s₁.gens=#[])
  (B:s₁.heap.get? a=wc {cls:=.type "list",data:=.seq vs.toArray})(Q:IntsAre vs ns)(S:ns.length<=sizeLine)(hr:Room k callerA)
  (F:∀y:Heap,K.In y->y.Ns Xp mg->FnOk P w K mg y CX k fa fd [x] sp)(p:∀(s:X2)(u:X0),BindsTo s fd ⟨[u],[]⟩ [(x,u)])
  (D:∀H:Hp,Only H->SqL K H a (ns.map V.int)->sp [.ref a] H (λv _=>v=.bl wf) λ_ _ _=>False)
  (E:∀H e g,CX [] H s₁ (λ_ _ _=>False) e g->False):
  YJ (X8 P w) callerA (.call (.ref fa) ⟨[.ref a],[]⟩) (λr g=>r=.ok (.ret (.bool wf))/\OldK s₁.heap g.heap/\g.os=s₁.os/\AllBare g.gens) s₁:=by
 have X:=Hs Q;have O:=Q.length;have f:∀H:Hp,Only H->SqL K H a (ns.map V.int)->HOk P w H s₁.heap->(∀b,H b≠we->b=a)->(H a≠we->K.lookup a=we)->
   YJ (X8 P w) callerA (.call (.ref fa) ⟨[.ref a],[]⟩) (λr g=>r=.ok (.ret (.bool wf))/\OldK s₁.heap g.heap/\g.os=s₁.os/\AllBare g.gens) s₁:=by
  intro H i hS R hA hK;have j:∀{b:Addr} {o:Obj},s₁.heap.get? b=wc o->H b=we->(hidT s₁.heap H).get? b=wc o:=λe n=>R8 e n;have G:∀{b:Addr} {o:Obj} {T:Array DictEntry} {U:Nat},s₁.heap.get? b=wc o->o.data=.dict T U->H b=we:=fun{b o T U} e d=>by
   cases q:H b with
   |none=>rfl
   |some u=>
    have I:b=a:=hA b (by rw[q];simp)
    subst I;rw[B]at e;cases e;have d':Data.seq vs.toArray _=Data.dict T U:=d;cases d'
  have c:∀{b:Addr} {m:Str->Option X0},s₁.heap.Ns b m->(hidT s₁.heap H).Ns b m:=fun{b m} ⟨o,T,U,e,d,r⟩=>⟨o,T,U,j e (G e d),d,r⟩;have W:K.In (hidT s₁.heap H):=λb o e=>j (M b o e) (by
   cases q:H b with
   |none=>rfl
   |some u=>
    have I:b=a:=hA b (by rw[q];simp)
    subst I;rw[hK (by rw[q];simp)]at e;cases e)
  have hM:Mod K mg (hidT s₁.heap H):=⟨W,c L,⟨mb,c l,C⟩,let⟨mc,h1,h2⟩:=N;⟨mc,c h1,h2⟩⟩
  have e0:Env0 P w K mg (hidT s₁.heap H) callerA [] s₁ H:=⟨rfl,hM,λb o e=>R9 e,WH (R7 _ _),trivial,λb l=>absurd (show b∈([]:List Addr)from l) (by simp),R,.of_eq hg⟩
  erw[VC ((F _ W (c L)).run callerA [] s₁ H ⟨[.ref a],[]⟩ [.ref a] [.ref a] _ _ hr e0 (p s₁ (.ref a)) (.cons rfl .nil) (D H i hS)) λr g h=>?_];cases r with
  |error e=>erw[(E H e g h).elim]
  |ok fl=>
   cases fl with
   |next=>erw[Y7 h]
   |brk=>erw[Y7 h]
   |cont=>erw[Y7 h]
   |ret u=>
    have⟨v,H',os,Y,un,Z,r',q⟩:=h;have q':v=.bl wf:=q;subst q';obtain rfl:u=UP wf:=r';erw[⟨rfl,OldK.of_keep λb o e=>?_,os,Y⟩];cases q:H b with
    |none=>erw[un.keep b o e q (by intro z;erw[absurd (show b∈([]:List Addr)from z) (by simp)]) (by simp)]
    |some u=>
     rcases i b with z|⟨ob,xs,z⟩
     .rw[q]at z;cases z
     .have z2:=un.frzs b ob _ z;have⟨e1,_⟩:=R b _ z;have⟨e2,_⟩:=Z b _ z2;rw[e]at e1;cases e1;erw[e2]
 cases J:K.lookup a with
 |some o=>
  have e:=M a o J;rw[B]at e;cases e;erw[f (λ_=>we) (λ_=>.inl rfl) (.inr ⟨_,vs.toArray,_,J,rfl,rfl,rfl,by rw[XN,O];erw[S],by simpa using X⟩) (λb u z=>by have A:(we:Option HO)=wc u:=z;cases A) (λb z=>absurd rfl z) λz=>absurd rfl z]
 |none=>
  erw[f (fun b=>if b=a then wc (.frz {cls:=.type "list",data:=.seq vs.toArray} (.lst (ns.map V.int)))else we) (fun b=>?_) (.inl (.inr ⟨{cls:=.type "list",data:=.seq vs.toArray},if_pos rfl⟩)) (fun b u z=>?_) (fun b z=>?_) fun _=>J]
  .by_cases l:b=a
   .erw[.inr ⟨_,_,if_pos l⟩]
   .erw[.inl (if_neg l)]
  .by_cases l:b=a
   .have A:=(if_pos l).symm.trans z;cases A;subst l;erw[⟨B,by rw[X5];erw[S],vs,_,X,B⟩]
   .have A:=(if_neg l).symm.trans z;cases A
  .by_cases l:b=a
   .erw[l]
   .erw[absurd (if_neg l) z]
noncomputable abbrev KOf{K:X4}{h:Heap}(_:K.In h):X4:=K
def walk_of{l:Da}{n k:Nat}{q:Xr}{z:List Str}{I:(Str->Option X0)->Heap->Prop}{Z:Xl->Heap->Prop}{d:DefRec}{K:Params->X4}{A:Xl->CXT}{B:Xl->Sp}{x:Str}
  (J:l.most=wc n)(N:n<=sizeLine)(O:d.params.defaults=[])(M:Room k callerA)
  (Q:∀(w:Xl)(h:Heap),Z w h->(K w.params).In h)
  (F:∀(w:Xl)(g:Str->Option X0)(p:Addr)(h:Heap),(K w.params).In h->h.Ns Xp g->g d.name=wc (.ref p)->
   ∃P:Zk,(∀(s:X2)(u:X0),BindsTo s P ⟨[u],[]⟩ [(x,u)])/\
    ∀j:Heap,(K w.params).In j->j.Ns Xp g->FnOk l.prog w (K w.params) g j (A w) k p P [x] (B w))
  (R:∀(w:Xl)(H:Hp)(a:Addr)(L:List Int),L.length<=n->Only H->SqL (K w.params) H a (L.map V.int)->B w [.ref a] H (λv _=>v=.bl wf) λ_ _ _=>False)
  (T:∀(w:Xl)(H:Hp)(s:X2)(e:X0)(U:X2),A w [] H s (λ_ _ _=>False) e U->False):
  PySem.W.WalkO q z I Z l.row.toRowW d [] (λf C=>PySem.call f C):=by
 erw[Att.attach_call J O λw D c g mb p o pm cd S a C L G Y ho hd X W r m y i=>?_];have E:=Q w _ Y;have⟨P,b,hF⟩:=F w g p _ E G.T.g W;erw[Tt E G.T.g G.T.b G.T.builtins G.T.nolimit i r m (Xv y N) M hF b (λH hO hS=>R w H a L y hO hS) λH e U=>T w H c e U]
end L2
/- THE LAST THEOREM (shape;LID,My.*are yours):
  My.Adr:a structure of the addresses that your layer names (classes,functions);My.Txt K t:a structure(Prop) of the equations over K;
  My.txt_mk:{K} {implicit addresses ..} (e1:nsIn K Xp "law"=some (some (.ref f))) (e2:K.lookup f=some ⟨oc,od,.func (fnOf "law" "law" params body scope dV kV doc pm an cdv ct),sl⟩) (e3:codeIn K cdv "law"=true) ..:∃t,My.Txt K t
set_option maxRecDepth 100000 in
set_option maxHeartbeats 0 in
theorem PySem.Challenge.cw_LID_holds : PySem.Challenge.rw_LID.Holds := by
 w_on;o_law;k_head;(case hw=>w_witness2)
 k_fill
 refine L2.walk_of (l:=PySem.Challenge.rw_LID) (n:=63) (k:=40) (x:="script") (CX:=fun w=>..) (sp:=fun _=>My.sp_law) rfl (by decide) rfl ⟨rfl,by decide,by decide⟩ (fun w h Y=>PySem.W.kIn_of Y) ?F ?S ?C
 case F=>
  intro w mg fa h KX G hmg;have T:∃t,My.Txt (L2.KOf KX) t:=by
   dsimp only[L2.KOf] -- K must stand as «<heap const> w.params» for k_is
   refine' My.txt_mk ?e1 ?e2 ?e3 ..
   (case e1=>PySem.W.k_is) -- in the order:a name->its address->its object->its parts
   (case e2=>PySem.W.k_is)
   ..
  obtain⟨t,T⟩:=T;have e0:=hmg.symm.trans (B7 KX G T.law);cases e0 -- fa is the law's own address
  exact⟨_,λs u=>.of_eq rfl,λbase kb nb=>My.law_fn T kb nb⟩ -- if «.of_eq rfl» comes too early:refine' ⟨_,?b,λbase kb nb=>My.law_fn T kb nb⟩;exact λs u=>.of_eq rfl
 case S=>exact λw H a ns hl hO hS=>..
 case C=>exact ..
(the tactic k_is has no namespace:write k_is) -/
namespace L2
open PySem PySem.Spec PyProof.Rows
noncomputable def Zg(s:Stmt)(j:Nat):Stmt:=match s with
 |.ClassDef _ _ _ body _ _ _ _ _ _ _=>body.getD j (.Pass ⟨0,0,0,0⟩)
 |_=>.Pass ⟨0,0,0,0⟩
noncomputable def Ut(s:Stmt):Arguments:=match s with
 |.FunctionDef _ a _ _ _ _ _ _ _ _=>a
 |_=>{posonlyargs:=[],args:=[],vararg:=we,kwonlyargs:=[],kw_defaults:=[],kwarg:=we,defaults:=[]}
noncomputable def Ys(s:Stmt):List Stmt:=match s with
 |.FunctionDef _ _ b _ _ _ _ _ _ _=>b
 |_=>[]
noncomputable def XT(s:Stmt):Scope:=match s with
 |.FunctionDef _ _ _ _ _ _ sc _ _ _=>sc
 |_=>{kind:=.function,names:=[],isGenerator:=wg,isCoroutine:=wg}
noncomputable abbrev CX0:CXT:=λ_ _ _ _ _ _=>False
noncomputable abbrev E0:XK:=λ_ _ _=>False
def BH{X:Cx}:Vq CX0 X E0:=λ_ _ _ _ _ _ _ h=>h.elim
structure Fun (K:X4)(x qual:Str)(st:Stmt)(f:Addr)(fd:Zk):Prop where
 ex:∃(oc:X0) (od:Option Addr) (kV doc pm:X0) (an:Option Addr) (cdv ct:X0) (osl:Array (Option X0)),
  fd=ZH x qual (Ut st) (Ys st) (XT st) .none kV doc pm an cdv ct/\K.lookup f=wc ⟨oc,od,.func fd,osl⟩/\B5 K cdv qual=wf
 kp:Zq K (.ref f)=wf
section
variable{P:Xr}{w:Xl}{K:X4}{mg:Str->Option X0}{base:Heap}
def Fun.ok{st:Stmt}{k:Nat}(F:Fun K x qual st f fd)(S:FnScope N ps (XT st))(len:∀vs H Q E,sp vs H Q E->vs.length=ps.length)
  (u:∀(l:X0)(A:Xz)(j:List Env)(s:X2)(H:Hp)(vs:List V)(Q:VK)(E:XK),Room k (A.deeper (envOfC qual (XT st) s.heap.objs.size f l))->sp vs H Q E->
   ∃t,PSs (cxOf CX0 P w K mg base N qual (XT st) f l A j s H E).nox (Ys st) t/\t {nx:=λ_ m=>Q .non m,rt:=Q} (start N vs) H):FnOk P w K mg base CX0 (k+1) f fd ps sp:=by
 have⟨p,e,kV,g,L,O,l,R,d,rfl,c,y⟩:=F.ex;erw[SI c y S len λA j s H vs Q E r z=>?_];have⟨t,h,q⟩:=u l A j s H vs Q E r z;erw[⟨t,h.nox,q⟩]
def Fun.binds{st:Stmt}(F:Fun K x qual st f fd)
  (h:∀(kV j u:X0)(y:Option Addr)(l z:X0)(m:List X0),m.length=ps.length->bindArgs (ZH x qual (Ut st) (Ys st) (XT st) .none kV j u y l z) ⟨m,[]⟩=pure (ps.zip m)):Binds K fd ps []:=by
 have⟨c,q,kV,j,u,y,l,z,g,rfl,r,d⟩:=F.ex;erw[.all (h kV j u y l z)]
def fun_mk{st:Stmt}{kV:X0}(l:K.lookup f=wc ⟨oc,od,.func (ZH x qual (Ut st) (Ys st) (XT st) .none kV doc pm an cdv ct),osl⟩)
  (c:B5 K cdv qual=wf)(k:Zq K (.ref f)=wf):Fun K x qual st f (ZH x qual (Ut st) (Ys st) (XT st) .none kV doc pm an cdv ct):=⟨⟨oc,od,kV,doc,pm,an,cdv,ct,osl,rfl,l,c⟩,k⟩
end
section
variable{X:Cx}
def pv(i:Nat)(l:X.N[i]?=wc x:=by rfl)(u:Vis X.env.scope x:=by first|erw[Or.inl rfl]|erw[Or.inr (Or.inl rfl)]|erw[Or.inr (Or.inr rfl)])(hd:(x==("__debug__":Str))=wg:=by decide)
  (j:(x==("__classdict__":Str))=wg:=by decide):PE X (.Name x pos) (tVar i):=Gx l u hd j
end
noncomputable def Same(H j:Hp):Prop:=∀b o,H b=wc o->j b=wc o
section
variable{X:Cx}
def Tu:YM X (.builtin "len") (fun l H Q=>∃a j,l=[V.ref a]/\H a=wc (.dK j)/\Q (.int j.length) H):=by
 intro m s g H l d Q I r h;have⟨a,j,rfl,w,q⟩:=h;have⟨u,rfl,y⟩:=_N r;cases y;erw[Tk I (.inl w) λt c z=>⟨.int j.length,H,z,⟨t,rfl⟩,q⟩]
end
section
variable{κ:Type} [DecidableEq κ]
theorem Ht:∀{l:List κ} {k:κ},l.Nodup->¬k∈l->(l++[k]).Nodup
 |[],k,_,_=>by simp
 |a::r,k,h,hk=>by
  have⟨j,u⟩:=Yc.mp h;show(a::(r++[k])).Nodup;erw[Yc.mpr ⟨λm=>?_,Ht u λm=>hk (Xj.mpr (Or.inr m))⟩];rcases Yo.mp m with q|q
  .erw[j q]
  .erw[hk (Xj.mpr (Or.inl (Ye.mp q).symm))]
end
section
variable{X:Cx}
noncomputable def WV(i j:Int):Prop:=0<j/\j<2^256
def Tv(h:WV i j):j.natAbs.log2<9000:=by
 have u:(0:Int)<j:=h.1;have w:j<2^256:=h.2;have l:j.natAbs≠0:=by lia
 have:j.natAbs<2^256:=by lia
 have:=(Nat.log2_lt l).mpr this;lia
def Tw:OpR X (Yq .FloorDiv) (rI WV λi j=>.int (i/j)):=opI λi j _ _ _ _ _ l q=>by
 have u:(0:Int)<j:=l.1;erw[floordiv_int (by lia) (by rw[Int.fdiv_eq_ediv_of_nonneg i (by lia)];erw[q]) (.inl (PyProof.noPylong_of_log2 (Tv l)))]
def Tx:YM X (.builtin "isinstance") (fun l H Q=>∃x c t b,l=[x,.ty c]/\TyOf X.K H x t/\Vg X.K t (.type c)=wc b/\Q (.bl b) H):=by
 intro z s m H l g Q I r h;have⟨x,c,t,b,rfl,ty,e,q⟩:=h;have⟨u,d,rfl,w,j⟩:=WO r;cases j;erw[Su I w ty e λy=>⟨.bl b,H,I.tok y,rfl,q⟩]
end
section
variable{X:Cx}{pq:List (Addr×Obj)}{σ:St}{H:Hp}{s:X2}
end
section
variable{X:Cx}
end
end L2
namespace L2
end L2
namespace L2
open PySem PySem.Spec PyProof.Rows
noncomputable def clOf(j:List (Str×Addr)):List (Str×Zl)->List (Str×Addr)->List (Str×Addr)
 |[],acc=>acc
 |(n,k)::r,acc=>if k=.free then(match j.lookup n with|wc a=>clOf j r ((n,a)::acc)|we=>clOf j r acc)else clOf j r acc
theorem WW(j:List (Str×Addr)):∀(u:List (Str×Zl))(l:List (Str×Addr))(x:Str)(c:Addr),(clOf j u l).lookup x=wc c->l.lookup x=wc c\/j.lookup x=wc c
 |[],l,x,c,h=>.inl h
 |(n,k)::r,l,x,c,h=>by
  unfold clOf at h;by_cases hk:k=.free
  .rw[if_pos hk]at h;cases w:j.lookup n with
   |none=>rw[w]at h;erw[WW j r l x c h]
   |some a=>
    rw[w]at h;rcases WW j r _ x c h with q|q
    .by_cases hx:x=n
     .subst hx;simp at q;subst q;erw[.inr w]
     .have y:(x==n)=wg:=beq_eq_false_iff_ne.mpr hx;simp only[ZE,y]at q;erw[.inl q]
    .erw[.inr q]
  .rw[if_neg hk]at h;erw[WW j r l x c h]
theorem BJ(j:List (Str×Addr)):∀(u:List (Str×Zl))(l:List (Str×Addr))(x:Str)(c:Addr),j.lookup x=wc c->l.lookup x=wc c->(clOf j u l).lookup x=wc c
 |[],l,x,c,_,h=>h
 |(n,k)::r,l,x,c,h,ha=>by
  unfold clOf;by_cases hk:k=.free
  .rw[if_pos hk];cases w:j.lookup n with
   |none=>erw[BJ j r l x c h ha]
   |some a=>
    erw[BJ j r _ x c h ?_];by_cases hx:x=n
    .subst hx;rw[h]at w;cases w;simp
    .have y:(x==n)=wg:=beq_eq_false_iff_ne.mpr hx;simp only[ZE,y];erw[ha]
  .rw[if_neg hk];erw[BJ j r l x c h ha]
theorem WX(j:List (Str×Addr)):∀(l:List (Str×Zl))(u:List (Str×Addr))(x:Str)(c:Addr),(x,Yp)∈l->j.lookup x=wc c->(clOf j l u).lookup x=wc c
 |[],u,x,c,h,_=>by cases h
 |(n,k)::r,u,x,c,h,ha=>by
  unfold clOf;rcases Xj.mp h with e|h
  .cases e;rw[if_pos rfl,ha];erw[BJ j r _ _ c ha (by simp)]
  .by_cases hk:k=.free
   .rw[if_pos hk];cases w:j.lookup n with
    |none=>erw[WX j r u x c h ha]
    |some a=>erw[WX j r _ x c h ha]
   .rw[if_neg hk];erw[WX j r u x c h ha]
theorem DB(f:Str×Zl->List (Str×Addr)->Sem (ForInStep (List (Str×Addr))))
  (w:∀n k r,f (n,k) r=if(k==Yp)=wf then(cellOf env n >>= λa=>pure (Bx ((n,a)::r)))else pure (Bx r)):
  ∀(j:List (Str×Zl))(l:List (Str×Addr)),(∀y∈j,y.2=.free->∃c,env.cells.lookup y.1=wc c)->(forIn j l f:Sem (List (Str×Addr)))=pure (clOf env.cells j l)
 |[],l,_=>by rw[List.forIn_nil];rfl
 |(n,k)::r,l,h=>by
  rw[List.forIn_cons,w];have z:∀y∈r,y.2=.free->∃c,env.cells.lookup y.1=wc c:=λy m=>h y (XJ _ m);by_cases hk:k=.free
  .subst hk;have⟨c,g⟩:=h (n,.free) Y2 rfl;have u:env.cells.lookup n=wc c:=g;have e:cellOf env n=pure c:=by unfold cellOf;rw[u]
   rw[if_pos (by decide),e,pure_bind,pure_bind]
   show forIn r ((n,c)::l) f=_;rw[DB f w r _ z];simp only[clOf,if_pos,u]
  .have d:(k==Yp)=wg:=by simpa using hk
   rw[d,if_neg XD,pure_bind];show forIn r l f=_;rw[DB f w r _ z];simp only[clOf,if_neg hk]
def Hu(h:∀y∈scope.names,y.2=.free->∃c,env.cells.lookup y.1=wc c):closureFor scope env=pure (clOf env.cells scope.names []):=by
 unfold closureFor;simp only[bind_pure];erw[DB _ (λn k r=>by
  by_cases hk:(k==Yp)=wf
  .simp only[hk,if_true]
  .simp only[hk,if_false]) scope.names [] h]
noncomputable def W8(l j:Scope)(N own:List Str)(fr:List Nat):Bool:=
 decide (j.kind=.function)&&j.names.all (λy=>decide (y.2≠.cell))&&j.names.all (λy=>decide (y.2=.local->j.names.lookup y.1=wc .local))&&
 j.names.all (λy=>decide (y.2=.free->l.names.lookup y.1=wc .cell\/l.names.lookup y.1=wc .free))&&
 fr.all (λi=>match N[i]? with|wc x=>decide ((x,Yp)∈j.names/\j.names.lookup x=wc .free/\(l.names.lookup x=wc .cell\/l.names.lookup x=wc .free))|we=>wg)
structure CompOk (osc scope:Scope)(N:List Str)(fr:List Nat):Prop where
 kind:scope.kind=.function
 nocell:∀y∈scope.names,y.2≠.cell
 names:∀y∈scope.names,y.2=.local->scope.names.lookup y.1=wc .local
 has:∀y∈scope.names,y.2=.free->osc.names.lookup y.1=wc .cell\/osc.names.lookup y.1=wc .free
 frees:∀i∈fr,∃x,N[i]?=wc x/\(x,Yp)∈scope.names/\scope.names.lookup x=wc .free/\(osc.names.lookup x=wc .cell\/osc.names.lookup x=wc .free)
def W9{l j:Scope}{N own:List Str}{fr:List Nat}(h:W8 l j N own fr=wf):CompOk l j N fr:=by
 unfold W8 at h;simp only[XQ,AV,decide_eq_true_eq]at h;have⟨⟨⟨⟨u,w⟩,y⟩,z⟩,m⟩:=h;erw[⟨u,w,y,z,λi g=>?_⟩];have q:=m i g;cases e:N[i]? with
 |none=>rw[e]at q;simp at q
 |some x=>rw[e]at q;simp only[decide_eq_true_eq]at q;erw[⟨x,rfl,q⟩]
noncomputable def sC(own:List Str)(fr:List Nat)(j:St):St:=own.map (λ_=>we)++fr.map (λi=>j.getD i we)
noncomputable def nC(own:List Str)(fr:List Nat)(N:List Str):List Str:=own++fr.map (λi=>N.getD i VY)
def cxC(X:Cx)(j:Scope)(own:List Str)(fr:List Nat)(C:Addr)(w:List Addr)(l:X2)(u:Hp):Cx:=
 {X with N:=nC own fr X.N,s₀:=l,H₀:=u,env:=compEnvC j (clOf X.env.cells j.names []) C X.env,outer:=X.stack,ex:=w,fn:=λ_=>wg,xe:=λ_ _=>False}
noncomputable def Keep(l j:St):Prop:=l.length=j.length/\∀(i:Nat)(v:V),l[i]?=wc (wc v)->j[i]?=wc (wc v)
noncomputable def tAll:TT:=λ_ H Q=>Q wf H
def PTs(X:Cx)(j:List Expr)(t:TT):Prop:=(j=[]/\t=tAll)\/∃c,j=[c]/\PT X c t
section
variable{prog:Xr}{w:Xl}{A:Xz}{R:Result->X2->Prop}{s:X2}
def Tz(I:Nat->X2->Prop)
  (turn:∀n s,I n s->X3 (X8 prog w) A (Z1 it) (λr j=>match r with
   |we=>R (.ok .next) j
   |wc v=>X3 (X8 prog w) A (AD target it v) (λ_ l=>X3 (X8 prog w) A (assign target env v) (λ_ z=>
     X3 (X8 prog w) A (forIn ifs wf λc r=>if r=wf then do let ok<- isTrue c env (eval c env);pure (Bx ok)else pure (Bx r)) (λok u=>
      if ok=wf then X3 (X8 prog w) A (eval elt env) (λx g=>
       X3 (X8 prog w) A (call (.builtin "list.append") [acc,x]) (fun _ d=>∃m,m<n/\I m d) (fun _ _=>False) g) (fun _ _=>False) u
      else∃m,m<n/\I m u) (λ_ _=>False) z) (λ_ _=>False) l) (λ_ _=>False) j) (λ_ _=>False) s)
  (n:Nat)(h:I n s):
  YJ (X8 prog w) A (.compLoop (.ListComp elt [⟨target,iter,ifs,0⟩] scope pos) 0 it acc env) R s:=by
 erw[codeAny_loop rfl I (λn s O=>?_) n h];show X3 _ A ((compTurn (.ListComp elt [⟨target,iter,ifs,0⟩] scope pos) 0 it acc env).onRaise (λx=>do noteFrame x env;theTreesLotGoes x)) _ _ s
 erw[wpAny_noted ?_];rw[compTurn_list];erw[X1 (wpAny_standAt (X1 (ZR (turn n s O) (λr j f=>?_) λ_ _ y=>y.elim)))];cases r with
 |none=>erw[Xa f]
 |some v=>
  erw[X1 (ZR f (λ_ l p=>?_) λ_ _ y=>y.elim)];erw[X1 (ZR p (λ_ z e=>X1 (ZR e (λok u q=>?_) λ_ _ y=>y.elim)) λ_ _ y=>y.elim)];cases ok with
  |false=>erw[Xa ⟨rfl,q⟩]
  |true=>
   erw[X1 (X1 (ZR q (λx g L=>X1 (ZR L (λ_ d N=>Xa (Xa ⟨rfl,N⟩)) λ_ _ y=>y.elim)) λ_ _ y=>y.elim))]
end
def TB(h:Q wf H):tAll σ H Q:=h
section
variable{X:Cx}{pq:List (Addr×Obj)}{σ:St}{H1:Hp}{s2:X2}{tg elt iter:Expr}{ifs:List Expr}{scope:Scope}{pos:Pos}{own:List Str}{fr:List Nat}{g:TG}{tt:TT}{te:TE}
theorem Hv{scope:Scope}{j:Env}{x:Str}:∀{l:List (Str×Zl)},l.lookup x=wc .free->
  (l.map fun(n,k)=>if(k==Yp&&j.scope.kind==.function&&j.kindOf n==wc .cell)then(n,VT)else(n,k)).lookup x=wc .cell\/
  (l.map fun(n,k)=>if(k==Yp&&j.scope.kind==.function&&j.kindOf n==wc .cell)then(n,VT)else(n,k)).lookup x=wc .free
 |[],h=>by simp at h
 |(n,k)::r,h=>by
  have w:=@Hv scope j x r;show Uf x ((if(k==Yp&&j.scope.kind==.function&&j.kindOf n==wc .cell)=wf then(n,VT)else(n,k))::_)=_\/Uf x ((if(k==Yp&&j.scope.kind==.function&&j.kindOf n==wc .cell)=wf then(n,VT)else(n,k))::_)=_;cases u:x==n with
  |true=>
   simp only[ZE,u]at h;cases h;by_cases hc:(Yp==Yp&&j.scope.kind==.function&&j.kindOf n==wc .cell)=wf
   .rw[if_pos hc];simp only[ZE,u];erw[.inl trivial]
   .rw[if_neg hc];simp only[ZE,u];erw[.inr trivial]
  |false=>
   simp only[ZE,u]at h;by_cases hc:(k==Yp&&j.scope.kind==.function&&j.kindOf n==wc .cell)=wf
   .rw[if_pos hc];simp only[ZE,u];erw[w h]
   .rw[if_neg hc];simp only[ZE,u];erw[w h]
theorem Hw{scope:Scope}{j:Env}(z:∀y∈scope.names,y.2≠.cell){x:Str}:∀{l:List (Str×Zl)},(∀y∈l,y.2≠.cell)->
  ((l.map fun(n,k)=>if(k==Yp&&j.scope.kind==.function&&j.kindOf n==wc .cell)then(n,VT)else(n,k)).lookup x=wc .cell\/
  (l.map fun(n,k)=>if(k==Yp&&j.scope.kind==.function&&j.kindOf n==wc .cell)then(n,VT)else(n,k)).lookup x=wc .free)->(x,Yp)∈l
 |[],_,h=>by simp at h
 |(n,k)::r,hnc,h=>by
  have w:=@Hw scope j z x r (λy m=>hnc y (XJ _ m));have d:k≠.cell:=hnc (n,k) Y2;simp only[Xt]at h;cases u:x==n with
  |true=>
   have e:x=n:=eq_of_beq u;subst e;by_cases hc:(k==Yp&&j.scope.kind==.function&&j.kindOf x==wc .cell)=wf
   .have:k=.free:=by
     simp only[XQ,beq_iff_eq]at hc;erw[hc.1.1]
    subst this;erw[Y2]
   .rw[if_neg hc]at h;simp at h;rcases h with h|h
    .erw[absurd h d]
    .subst h;erw[Y2]
  |false=>
   by_cases hc:(k==Yp&&j.scope.kind==.function&&j.kindOf n==wc .cell)=wf
   .rw[if_pos hc]at h;simp only[ZE,u]at h;erw[XJ _ (w h)]
   .rw[if_neg hc]at h;simp only[ZE,u]at h;erw[XJ _ (w h)]
def TC(ok:CompOk X.env.scope scope X.N fr)(f:Inv X pq σ H3 s3)(R:C=s3.heap.objs.size)(T:∀b∈fp,FpOk X pq H3 b)(W:∀b∈fp,∃o,s3.heap.get? b=wc o)
  (F:h4.Ns C m)(O:∀b o,s3.heap.get? b=wc o->h4.get? b=wc o):
  Inv (cxC X scope own fr C fp s3 H3) pq (sC own fr σ) H3 {s3 with heap:=h4,toks:=tk}:=by
 have l:∀x c,(clOf X.env.cells scope.names []).lookup x=wc c->X.env.cells.lookup x=wc c:=λx c h=>(WW _ _ _ _ _ h).elim (λz=>by simp at z) id
 have Y:∀x c,X.env.cells.lookup x=wc c->c<s3.heap.objs.size:=λx c e=>by have⟨v,q⟩:=f.cell x c e;erw[q.lt]
 have P:∀b∈fp,b<s3.heap.objs.size:=λb L=>by have⟨o,e⟩:=W b L;erw[Xw e]
 have r:∀x,(X.env.scope.names.lookup x=wc .cell\/X.env.scope.names.lookup x=wc .free)->∃c,X.env.cells.lookup x=wc c:=λx h=>f.ok.has x h;erw[⟨⟨f.ok.mod,ok.kind,f.ok.glob,f.ok.blt,WH R.symm,λx y c G I=>f.ok.inj x y c (l x c G) (l y c I),λx J=>?_,λx c z=>?_,f.ok.hd,f.ok.frames,.inl rfl,λb L=>⟨?_,λx c e=>?_⟩,λb o e=>f.bs b o e,Xv f.ok.bsz f.sz,λb o e L=>?_,λb L M=>?_,f.stack,λb L=>f.stkFree b L⟩,
  rfl,f.bare,Un.kept O,⟨m,F,λi x v Q S e3=>?_⟩,λx c e=>?_,?_,λx c e=>f.freeC x c (l x c e),λp H=>?_,f.hok.kept O,?_⟩]
 . -- has
  have U:(x,Yp)∈scope.names:=Hw (scope:=scope) (j:=X.env) ok.nocell ok.nocell J;have⟨c,Z⟩:=r x (ok.has _ U rfl);erw[⟨c,WX _ _ _ _ _ U Z⟩]
 .erw[absurd z XD]
 .erw[XG (by rw[R];erw[P b L])]
 .erw[(T b L).2.2.2.2.1 x c (l x c e)]
 .rcases(T b L).2.2.2.1 with z|z
  .erw[f.ok.noex b o e z]
  .erw[absurd (YA (Xw e) (Xv f.ok.bsz z)) (Ze _)]
 .rcases Xj.mp (f.stkSub b M)with z|z
  .erw[(T b L).2.1 z]
  .erw[(T b L).2.2.1 z]
 . -- a free name's value
  have w:(own.map (λ_=>(we:Option V))++fr.map (λi=>σ.getD i we))[i]?=wc (wc v):=S;have N:(own++fr.map (λi=>X.N.getD i VY))[i]?=wc x:=Q;by_cases hi:i<own.length
  .rw[ZA (by simpa using hi),Xe]at w
   cases q:own[i]? with
   |none=>rw[q]at w;cases w
   |some z=>rw[q]at w;cases w
  .rw[Zn (by simpa using hi)]at w
   rw[Zn (by simpa using hi)]at N
   simp only[X5]at w;rw[Xe]at N w;cases q:fr[i - own.length]? with
   |none=>rw[q]at w;cases w
   |some j=>
    rw[q]at N w;have⟨y,E,U,s,A⟩:=ok.frees j (Xd q);have a:x=y:=by
     have:X.N.getD j VY=y:=by rw[Y1,E];rfl
     simp only[Bo,this,Bl]at N;erw[N.symm]
    subst a;have ev:σ[j]?=wc (wc v):=by
     simp only[Bo,Bl]at w;rw[Y1]at w;cases z:σ[j]? with
     |none=>rw[z]at w;cases w
     |some o=>rw[z]at w;cases w;rfl
    have⟨m0,hn0,B⟩:=f.loc;have⟨u,ru,lk⟩:=B j x v E ev (.inr A);erw[⟨u,ru,.inr ⟨Hv (scope:=scope) s,?_⟩⟩];rcases lk with⟨k1,_⟩|⟨_,c,Z,z⟩
    .have D:X.env.scope.names.lookup x=wc .local:=k1;rw[D]at A;rcases A with z|z<;>cases z
    .erw[⟨c,WX _ _ _ _ _ U Z,z.keeps O⟩]
 .have⟨v,z⟩:=f.cell x c (l x c e);erw[⟨v,z.keeps O⟩]
 .show H3 C=we;erw[f.hok.fresh (WH R.symm)]
 .have⟨e,n,ne,nf,d⟩:=f.pin p H;erw[⟨O _ _ e,n,XG (by rw[R];erw[Xw e]),λz=>?_,d⟩]
  rcases Xj.mp (f.stkSub p.1 z)with z|z
  .erw[ne z]
  .erw[nf z]
 .show(own.map (λ_=>(we:Option V))++fr.map (λi=>σ.getD i we)).length=(own++fr.map (λi=>X.N.getD i VY)).length;simp
end
section
variable{X:Cx}
end
def Hx(j:List Int):(Xq j.length).map (λi=>j.getD i 0)=j:=by
 apply AW
 .simp
 .intro i u l;simp[l]
section
variable{X:Cx}
def TD(j:z.length<=16)(y:-1000<=i)(m:i<=1000):MulOk z i:=by
 erw[⟨?_,λl _=>?_,λl _=>?_⟩]
 .rw[decide_eq_false (by lia),decide_eq_false (by lia)];rfl
 .have g:1<=i:=by lia
  have:(16:Int)<=(2^63 - 1)/i:=by
   rw[Int.le_ediv_iff_mul_le (by lia)]
   lia
  lia
 .have:z.length*i.toNat<=16*1000:=Nat.mul_le_mul j (by lia)
  have u:z.length*i.toNat<2^20:=by lia
  generalize z.length*i.toNat=n at u;revert n;intro n d;have w:sizeLine=16777216:=by decide
  show decide (n>sizeLine)=wg;rw[w];erw[decide_eq_false (by lia)]
def TF:OpR X (Yq .Mult) (λx y H Q=>∃z i,x=.str z/\y=.int i/\z.length<=16/\ -1000<=i/\i<=1000/\Q (.str (Txt.mul z i)) H):=by
 intro c s f H x y v u Q I j l h;have⟨z,i,rfl,rfl,w,m,g,q⟩:=h;have⟨t,rfl⟩:=j;have⟨d,rfl⟩:=l;erw[SB.mul (TD w m g) (λd k=>⟨.str (Txt.mul z i),H,I.tok _,⟨_,rfl⟩,q⟩)]
theorem Hy(x:Array Nat):∀(k:Nat)(j:Array Nat),((Xi k x).foldl (·++·) j).size=j.size+k*x.size
 |0,j=>by simp
 |k+1,j=>by
  rw[Zo,Ve,Hy x k,Array.size_append,Nat.succ_mul];lia
def TH(z:Str)(i:Int):(Txt.mul z i).length=i.toNat*z.length:=by
 unfold Txt.mul;by_cases h:i<1
 .rw[if_pos h];have:i.toNat=0:=by lia
  rw[this,Nat.zero_mul]
  rfl
 rw[if_neg h];by_cases h2:(i==1||z.length==0)=wf
 .rw[if_pos h2];rcases(Dd _ _).mp h2 with e|e
  .have:i=1:=by simpa using e
   subst this;simp
  .have:z.length=0:=by simpa using e
   rw[this,Nat.mul_zero]
 .rw[if_neg h2];have e:=Hy z.cps i.toNat #[];show((Xi i.toNat z.cps).foldl (·++·) #[]).size=_;rw[e];show 0+_=_;rw[Nat.zero_add]
  rfl
def BK{z:Str}{i:Int}(m:Nat)(h:i<=m)(j:z.length<=1):(Txt.mul z i).length<=m:=by
 rw[TH];have:i.toNat*z.length<=i.toNat*1:=Nat.mul_le_mul_left _ j;lia
def TJ(d:X.A.units<cLine):OpR X (Y6 .Eq) (λx y H Q=>∃a b z,x=.ref a/\y=.ref b/\SqL X.K H a z/\SqL X.K H b []/\Q (.bl z.isEmpty) H):=by
 intro W s Y H x y v u Q I L N h;have⟨a,b,z,rfl,rfl,O,P,q⟩:=h;cases L;cases N;have⟨l,c,f,Z⟩:=I.list O;have⟨m,g,w,_⟩:=I.list P;have R:m=[]:=AK g.length.symm;subst R;cases z with
 |nil=>
  have T:l=[]:=AK c.length.symm;subst T;erw[SeqAt.eq_listAt (e:=λ_=>wf) f.isList w.isList rfl d (λj U _=>absurd U (VQ j)) (XH I q rfl)]
 |cons x r=>
  have p:l.length=r.length+1:=by rw[<-c.length];rfl
  erw[SeqAt.eq_list_lengthsAt f.isList w.isList (by simp;intro e;rw[e]at p;simp at p) d (XH I q rfl)]
def TK(d:X.A.units<cLine):OpR X (Y6 .NotEq) (λx y H Q=>∃a b z,x=.ref a/\y=.ref b/\SqL X.K H a z/\SqL X.K H b []/\Q (.bl (!z.isEmpty)) H):=by
 intro W s Y H x y v u Q I L N h;have⟨a,b,z,rfl,rfl,O,P,q⟩:=h;cases L;cases N;have⟨l,c,f,Z⟩:=I.list O;have⟨m,g,w,_⟩:=I.list P;have R:m=[]:=AK g.length.symm;subst R;cases z with
 |nil=>
  have T:l=[]:=AK c.length.symm;subst T;erw[SeqAt.RcNeAt.lists (e:=λ_=>wf) f.isList w.isList rfl d (λj U _=>absurd U (VQ j)) X.prog X.w _ _ (XH I q rfl)]
 |cons x r=>
  have p:l.length=r.length+1:=by rw[<-c.length];rfl
  erw[SeqAt.RcNeAt.lists_lengths f.isList w.isList (by simp;intro e;rw[e]at p;simp at p) d X.prog X.w _ _ (XH I q rfl)]
end
open AutoSeq1 (wpAny_loadPart')
open MeetsSeq MeetsSeq2 MeetsSeq3 SeqRoads2
noncomputable def AliP(P:Xr)(w:Xl)(A:Xz)(s:X2)(y x:X0):Prop:=∀(E:X0->X2->Prop)(Q:Bool->X2->Prop),Q wf s->X3 (X8 P w) A (eqBool y x) Q E s
noncomputable def RcP(P:Xr)(w:Xl)(A:Xz)(s:X2)(y x:X0):Prop:=∀(E Q:X0->X2->Prop),Q (.bool wf) s->X3 (X8 P w) A (richCompare .Eq y x) Q E s
noncomputable def RnP(P:Xr)(w:Xl)(A:Xz)(s:X2)(y x:X0):Prop:=∀(E Q:X0->X2->Prop),Q (.bool wg) s->X3 (X8 P w) A (richCompare .NotEq y x) Q E s
section
variable{P:Xr}{w:Xl}{A:Xz}{s:X2}{a b:Addr}{xs ys:Array X0}
def AliP.of_at(h:SeqAt.EqAt A s y x wf):AliP P w A s y x:=λE Q q=>h P w E Q q
def AliP.refs(h:RcP P w A s (.ref a) (.ref b)):AliP P w A s (.ref a) (.ref b):=by
 intro E Q q;by_cases e:a=b
 .subst e;erw[SeqAt.EqAt.same _ P w E Q q]
 .unfold eqBool;erw[Yx (wpAny_ite_split (λz=>absurd (by injection (eq_of_beq z)) e) λ_=>?_)]
  erw[X1 (h E _ (Zz q))]
def TL(T:s.heap.IsTuple a xs)(U:s.heap.IsTuple b ys)(W:xs.size=ys.size)(Y:A.units<cLine)(Z:∀p∈xs.toList.zip ys.toList,AliP P w A.in1 s p.1 p.2):RcP P w A s (.ref a) (.ref b):=by
 intro E Q q;have⟨⟨D,G,I,J⟩,j,g,M,d⟩:=id T;have⟨⟨S,X,H,v⟩,c,f,o,e⟩:=id U;dsimp only at g d f e;subst g d f e;erw[VD (op:=.Eq) ⟨_,j,rfl⟩ ⟨_,c,rfl⟩ F.slot_tuple_eq (Zm F.slot_tuple_eq ⟨_,j,rfl⟩ F.entry_tuple_eq ?_ (F.args_tuple_eq_2 _ _)) Y];have⟨L,N,O,R,os⟩:=s;have i:=FV
 wp_walk using Yi j,Yi c,wpAny_forIn_list _ (λrest r l=>r.1=we/\l=⟨L,N,O,R,os⟩/\∀p∈rest,AliP P w A.in1 ⟨L,N,O,R,os⟩ p.1 p.2) _
 case turn=>
  rintro⟨y,x⟩ rest r l ⟨u,rfl,m⟩;erw[X1 (m (y,x) Y2 _ _ ?_)]
  wp_walk
  erw[⟨rfl,rfl,λp B=>m p (XJ _ B)⟩]
 case fin=>
  rintro⟨n,r2⟩ l ⟨u,rfl,-⟩;dsimp only at u;subst u
  wp_walk
  have C:Bp .Eq xs.size ys.size=.bool wf:=by simp[Bp,W]
  rw[C];erw[⟨_,rfl,(λz=>nomatch z),q⟩]
 case h=>erw[⟨rfl,rfl,Z⟩]
def TM(g:xs.size=ys.size)
  (u:s.heap.get? a=wc {cls:=.type "list",dict:=d1,data:=.seq xs n1,slots:=l1})(y:s.heap.get? b=wc {cls:=.type "list",dict:=d2,data:=.seq ys n2,slots:=l2})
  (d:∀j (z:j<xs.size)(m:j<ys.size),AliP P w A.in1 s xs[j] ys[j])(q:R (.ok (.ret (.bool wf))) s):∀k i:Nat,xs.size - i=k->
  X3 (X8 P w) A.in1 (Builtin.«list.__eq__.loop» ⟨[.ref a,.ref b,Y8 i,Y8 2],[]⟩) (λfin l=>match fin with|.done f=>R (.ok f) l|.again c'=>c'.quiet=wf/\YJ (X8 P w) A c' R l) (λe l=>R (.error e) l) s:=by
 have⟨p,L,N,O,os⟩:=s;intro k
 induction k with
 |zero=>
  intro i c
  wp_walk using Yi u,Yi y
  rw[show xs[((i:Nat):Int).toNat]?=we by simp;lia,show ys[((i:Nat):Int).toNat]?=we by simp;lia]
  wp_walk using Yi u,Yi y
  show R (.ok (.ret (.bool (xs.size==ys.size)))) _
  simpa [g]using q
 |succ k r=>
  intro i c;have z:i<xs.size:=by lia
  have m:i<ys.size:=by lia
  wp_walk using Yi u,Yi y
  rw[show xs[((i:Nat):Int).toNat]?=wc xs[i] by simp[z],show ys[((i:Nat):Int).toNat]?=wc ys[i] by simp[m]]
  erw[X1 (d i z m _ _ ?_)]
  wp_walk
  rw[show((i:Int)+1)=((i+1:Nat):Int) by push_cast;rfl]
  erw[⟨Z2 plain_eq_loop _,YR entry_eq_loop ?_⟩];rw[Z5 plain_eq_loop _];erw[r (i+1) (by lia)]
def TN(r:s.heap.IsList a xs)(p:s.heap.IsList b ys)(m:xs.size=ys.size)(e:A.units<cLine)(L:∀j (O:j<xs.size)(T:j<ys.size),AliP P w A.in1 s xs[j] ys[j]):RcP P w A s (.ref a) (.ref b):=by
 intro E Q q;have⟨⟨U,W,l,Y⟩,u,g,Z,d⟩:=id r;have⟨⟨B,C,D,G⟩,y,c,I,f⟩:=id p;dsimp only at g d c f;subst g d c f;have l:s.TypeIs (.ref a) "list":=⟨_,u,rfl⟩;erw[VD (op:=.Eq) l ⟨_,y,rfl⟩ Dm (VB (AH Dm.plain F.entry_list_eq (Dm.check _ _ _ _ _ _ _ _ l (F.args_list_eq_2 _ _) ?_))) e];have⟨J,M,S,X,os⟩:=s;have H:=FW;have o:¬(xs.size != ys.size)=wf:=by simp[m]
 wp_walk using Yi u,Yi y
 erw[⟨Z2 plain_eq_loop _,YR entry_eq_loop ?_⟩];rw[Z5 plain_eq_loop _];erw[TM (R:=wants (λv N=>v≠.notImplemented/\Q v N) E) m u y L (show UP wf≠.notImplemented/\Q (.bool wf) _ from⟨(λz=>nomatch z),q⟩) _ 0 rfl]
def TQ(T:s.heap.IsTuple a xs)(U:s.heap.IsTuple b ys)(W:xs.size=ys.size)(Y:A.units<cLine)(Z:∀p∈xs.toList.zip ys.toList,AliP P w A.in1 s p.1 p.2):RnP P w A s (.ref a) (.ref b):=by
 intro E Q q;have⟨⟨D,G,I,J⟩,j,g,M,d⟩:=id T;have⟨⟨S,X,H,v⟩,c,f,o,e⟩:=id U;dsimp only at g d f e;subst g d f e;erw[VD (op:=.NotEq) ⟨_,j,rfl⟩ ⟨_,c,rfl⟩ F.slot_tuple_ne (Zm F.slot_tuple_ne ⟨_,j,rfl⟩ F.entry_tuple_ne ?_ (F.args_tuple_ne_2 _ _)) Y];have⟨L,N,O,R,os⟩:=s;have i:=FV
 wp_walk using Yi j,Yi c,wpAny_forIn_list _ (λrest r l=>r.1=we/\l=⟨L,N,O,R,os⟩/\∀p∈rest,AliP P w A.in1 ⟨L,N,O,R,os⟩ p.1 p.2) _
 case turn=>
  rintro⟨y,x⟩ rest r l ⟨u,rfl,m⟩;erw[X1 (m (y,x) Y2 _ _ ?_)]
  wp_walk
  erw[⟨rfl,rfl,λp B=>m p (XJ _ B)⟩]
 case fin=>
  rintro⟨n,r2⟩ l ⟨u,rfl,-⟩;dsimp only at u;subst u
  wp_walk
  have C:Bp .NotEq xs.size ys.size=.bool wg:=by simp[Bp,W]
  rw[C];erw[⟨_,rfl,(λz=>nomatch z),q⟩]
 case h=>erw[⟨rfl,rfl,Z⟩]
def TR(g:xs.size=ys.size)
  (u:s.heap.get? a=wc {cls:=.type "list",dict:=d1,data:=.seq xs n1,slots:=l1})(y:s.heap.get? b=wc {cls:=.type "list",dict:=d2,data:=.seq ys n2,slots:=l2})
  (d:∀j (z:j<xs.size)(m:j<ys.size),AliP P w A.in1 s xs[j] ys[j])(q:R (.ok (.ret (.bool wg))) s):∀k i:Nat,xs.size - i=k->
  X3 (X8 P w) A.in1 (Builtin.«list.__eq__.loop» ⟨[.ref a,.ref b,Y8 i,Y8 3],[]⟩) (λfin l=>match fin with|.done f=>R (.ok f) l|.again c'=>c'.quiet=wf/\YJ (X8 P w) A c' R l) (λe l=>R (.error e) l) s:=by
 have⟨p,L,N,O,os⟩:=s;intro k
 induction k with
 |zero=>
  intro i c
  wp_walk using Yi u,Yi y
  rw[show xs[((i:Nat):Int).toNat]?=we by simp;lia,show ys[((i:Nat):Int).toNat]?=we by simp;lia]
  wp_walk using Yi u,Yi y
  show R (.ok (.ret (.bool (xs.size != ys.size)))) _
  simpa [g]using q
 |succ k r=>
  intro i c;have z:i<xs.size:=by lia
  have m:i<ys.size:=by lia
  wp_walk using Yi u,Yi y
  rw[show xs[((i:Nat):Int).toNat]?=wc xs[i] by simp[z],show ys[((i:Nat):Int).toNat]?=wc ys[i] by simp[m]]
  erw[X1 (d i z m _ _ ?_)]
  wp_walk
  rw[show((i:Int)+1)=((i+1:Nat):Int) by push_cast;rfl]
  erw[⟨Z2 plain_eq_loop _,YR entry_eq_loop ?_⟩];rw[Z5 plain_eq_loop _];erw[r (i+1) (by lia)]
def TU(r:s.heap.IsList a xs)(p:s.heap.IsList b ys)(m:xs.size=ys.size)(e:A.units<cLine)(L:∀j (O:j<xs.size)(T:j<ys.size),AliP P w A.in1 s xs[j] ys[j]):RnP P w A s (.ref a) (.ref b):=by
 intro E Q q;have⟨⟨U,W,l,Y⟩,u,g,Z,d⟩:=id r;have⟨⟨B,C,D,G⟩,y,c,I,f⟩:=id p;dsimp only at g d c f;subst g d c f;have l:s.TypeIs (.ref a) "list":=⟨_,u,rfl⟩;erw[VD (op:=.NotEq) l ⟨_,y,rfl⟩ Do (VB (AH Do.plain F.entry_list_ne (Do.check _ _ _ _ _ _ _ _ l (F.args_list_ne_2 _ _) ?_))) e];have⟨J,M,S,X,os⟩:=s;have H:=FW;have o:¬(xs.size != ys.size)=wf:=by simp[m]
 wp_walk using Yi u,Yi y
 erw[⟨Z2 plain_eq_loop _,YR entry_eq_loop ?_⟩];rw[Z5 plain_eq_loop _];erw[TR (R:=wants (λv N=>v≠.notImplemented/\Q v N) E) m u y L (show UP wg≠.notImplemented/\Q (.bool wg) _ from⟨(λz=>nomatch z),q⟩) _ 0 rfl]
def Hz{K:Type} [DecidableEq K] {u:KeyKind P w K}{nm:String}{d L:List (K×X0)}{E:X0->X2->Prop}{Q:Bool->X2->Prop}(I:(a==Z0)=wg)(J:(b==Z0)=wg)
  (M:s.heap.DictOf u a d)(S:s.heap.DictOf u b L)(B:d.length=L.length)(X:∀p∈d,∃y,Zb L p.1=wc y/\AliP P w A s p.2 y)(q:Q wf s):
  X3 (X8 P w) A (Gb nm a b) Q E s:=by
 have⟨oa,c,pa,O,_,R,H,C,_⟩:=M;have⟨ob,f,pb,T,_,U,D,W,_⟩:=S;have za:d.length=c.size:=C.length.symm.trans Yg;have o:L.length=f.size:=W.length.symm.trans Yg;have n:∀k,findBy u.is f k=Zb L k:=by
  intro k;rw[<-W.find k];clear o W D U T;have⟨l⟩:=f;simp[findBy]
 have x:c.size=f.size:=by lia
 unfold Gb Builtin.Dict.showsAll;rw[I,J];erw[X1 (Xa (X1 (Xa (X1 (AI O R ?_)))))];dsimp only;erw[X1 (AI T U ?_)];rw[if_neg (by simp[x])]
 erw[X1 (wpAny_dictEpoch O R (X1 ?_))];rw[Std.Legacy.Range.forIn_eq_forIn_range'];simp only[Std.Legacy.Range.size,Nat.sub_zero,Nat.add_sub_cancel,Nat.div_one];erw[wpAny_forIn_list _ (λrest r Y=>Y=s/\r=(we,())/\∀i∈rest,i<c.size) _ ?_ ?_ _ _ ⟨rfl,rfl,λi h=>by simpa using h⟩]
 .rintro i rest r Y ⟨rfl,rfl,m⟩;have lt:i<c.size:=m i Y2;have lt':i<d.length:=by lia
  erw[X1 (AI O R ?_)];rw[Vi lt];have⟨N,val⟩:=C.get? (i:=i) (e:=c[i]) (k:=d[i].1) (v:=d[i].2) (by rw[FP];erw[Vi lt]) (X6 lt')
  have⟨k',i',hh⟩:=H c[i] (Array.getElem_mem lt);obtain rfl:k'=d[i].1:=u.inj _ _ _ i' N;have⟨y,fy,F⟩:=X d[i] (XS lt');show X3 _ _ (Z9 [c[i].key,c[i].val] _ >>= _) _ _ _;rw[hh];erw[X1 (Yx (X1 (wpAny_dictFind_of N T U D ?_)))];have g:=fy;rw[<-n,findBy_of_findIdx?]at g;cases Z:f.findIdx? λe=>u.is d[i].1 e.key with
  |none=>rw[Z]at g;cases g
  |some j=>
   rw[Z]at g;have⟨G,_,_⟩:=Array.findIdx?_eq_some_iff_getElem.mp Z;erw[X1 (AI T U ?_)];rw[Vi G];have ey:f[j].val=y:=by simpa [Vi G]using g
   rw[<-ey,<-val]at F;erw[Yx (F _ _ ?_)];show X3 _ _ (if(!wf)=wf then _ else _) _ _ _;rw[if_neg (show¬(!wf)=wf from XD)];erw[X1 (wpAny_dictEpoch O R ?_)];rw[if_neg (by simp)]
   erw[Xa ⟨rfl,rfl,λz B=>m z (XJ _ B)⟩]
 .rintro r Y ⟨rfl,rfl,-⟩;erw[Xa q]
def TV{K:Type} [DecidableEq K] {j:KeyKind P w K}{u m:List (K×X0)}(d:(a==Z0)=wg)(c:(b==Z0)=wg)
  (l:s.heap.DictOf j a u)(g:s.heap.DictOf j b m)(f:A.units<cLine)(r:u.length=m.length)(e:∀p∈u,∃y,Zb m p.1=wc y/\AliP P w A.in1 s p.2 y):RcP P w A s (.ref a) (.ref b):=by
 intro E Q q;erw[VD (op:=.Eq) l.typeIs g.typeIs G7 (Zm G7 l.typeIs PySem.F.entry_dict_eq ?_ (PySem.F.args_dict_eq_2 _ _)) f];show X3 _ _ (Bu "__eq__" ⟨[.ref a,.ref b],[]⟩>>= _) _ _ s;erw[X1 ?_];unfold Bu;erw[X1 (wpAny_notOrdered_dict l.typeIs (Xa (X1 (VE (T:="dict") g.typeIs G5 ?_))))];rw[if_neg (by decide)]
 erw[X1 (Xa (X1 (Xa (X1 (Hz d c l g r e ?_)))))];erw[Xa ⟨_,rfl,(λz=>nomatch z),q⟩]
def TW{K:Type} [DecidableEq K] {j:KeyKind P w K}{u m:List (K×X0)}(d:(a==Z0)=wg)(c:(b==Z0)=wg)
  (l:s.heap.DictOf j a u)(g:s.heap.DictOf j b m)(f:A.units<cLine)(r:u.length=m.length)(e:∀p∈u,∃y,Zb m p.1=wc y/\AliP P w A.in1 s p.2 y):RnP P w A s (.ref a) (.ref b):=by
 intro E Q q;erw[VD (op:=.NotEq) l.typeIs g.typeIs G8 (Zm G8 l.typeIs PySem.F.entry_dict_ne ?_ (PySem.F.args_dict_ne_2 _ _)) f];show X3 _ _ (Bu "__ne__" ⟨[.ref a,.ref b],[]⟩>>= _) _ _ s;erw[X1 ?_];unfold Bu;erw[X1 (wpAny_notOrdered_dict l.typeIs (Xa (X1 (VE (T:="dict") g.typeIs G5 ?_))))];rw[if_neg (by decide)]
 erw[X1 (Xa (X1 (Xa (X1 (Hz d c l g r e ?_)))))];erw[Xa ⟨_,rfl,(λz=>nomatch z),q⟩]
end
section
variable{X:Cx}
end
end L2
namespace L2
open PySem PySem.Spec PyProof.Rows
def TX:fillsNumberSlot (.type "tuple") "mul"=pure wg:=
 PySem.fillsNumberSlot_seq (id:="tuple.__mul__") (r:=wc (.builtin "tuple.__rmul__")) Bs.lookup (by decide+kernel) G2.lookup (by decide+kernel)
def TY:seqRepeat? (.type "tuple")=pure (wc (.builtin "tuple.__mul__")):=by
 unfold seqRepeat?;rw[PySem.seqSlot_of (T:="tuple") (name:="__mul__") (id:="tuple.__mul__") Bs.lookup (by decide+kernel),PySem.seqSlot_of (T:="tuple") (name:="__rmul__") (id:="tuple.__rmul__") G2.lookup (by decide+kernel)]
 rfl
def TZ(a:Int)(t:Tok)(l:Addr)(items:Array X0)(n:Nat)(u:Option Addr)(y:Array (Option X0)):
  Meets (Builtin.«int.__rmul__» ⟨[.int a t,.ref l],[]⟩) (fun _ R s=>s.heap.get? l=wc {cls:=.type "tuple",dict:=u,data:=.seq items n,slots:=y}/\R (.ok (.ret Value.notImplemented)) s):=
 .of_wp λj w A R s h=>by have⟨z,g,d,m,os⟩:=s;have⟨c,h⟩:=h;wp_walk;erw[⟨_,rfl,h⟩]
def _is(l:Addr)(items:Array X0)(n:Nat)(y:Option Addr)(z:Array (Option X0))(u:Tok):
  Meets (Builtin.«tuple.__mul__» ⟨[.ref l,.int 1 u],[]⟩) (fun _ R s=>s.heap.get? l=wc {cls:=.type "tuple",dict:=y,data:=.seq items n,slots:=z}/\R (.ok (.ret (XB l))) s):=
 .of_wp λj w A R s h=>by
  have⟨f,g,d,q,os⟩:=s;have⟨m,h⟩:=h;have r:=FX;have c:(items.isEmpty||(1:Int)==1)=wf:=by simp
  wp_walk using Br m;erw[⟨_,rfl,h⟩]
def _ir(l:Addr)(items:Array X0)(n:Nat)(r:Option Addr)(p:Array (Option X0))(k:Int)(u:Tok)(P:2<=k)(f:items.size≠0)(T:items.size*k.toNat<=1000000):
  Meets (Builtin.«tuple.__mul__» ⟨[.ref l,.int k u],[]⟩) (fun _ R s=>s.heap.get? l=wc {cls:=.type "tuple",dict:=r,data:=.seq items n,slots:=p}/\
   R (.ok (.ret (XB s.heap.objs.size))) {s with heap:=s.heap.push {cls:=ZK "tuple",data:=Data.seq (VN (fun j y=>j++y) #[] (Xi k.toNat items))},toks:=s.toks}):=
 .of_wp λq w A R s h=>by
  have⟨U,g,d,W,os⟩:=s;have⟨m,h⟩:=h;have Y:=FX;have Z:k<=1000000:=by
   have:1*k.toNat<=items.size*k.toNat:=Nat.mul_le_mul_right _ (by lia)
   lia
  have B:(items.size:Int)*k<=1000000:=by
   have e:(items.size:Int)*k=((items.size*k.toNat:Nat):Int):=by rw[Int.natCast_mul,UQ (by lia)]
   rw[e];lia
  have L:¬(decide (k< -(2^63))||decide (k >= 2^63))=wf:=by simp;lia
  have C:¬(items.isEmpty||k==1)=wf:=by
   simp;erw[⟨λz=>f (by rw[z];rfl),by lia⟩]
  have D:¬(decide (k<=0)||items.isEmpty)=wf:=by
   simp;erw[⟨by lia,λz=>f (by rw[z];rfl)⟩]
  have N:¬((items.size:Int)*k>(2^63 - 1)/8):=by lia
  have E:¬(FT ((items.size:Int)*k)=wf):=by
   unfold FT;have c:sizeLine=16777216:=by decide
   rw[c];simp;lia
  have O:(VN (λj y=>j++y) #[] (Xi k.toNat items)).size<=sizeLine:=by
   have c:sizeLine=16777216:=by decide
   rw[PySem.AutoListH.size_joined,c,Nat.mul_comm];simp;lia
  wp_walk using Br m
  erw[wpAny_ite_false (decide_eq_false L) ?_]
  wp_walk using Br m
  erw[wpAny_ite_false (decide_eq_false N) ?_]
  wp_walk using Br m
  erw[⟨_,rfl,h⟩]
section
variable{X:Cx}
def _lv:OpR X (Yq .Mult) (λx y H Q=>∃a k l,x=.ref a/\y=.int k/\SqT X.K H a l/\l≠ []/\1<=k/\l.length*k.toNat<=1000000/\(k=1->Q (.ref a) H)/\
  (k≠1->∀p,H p=we->Q (.ref p) (upd H p (.tup (Xi k.toNat l).flatten)))):=by
 intro F s G H x y v u Q I L N h;have⟨a,k,l,rfl,rfl,O,P,J,R,W,Y⟩:=h;obtain rfl:v=XB a:=L;have⟨m,rfl⟩:=N;have⟨j,r,Z,_⟩:=I.tuple O;have⟨⟨A,g,c,d⟩,w,f,n,hd⟩:=id Z;simp only at f hd;subst f hd;have e:j.toArray.size=l.length:=by rw[XN,<-r.length]
 erw[wpAny_binaryOp_repeat_ref (T:="tuple") (U:="int") (by decide) ⟨_,w,rfl⟩ (fun B=>typeIs_int B k m) TX PySem.F.fills_int_mul G6 TY PySem.F.slot_int_index.lookup
  (Uc G6 (typeIs_int s k m) PySem.F.entry_int_rmul (PySem.F.args_int_rmul_2 _ _) (TZ k m a j.toArray n g d) ⟨w,rfl,⟨_,w,rfl⟩,?_⟩)]
 by_cases e1:k=1
 .subst e1;erw[Uc Bs ⟨_,w,rfl⟩ G3 (G0 _ _) (_is a j.toArray n g d m) ⟨w,.ref a,H,I,rfl,W rfl⟩]
 .erw[Uc Bs ⟨_,w,rfl⟩ G3 (G0 _ _) (_ir a j.toArray n g d k m (by lia) (by rw[e];erw[λz=>P (Wx.mp z)]) (by rw[e];erw[R])) ⟨w,?_⟩]
  have f0:VN (λC D=>C++D) #[] (Xi k.toNat j.toArray)=(Xi k.toNat j).flatten.toArray:=by
   have:=Dy j k.toNat [];rw[Yk]at this;erw[this]
  rw[f0];erw[⟨.ref s.heap.objs.size,_,I.laid (t':=s.toks) (o:=.tup (Xi k.toNat l).flatten) (λb M q=>Xu _ q) (X9 _) ?_,rfl,Y e1 _ (I.hok.fresh (X9 _))⟩];erw[⟨?_,_,r.rep k.toNat,IsTup.new _ _,_,XO _ rfl,rfl⟩];have E:sizeLine=16777216:=by decide
  rw[Hk,E,Nat.mul_comm];lia
end
section
variable{X:Cx}{pq:List (Addr×Obj)}{σ:St}{H:Hp}{s:X2}
def WY(e:H a=wc u)(j:Mut (wc u))(q:H b=wc v)(l:¬Mut (wc v)):b≠a:=by
 intro z;subst z;rw[e]at q;cases q;erw[l j]
def Inv.freeze(I:Inv X pq σ H s){a:Addr}{u:HO}{o:Obj}(e:H a=wc u)(j:Mut (wc u))(l:s.heap.get? a=wc o):Inv X pq σ (upd H a (.frz o u)) s:=by
 have nn:∀b,H b=we->b≠a:=λb n z=>by subst z;rw[e]at n;cases n
 erw[I.step (h':=s.heap) (M:=s.gens) (a:=s.toks) (d':=s.drawn) (N:=[]) (λ_ z=>nomatch z) (λb o _ _ _ q _=>q) (λb o _ _ _ q _=>⟨o.slots,q⟩) (λb o _ _ n=>by rw[XE (nn b n)];erw[n]) (λb o _ q=>⟨o,q⟩)
  (λb w q=>by rw[XE (WY e j q λz=>z)];erw[q]) (λb o u q=>by rw[XE (WY e j q λz=>z)];erw[q]) (λb g q=>⟨#[],by rw[XE (WY e j q λz=>z),q];simp⟩) (λm h=>h) (λb v q=>?_) I.bare]
 have st:∀{c:Addr} {y:HO},ObjOk X.prog X.w H s.heap c y->ObjOk X.prog X.w (upd H a (.frz o u)) s.heap c y:=λx=>
  x.stay (λc v _ q=>q) (λc q=>by rw[XE (WY e j q λz=>z)];erw[q]) λc w q=>by rw[XE (WY e j q λz=>z)];erw[q]
 by_cases hb:b=a
 .subst hb;rw[_M]at q;cases q;erw[⟨l,st (I.hok b u e)⟩]
 .rw[XE hb]at q;erw[st (I.hok b v q)]
def Thw(X:Cx)(H j:Hp):Prop:=j=H\/∃a o u,H a=wc (.frz o u)/\Mut (wc u)/\(∀l w,X.H₀ a≠wc (.frz l w))/\j=upd H a u
def Inv.thaw(I:Inv X pq σ H s)(t:Thw X H H'):Inv X pq σ H' s:=by
 rcases t with rfl|⟨a,o,u,e,T,f,rfl⟩
 .erw[I]
 have j:∀{b:Addr} {y:HO},H b=wc y->y≠.frz o u->b≠a:=fun{b y} q n z=>by subst z;rw[e]at q;cases q;erw[n rfl]
 have nn:∀b,H b=we->b≠a:=λb n z=>by subst z;rw[e]at n;cases n
 have st:∀{c:Addr} {y:HO},ObjOk X.prog X.w H s.heap c y->ObjOk X.prog X.w (upd H a u) s.heap c y:=λx=>
  x.stay (λc v _ q=>q) (λc q=>by rw[XE (j q (λz=>by cases z))];erw[q]) λc l q=>by rw[XE (j q (λz=>by cases z))];erw[q]
 erw[⟨I.ok,I.os,I.bare,⟨I.base.keep,I.base.slot,λb r q n L=>?_,I.base.there,λb l q=>?_,λb w g q=>?_,λb N q=>?_⟩,I.loc,I.cell,?_,λx c q=>?_,λp O=>?_,λb v q=>?_,I.len⟩]
 .have:=I.base.free b r q n L;rw[XE (nn b this)];erw[this]
 .have:=I.base.tups b l q;rw[XE (j this (λz=>by cases z))];erw[this]
 .rw[XE (λz=>by subst z;erw[f w g q])]
  erw[I.base.frzs b w g q]
 .have⟨m,h⟩:=I.base.tbls b N q;erw[⟨m,by rw[XE (j h (λz=>by cases z))];erw[h]⟩]
 .rw[XE (nn _ I.free)];erw[I.free]
 .rw[XE (nn _ (I.freeC x c q))];erw[I.freeC x c q]
 .have⟨P,d,R⟩:=I.pin p O;erw[⟨P,by rw[XE (nn _ d)];erw[d],R⟩]
 .by_cases hb:b=a
  .subst hb;rw[_M]at q;cases q;erw[st (I.hok b _ e).2]
  .rw[XE hb]at q;erw[st (I.hok b v q)]
def Inv.nofrz(I:Inv X pq σ H s)(e:H a=wc u)(w:Mut (wc u)):∀j l,X.H₀ a≠wc (.frz j l):=λj l z=>by
 have:=I.base.frzs a j l z;rw[e]at this;cases this;erw[w]
def thwD(X:Cx)(D:Ends):Ends where
 nx:=λσ H=>∃j,Thw X H j/\D.nx σ j
 rt:=λv H=>∃j,Thw X H j/\D.rt v j
 bk:=λσ H=>∃j,Thw X H j/\D.bk σ j
 ct:=λσ H=>∃j,Thw X H j/\D.ct σ j
theorem PS.thaw{st:Stmt}{t:TS}(h:PS X st t):PS X st (λD σ H=>t (thwD X D) σ H):=by
 intro pq s σ H D I q;erw[thn (h pq s σ H _ I q) λf g z=>?_];cases f with
 |next=>have⟨j,m,l,w,y,d⟩:=z;erw[⟨j,w,l.thaw y,d⟩]
 |brk=>have⟨j,m,l,w,y,d⟩:=z;erw[⟨j,w,l.thaw y,d⟩]
 |cont=>have⟨j,m,l,w,y,d⟩:=z;erw[⟨j,w,l.thaw y,d⟩]
 |ret u=>have⟨v,j,m,l,r,w,y,d⟩:=z;erw[⟨v,j,w,l.thaw y,r,d⟩]
theorem PE.thaw{e:Expr}{t:TE}(h:PE X e t):PE X e (λσ H Q=>t σ H λv l=>∃j,Thw X l j/\Q v j):=by
 intro pq s σ H Q I q;erw[thn (h pq s σ H _ I q) λu z ⟨v,l,w,r,j,y,d⟩=>⟨v,j,w.thaw y,r,d⟩]
def Itd(a:Addr)(o:Obj):It where
 go:=λi H=>∃j,H a=wc (.frz o (.dK j))/\i<j.length
 yld:=λi H x l=>l=H/\∀j,H a=wc (.frz o (.dK j))->∃k v,j[i]?=wc (k,v)/\x=kV k
 stop:=λi H=>∃j,H a=wc (.frz o (.dK j))/\j.length<=i
def HA(ok:HOk P w H h)(e:H a=wc (.frz o (.dK kvs)))(hd:o.data=.dict es ep):
  ∃j,KV kvs j/\h.DictAt (YD P w) a j ep/\j.length=es.size:=by
 have⟨y,z,_,j,u,q,d,c,l,f,m,g⟩:=ok a _ e;rw[y]at l;cases l;rw[hd]at m;injection m with e1 e2;subst e1 e2;erw[⟨j,u,⟨o,es,y,f,hd,g⟩,by rw[<-g.2.1.length];simp⟩]
def _ot(r:KV kvs vs):kvs.length=vs.length:=by
 induction r with
 |nil=>rfl
 |cons _ _ j=>rw[Yj,Yj,j]
def _ou(r:KV kvs vs):∀{i:Nat} {k:Key} {v:V},kvs[i]?=wc (k,v)->∃u,vs[i]?=wc (k,u)/\RelV v u:=by
 induction r with
 |nil=>intro i k v h;cases h
 | @cons p j _ _ q _ l=>
  intro i k v h;cases i with
  |zero=>
   cases h;have⟨w,y⟩:=j;have z:k=w:=q.1;subst z;erw[⟨y,rfl,q.2⟩]
  |succ i=>erw[l (i:=i) h]
def _lZ{k:Key}(h:(YD P w).is k u=wf):RelV (kV k) u:=by
 rcases _Z h with⟨i,t,rfl,rfl⟩|⟨x,t,rfl,rfl⟩
 .erw[⟨t,rfl⟩]
 .erw[⟨t,rfl⟩]
def _4Q(j:s.heap.IsKeyIter it d i n ep)(h:Q (.ref it) s):
  X3 (X8 P w) A (pyIter (.ref it)) Q E s:=by
 erw[wpAny_pyIter_slot j.typeIs FY (Zm FY j.typeIs PySem.F.entry_dict_keyiterator_iter ?_ (PySem.F.args_dict_keyiterator_iter_1 _))];show X3 _ _ (ret (.ref it)) _ _ s;erw[Xa ⟨_,rfl,"dict_keyiterator",_,j.typeIs,PySem.F.slot_dict_keyiterator_next.lookup,h⟩]
def _fW{K:X4}(a j:Addr)(o:Obj)(F:Array DictEntry)(G:Nat)(hd:o.data=.dict F G):Turn P w K tg (Itd a o) [j] j (λi h=>h.IsKeyIter j a i F.size G)where
 mem:=by simp
 obj:=λi h st b l=>by
  have e:b=j:=by simpa using l
  subst e;have⟨o,e,c,d⟩:=st;erw[⟨o,e,λv z=>by rw[d]at z;cases z⟩]
 keep:=λi h q st k=>by
  have⟨o,e,c,d⟩:=st;erw[⟨o,k j (by simp) o e,c,d⟩]
 item:=by
  intro X R T U J i pq s σ H E I r st W;subst R T U;have⟨g,L,N⟩:=W;have⟨n,y,Y,O⟩:=HA I.hok L hd;obtain⟨⟨k,v⟩,M⟩:∃p,g[i]?=wc p:=⟨_,X6 N⟩;have⟨u,x,ru⟩:=_ou y M;have⟨f0,Z,f2,A,B,C⟩:=r j (by simp)
  rw[<-O]at st;erw[wpAny_pyNext_dict_item st Y x λD q f m sb=>?_];have I1:Inv X pq σ H {s with heap:=q}:=I.turned (g:=s.toks) (λb o l e=>(sb.2 b l).trans e) f0 Z A B C;rw[O]at m;have⟨o',e,c,d⟩:=id m;erw[⟨D,rfl,W0 (s:={s with heap:=q}) e c d (by decide) ⟨kV k,H,I1,_lZ f,⟨rfl,λQ S=>by rw[L]at S;cases S;erw[⟨k,v,M,rfl⟩]⟩,m,λb l=>(r b l).1⟩⟩]
 done:=by
  intro X R T U J i pq s σ H E I r st W;subst R T U;have⟨g,L,N⟩:=W;have⟨n,y,Y,O⟩:=HA I.hok L hd;have⟨f0,Z,f2,A,B,C⟩:=r j (by simp)
  rw[_ot y]at N;rw[<-O]at st;erw[wpAny_pyNext_dict_end (I.ok.hd J) st Y (CO.mpr N) λq eb=>⟨rfl,I.turned (g:=s.toks) (λb o l e=>eb b o l e) f0 Z A B C⟩]
 self:=λ_ _ _ _ _ st h=>_4Q st h
def _iT(I:Inv X pq σ H s)(e:H a=wc (.dK kvs))(q:∀o,(∀d c,X.H₀ a≠wc (.frz d c))->R (Itd a o) (upd H a (.frz o (.dK kvs)))):
  X3 (X8 X.prog X.w) X.A (pyIter (.ref a)) (PIE X pq σ tg R) E s:=by
 have⟨z,f,u,r,o,j,w,y,p,m,g⟩:=I.hok a _ e;have l:=I.freeze e trivial y;have L:=I.nofrz e trivial;erw[wpAny_pyIter_dict f (⟨o,j,y,p,m,g⟩:s.heap.DictAt (YD X.prog X.w) a u w) ?_];erw[⟨s.heap.objs.size,[s.heap.objs.size],_,_,upd H a (.frz o (.dK kvs)),rfl,l.kept (t':=s.toks) λb o e=>Xu _ e,_fW a _ o j w m,?_,λb N=>?_,q o L⟩]
 .have O:j.size=u.length:=by rw[<-g.2.1.length];simp
  rw[O];erw[⟨_,XO _ rfl,rfl,rfl⟩]
 .have e:b=s.heap.objs.size:=by simpa using N
  subst e;erw[l.fpOk (X9 _) (l.hok.fresh (X9 _))]
end
section
variable{prog:Xr}{w:Xl}{A:Xz}{E:X0->X2->Prop}{s:X2}{a₀:Array Keyed}
end
section
variable{X:Cx}
end
structure Mrk (t t':Yy):Prop where
 led:t'.led=t.led
 plain:t.plain=wg->t'.plain=wg
def Mrk.refl(t:Yy):Mrk t t:=⟨rfl,id⟩
theorem Mrk.trans(x:Mrk a b)(y:Mrk b c):Mrk a c:=⟨y.led.trans x.led,λh=>y.plain (x.plain h)⟩
theorem Mrk.standIn(t:Yy)(n:Nat):Mrk t (t.standIn n):=⟨rfl,λ_=>rfl⟩
theorem Mrk.orStandIn(t:Yy)(n:Nat):Mrk t (t.orStandIn n):=by
 unfold SetTable.orStandIn;split
 .erw[.refl t]
 .erw[.standIn t n]
def Mrk.lay(t:Yy)(j:Array (Int×X0))(k:Int)(x:X0):Mrk t (layNew t j k x).2.1:=by
 unfold layNew;split
 .erw[Mrk.trans (b:=(t.put _).1) ⟨rfl,id⟩ (.orStandIn _ _)]
 .erw[.standIn t _]
theorem Mrk.relaid{t:Yy}(h:t.relaid hs n=wc (t',od)):Mrk t t':=by
 unfold SetTable.relaid SetTable.laid at h;cases j:SetTable.layClean (SetTable.sizeAbove n - 1) hs with
 |none=>rw[j]at h;simp at h
 |some l=>
  rw[j]at h;simp only[Option.bind_eq_bind,Option.bind_some,Option.pure_def,Bl,Prod.mk.injEq]at h;have⟨rfl,_⟩:=h;erw[⟨rfl,id⟩]
set_option tactic.hygienic true in
def Mrk.relay(t:Yy)(j:Array (Int×X0))(n:Nat):Mrk t (relayAll t j n).2.1:=by
 unfold relayAll;split
 .rename_i l
  dsimp only;split
  .erw[.relaid l]
  .erw[.standIn t _]
 .erw[.standIn t _]
noncomputable def txt:X0->Str
 |.str x _=>x
 |_=>⟨#[]⟩
noncomputable def met1(j:List Str)(x:Str):List Str:=if x∈j then j else j++[x]
def met(f:Nat->Str):Nat->List Str
 |0=>[]
 |i+1=>met1 (met f i) (f i)
set_option tactic.hygienic true in
def _fn(h:zs.Nodup)(x:Str):(met1 zs x).Nodup:=by
 unfold met1;split
 .erw[h]
 .rename_i n
  rw[YS];erw[⟨h,by simp,λa l b j=>by rw[Ye]at j;subst j;erw[λe=>n (e▸l)]⟩]
theorem HB(f:Nat->Str):∀i,(met f i).Nodup
 |0=>.nil
 |i+1=>_fn (HB f i) _
set_option tactic.hygienic true in
def _jc:y∈met1 zs x↔y∈zs\/y=x:=by
 unfold met1;split
 .rename_i h
  erw[⟨.inl,λz=>z.elim id λe=>e▸h⟩]
 .simp
theorem HC:∀i,y∈met f i↔∃j,j<i/\f j=y
 |0=>by simp[met]
 |i+1=>by
  unfold met;rw[_jc,HC i];constructor
  .rintro(⟨j,l,e⟩|e)
   .erw[⟨j,by lia,e⟩]
   .erw[⟨i,by lia,e.symm⟩]
  .rintro⟨j,l,e⟩;by_cases z:j=i
   .subst z;erw[.inr e.symm]
   .erw[.inl ⟨j,by lia,e⟩]
theorem HD(f:Nat->Str):∀i,(met f i).length<=i
 |0=>X9 _
 |i+1=>by
  have:=HD f i;unfold met met1;split
  .lia
  .rw[Ya];simp;lia
section
variable{prog:Xr}{w:Xl}{A:Xz}{E:X0->X2->Prop}{s:X2}
def WSet(prog:Xr)(w:Xl)(o:Obj)(l:List Str):Prop:=
 o.ExactSet/\∃j u t,o.data=.set j u t/\ElemsOf (strKind prog w) j.toList/\(j.toList.map λe=>txt e.2).Perm l/\j.size<scanBound/\t.fits j.size=wf
  /\t.led=(!w.params.followText "set-order")/\(l≠ []->t.plain=wg)
theorem WSet.fresh:WSet prog w {cls:=.type "set",dict:=we,data:=.set #[] 0 (.fresh 0 0 (!w.params.followText "set-order"))} []:=
 ⟨⟨rfl,rfl,rfl⟩,#[],0,_,rfl,λe j=>by simp at j,by simp,by decide,by rfl,rfl,λh=>absurd rfl h⟩
def isT{k:Str}:(strKind prog w).is k v=wf↔∃t,v=.str k t:=by
 constructor
 .erw[λh=>Value.isStrOf_shape h]
 .rintro⟨t,rfl⟩;erw[strKind_is prog w k t]
def WSet.mem{es:Array (Int×X0)}{zs:List Str}(u:ElemsOf (strKind prog w) es.toList)(y:(es.toList.map λe=>txt e.2).Perm zs)(k:Str):
  k∈zs↔∃e∈es.toList,(strKind prog w).is k e.2=wf:=by
 rw[<-y.mem_iff,XA];constructor
 .rintro⟨e,j,q⟩;erw[⟨e,j,isT.mpr ?_⟩];have⟨⟨m,z,_⟩,_⟩:=u e j;have⟨t,l⟩:=isT.mp z;rw[l]at q ⊢;erw[⟨t,by rw[<-q];rfl⟩]
 .rintro⟨e,j,q⟩;have⟨t,l⟩:=isT.mp q;erw[⟨e,j,by rw[l];rfl⟩]
def HE{h:Heap}{a:Addr}{o:Obj}{y:Array (Int×X0)}{u:Nat}{t:Yy}(m:h.get? a=wc o)(hd:o.data=.set y u t)(j:Array (Int×X0))(l:Yy):
  (h.update a (Obj.putSet j l)).get? a=wc {o with data:=.set j (u+1) l}:=by
 have z:=Vh (Obj.putSet j l) m (by rw[putSet_of j l hd];rfl)
 rwa [putSet_of j l hd]at z
def HF{g:Bool->Sem Unit}(B:∀(b:Bool)(y:X2)(O:Unit->X2->Prop),O () y->X3 (X8 prog w) A (g b) O E y)
  {a:Addr} {o:Obj} {C:Array (Int×X0)} {D:Nat} {t:Yy} (P:s.heap.get? a=wc o)(f:o.ExactSet)(hd:o.data=.set C D t)
  {j:Array (Int×X0)} {l:Yy} {T:List Str} (q:ElemsOf (strKind prog w) j.toList)(U:(j.toList.map λe=>txt e.2).Perm T)(W:j.size<scanBound)
  (F:l.fits j.size=wf)(z:l.led=(!w.params.followText "set-order"))(r:l.plain=wg){L:Bool} {R:Option Bool->X2->Prop}
  (h:∀N Y,Uk a s.heap N->N.get? a=wc Y->WSet prog w Y T->R (wc wf) {s with heap:=N}):
  X3 (X8 prog w) A (do
    storeSet a j l
    if(!L&&l.tooFull)=wf then do
      g (relayAll l j (Vn j.size)).2.2
      storeSet a (relayAll l j (Vn j.size)).1 (relayAll l j (Vn j.size)).2.1
      pure (wc wf)
     else pure (wc wf)) R E s:=by
 erw[X1 (wpAny_storeSet_of P hd ?_ (fits_of_scanBound W))];have m:=HE P hd j l;split
 .have u:=relayAll_perm l j (Vn j.size);have d:=relayAll_fits l j (Vn j.size);have p:=Mrk.relay l j (Vn j.size);generalize relayAll l j (Vn j.size)=Rl at u d p ⊢;have⟨c,Z,G⟩:=Rl;dsimp only at u d p ⊢;have I:c.size=j.size:=by rw[<-Yg,u.length_eq,Yg]
  erw[X1 (B _ _ _ ?_)];erw[X1 (wpAny_storeSet_of m rfl ?_ (fits_of_scanBound (by lia)))]
  erw[Xa (h _ _ ((Up _ a _).trans (Up _ a _)) (HE m rfl c Z)
   ⟨f,c,_,Z,rfl,q.perm u,(u.map _).trans U,by lia,d,p.led.trans z,λ_=>p.plain r⟩)]
 .erw[Xa (h _ _ (Up _ a _) m ⟨f,j,_,l,rfl,q,U,W,F,z,λ_=>r⟩)]
set_option tactic.hygienic true in
def _iu{a:Addr}{o:Obj}{m:List Str}{x:Str}{g:Tok}{Q:Bool->X2->Prop}(T:s.heap.get? a=wc o)(H:WSet prog w o m)(G:m.length+1<scanBound)
  (h:∀b l u,Uk a s.heap l->l.get? a=wc u->WSet prog w u (met1 m x)->Q b {s with heap:=l}):
  X3 (X8 prog w) A (setAddHashed a (.str x g) ((strKind prog w).hash x)) Q E s:=by
 have⟨U,P,ep,t,hd,d,I,hb,v,f,hpl⟩:=id H;have r:(strKind prog w).is x (.str x g)=wf:=strKind_is prog w x g;have i:P.size=m.length:=by rw[<-I.length_eq,X5,Yg]
 unfold setAddHashed setAddHashedIn;erw[Yx (X1 (Wt T hd v ?_))];dsimp only;rw[byScan_of (x:=.str x g) rfl hb d];simp only[↓reduceIte];unfold setAddByScan;erw[X1 (X1 (VF (X1 (wpAny_setScan_of r T hd v d ?_))))];have p:=WSet.mem d I x;cases n:List.findIdx? (λe=>(strKind prog w).is x e.2) P.toList with
 |some j=>
  dsimp only;have⟨hj,J,_⟩:=List.findIdx?_eq_some_iff_getElem.mp n;have M:x∈m:=p.mpr ⟨_,XS hj,J⟩;erw[Xa (Xa ?_)];have:=h wg s.heap o (Heap.SameBut.refl a s.heap) T (by unfold met1;rw[if_pos M];erw[H])
  cases s;erw[this]
 |none=>
  dsimp only;have M:x∉m:=λz=>by
   have⟨e,he,q⟩:=p.mp z;have:=List.findIdx?_eq_none_iff.mp n e he;rw[q]at this;erw[Bool.noConfusion this]
  have hz:met1 m x=m++[x]:=by unfold met1;rw[if_neg M]
  have R:=layNew_perm t P ((strKind prog w).hash x) (.str x g);have c:=layNew_fits t P ((strKind prog w).hash x) (.str x g);have F:=Mrk.lay t P ((strKind prog w).hash x) (.str x g);generalize layNew t P ((strKind prog w).hash x) (.str x g)=L at R c F ⊢;have⟨O,t1,was,gave⟩:=L;dsimp only at R c F ⊢;rw[Array.toList_push]at R;have N:ElemsOf (strKind prog w) O.toList:=(d.push r rfl).perm R;have W:(O.toList.map λe=>txt e.2).Perm (met1 m x):=by
   rw[hz];erw[(R.map _).trans ?_];rw[XY];erw[I.append (.refl _)]
  have Y:O.size<scanBound:=by rw[<-Yg,R.length_eq,Ya,Yg];simp;lia
  have S:∀(b:Bool)(y:X2)(X:Unit->X2->Prop),X () y->X3 (X8 prog w) A (match b with|wf=>rule "set.scan.the-table-gave-way"|wg=>pure ()) X E y:=
   λb y X hq=>by cases b<;>first|erw[Xa hq]|erw[VF hq]
  erw[X1 (S _ _ _ ?_)];have Z:∀l u,Uk a s.heap l->l.get? a=wc u->WSet prog w u (met1 m x)->Q wf {s with heap:=l}:=λl u B C D=>h wf l u B C D;split
  .rw[hashByValue_scannable 8 (x:=.str x g) rfl];erw[X1 (Xa ?_)];erw[HF S T U hd N W Y (l:={t1 with plain:=wg}) (SetTable.fits_plain_off c) (F.led.trans f) rfl ?_];intro l u B C D;erw[Xa (Z l u B C D)]
  .rename_i np
   erw[X1 (Xa ?_)];simp only[↓reduceIte];erw[HF S T U hd N W Y c (F.led.trans f) (by simpa using np) ?_]
   intro l u B C D;erw[Xa (Z l u B C D)]
def _fY{St:Nat->X2->Prop}
  (W:WalksS prog w A.in1 I fp wr G n P St)(S:Addr)(m:S∉fp)(f:Nat->Str)(g:∀i v,P i v->∃t,v=.str (f i) t)(y:n+1<scanBound):
  ∀(k i:Nat)(s:X2)(o:Obj),n - i=k->i<=n->St i s->s.heap.get? S=wc o->WSet prog w o (met f i)->
   (∀j T,Moved (S::wr) G s j->j.heap.get? S=wc T->WSet prog w T (met f n)->R (.ok (.ret .none)) j)->
   YJ (X8 prog w) A (.builtin "set.update.loop" ⟨[.ref S,.ref I],[]⟩) R s:=by
 have d:S∉wr:=λh=>m (W.sub _ h);have l:∀b∈wr,b∈S::wr:=λb y=>XJ _ y;intro k
 induction k with
 |zero=>
  intro i s o X H u U Y Z;have B:i=n:=by lia
  subst B;erw[YR F.entry_set_update_loop ?_];rw[Z5 F.plain_set_update_loop _];show X3 _ A.in1 (Z1 (.ref I)>>= _) _ _ s;erw[X1 (W.done s _ _ u λj c=>?_)];erw[Xa (Z j o (c.mono l) (c.heap S _ d U) Y)]
 |succ k x=>
  intro i s o X H u U Y Z;have q:i<n:=by lia
  erw[YR F.entry_set_update_loop ?_];rw[Z5 F.plain_set_update_loop _];show X3 _ A.in1 (Z1 (.ref I)>>= _) _ _ s;erw[X1 (W.item i s _ _ q u λv j a r c=>?_)];have⟨t,rfl⟩:=g i v a;have C:=c.heap S _ d U;show X3 _ A.in1 (Z9 [Zf (f i) t] (setAdd S (.str (f i) t))>>= _) _ _ j;erw[X1 (Yx ?_)];unfold setAdd;erw[Yx (X1 ((strKind prog w).pyHash (k:=f i) (strKind_is prog w _ _) ?_))];erw[_iu (s:={j with toks:=j.toks+1}) C Y (by have:=HD f i;lia) λb h' T p D J=>?_]
  erw[Xa ⟨Z2 F.plain_set_update_loop _,x (i+1) _ T (by lia) q (W.frame _ j _ _ r (YC _) λb y o e=>?_) D J λM Q L N O=>?_⟩]
  .rw[p.2 b (λz:b=S=>m (by rw[<-z];erw[y]))];erw[e]
  .erw[Z M Q (Moved.trans W.gtrans ((c.mono l).then_heap (YC _) λb o y e=>?_) L) N O];rw[p.2 b (λz:b=S=>y (by rw[z];erw[Y2]))];erw[e]
noncomputable def U1(w:Xl):Obj:={cls:=.type "set",dict:=we,data:=.set #[] 0 (.fresh 0 0 (!w.params.followText "set-order"))}
def _it(a:X0)(h:Q₁ (.ref s.heap.objs.size) {s with heap:=s.heap.push (U1 w)}):
  YJ (X8 prog w) A (.call (.builtin "set.__new__") ⟨[.type "set",a],[]⟩) (wants Q₁ E) s:=by
 erw[codeAny_of_tree ?_];show X3 _ A.in1 (do checkBuiltinCall "set.__new__" ⟨[.type "set",a],[]⟩;again (.builtin "set.__new__" ⟨[.type "set",a],[]⟩)) _ _ s
 erw[X1 (wpAny_of_eq (F.newCall_set_1 a) (Xa ⟨Z2 F.plain_set_new _,YR F.entry_set_new ?_⟩))];rw[Z5 F.plain_set_new _];unfold Builtin.«set.__new__» Builtin.Frozenset.newClass;have j:=sub_set_self;have⟨l,g,d,u,os⟩:=s;dsimp only
 wp_walk
 erw[Wu (Xa ?_)];dsimp only;simp only[newObj];erw[X1 (wpAny_alloc (Xa ?_))];erw[Xa h]
def _i1{items:Array X0}
  (hh:A.handled=we)(hl:s.heap.IsList l items)(hi:∀(i:Nat)(v:X0),items[i]?=wc v->∃t,v=Zf (f i) t)(B:items.size+1<scanBound)
  (h:∀(u:Heap)(C:Nat)(o:Obj),u.get? s.heap.objs.size=wc o->WSet prog w o (met f items.size)->
   (∀b o,b<s.heap.objs.size->s.heap.get? b=wc o->u.get? b=wc o)->Q (.ref s.heap.objs.size) {s with heap:=u,toks:=C}):
  X3 (X8 prog w) A (call (.type "set") [.ref l]) Q E s:=by
 have⟨c,tl,n⟩:=UR.mro;have G:=UR.made;have x:=UR.sub;erw[VB (codeAny_of_tree ?_)];show X3 _ _ (callAny (.type "set") _) _ _ _;erw[Xa ⟨Code.quiet_builtin _ (by decide+kernel),YR F.entry_type_call ?_⟩]
 rw[Around.under_plain (weight_type_call_type "set" [.ref l] []) rfl];have h1:=UR.notType;have h2:=UR.canCreate;have hct:=F.typeCall_set_1 (.ref l)
 repeat (any_goals (first|assumption|wp_step))
 erw[VC (_it (.ref l) (E:=E) (Q₁:=λL z=>L=.ref s.heap.objs.size/\z={s with heap:=s.heap.push (U1 w)}) ⟨rfl,rfl⟩) λr z I=>?_];cases r with
 |error e=>erw[I]
 |ok fl=>
  cases fl with
  |ret L=>
   have⟨rfl,rfl⟩:=I;have a:(s.heap.push (U1 w)).get? s.heap.objs.size=wc (U1 w):=XO _ rfl;have hT:BA {s with heap:=s.heap.push (U1 w)} (.ref s.heap.objs.size) "set":=⟨_,a,rfl⟩;have hli:=UR.init.lookup;have hbi:=UR.init.bind (.ref s.heap.objs.size)
   repeat (any_goals (first|assumption|wp_step))
   erw[VC (AH (R:=wants (λr m=>r=.none/\∃u C o,m={s with heap:=u,toks:=C}/\
     u.get? s.heap.objs.size=wc o/\WSet prog w o (met f items.size)/\
     (∀b o,b<s.heap.objs.size->s.heap.get? b=wc o->u.get? b=wc o)) E) UR.init.plain F.entry_set_init (check_set_init_1 hT ?_)) λN m j=>?_]
   .have⟨ol,O,P,nl,T⟩:=hl;have⟨ocls,g,J,y⟩:=ol;simp only at P T;subst P;subst T;have U:(s.heap.push (U1 w)).get? l=wc {cls:=.type "list",dict:=g,data:=.seq items nl,slots:=y}:=Xu _ O;have hsls:=F.sub_list_set;have hslf:=F.sub_list_frozenset;have hne:(ZK "list"==ZK "dict")=wg:=by decide
    have W:(s.heap.push (U1 w)).IsList l items:=⟨_,U,rfl,nl,rfl⟩;unfold Builtin.«set.__init__» noKeywords Builtin.Frozenset.updateFrom;generalize hPI:pyIter=PI
    wp_walk
    subst hPI;erw[AJ W ?_];erw[X1 (wpAny_runValue ?_)];have Y:l<s.heap.objs.size:=Xw O;have Z:l≠(s.heap.push (U1 w)).objs.size:=by
     rw[Uj];erw[XG (VP Y)]
    have M:s.heap.objs.size∉ [(s.heap.push (U1 w)).objs.size,l]:=by
     rw[Uj];simp only[Xj,XM,or_false,not_or];erw[⟨XG (ZX _),Bc Y⟩]
    erw[_fY ((BB (A:=A.in1.in1.in1) (by simp[hh]) _ l Z items).toS) s.heap.objs.size
     M f hi B (items.size - 0) 0 _ (U1 w) (by lia) (YB _)
     ⟨⟨_,XO _ rfl,rfl,rfl⟩,(W.push _)⟩ (Xu _ a) WSet.fresh ?_]
    intro s' o' D d q;have⟨u,g',d',S,X⟩:=s';have eg:g'=s.gens:=D.gens;have ed:d'=s.drawn:=D.drawn;have eo:X=s.os:=D.os;subst eg;subst ed;subst eo;erw[Xa (Xa ⟨rfl,u,S,o',rfl,d,q,λb o B e=>?_⟩)];erw[D.heap b o ?_ (Xu _ (Xu _ e))];simp only[Xj,XM,or_false,not_or];erw[⟨XG B,by rw[Uj];erw[XG (VP B)]⟩]
   .cases N with
    |error e=>erw[j]
    |ok p=>
     cases p with
     |ret r=>
      have⟨rfl,u,C,o',rfl,d,q,H⟩:=j
      repeat (any_goals (first|assumption|wp_step))
      erw[h _ _ _ d q H]
     |_=>erw[j.elim]
  |_=>erw[I.elim]
end
def slot_setiter_next:Slot "set_iterator" "__next__" "set_iterator.__next__":=
 .of (owner:="set_iterator") (n:="__next__") (by rw[typeLookup_type,builtinLookup_eq_fast];kernel_rfl) (by decide+kernel) (by decide+kernel) (by decide+kernel)
  (by first|erw[.inl (by decide+kernel)]|erw[.inr (by decide+kernel)]) (by rw[isSubtype_type];kernel_rfl)
def HG:Slot "set_iterator" "__iter__" "set_iterator.__iter__":=
 .of (owner:="set_iterator") (n:="__iter__") (by rw[typeLookup_type,builtinLookup_eq_fast];kernel_rfl) (by decide+kernel) (by decide+kernel) (by decide+kernel)
  (by first|erw[.inl (by decide+kernel)]|erw[.inr (by decide+kernel)]) (by rw[isSubtype_type];kernel_rfl)
def HH:entryFor table "set_iterator.__next__"=wc Builtin.«set_iterator.__next__»:=entryFor_of_fast (by kernel_rfl)
def _6M:entryFor table "set_iterator.__iter__"=wc Builtin.«dict_keyiterator.__iter__»:=
 entryFor_alias (id':="dict_keyiterator.__iter__") (by kernel_rfl) rfl (by decide+kernel) (by kernel_rfl)
def _av:entryFor table "set.__iter__"=wc Builtin.«frozenset.__iter__»:=
 entryFor_alias (id':="frozenset.__iter__") (by kernel_rfl) rfl (by decide+kernel) (by kernel_rfl)
def HI(a:X0):argsOk "set_iterator.__next__" ⟨[a],[]⟩:=by unfold argsOk;kernel_rfl
def _7d(a:X0):argsOk "set_iterator.__iter__" ⟨[a],[]⟩:=by unfold argsOk;kernel_rfl
theorem ers{j:Type}:∀(l:List j)(i:Nat)(h:i<l.length),(l[i]::l.eraseIdx i).Perm l
 |[],_,h=>absurd h (by simp)
 |x::xs,0,_=>.refl _
 |x::xs,i+1,h=>(List.Perm.swap x _ _).trans ((ers xs i (by simpa using h)).cons x)
section
variable{prog:Xr}{w:Xl}{A:Xz}{E:X0->X2->Prop}{s:X2}
def _mV(j:n≠0)(h:∀i d,i<n->Q i {s with drawn:=d}):X3 M A (choose src n) Q E s:=λu p l=>by
 unfold choose;rw[Sem.wp_choose];erw[⟨j,by rw[Sem.wp_pure];erw[h _ _ (UN _ (Nat.pos_of_ne_zero j))]⟩]
def _kL{z:Type}:∀(n:Nat)(j:List z)(s:X2)(Q:List z->X2->Prop),j.length=n->(∀l d,l.Perm j->Q l {s with drawn:=d})->X3 M A (drawOrder n j) Q E s:=by
 intro n
 induction n with
 |zero=>
  intro j s Q u h;unfold drawOrder;have:j=[]:=Wx.mp u;subst this;erw[Xa (h [] s.drawn (.refl _))]
 |succ n m=>
  intro j s Q u h;cases j with
  |nil=>simp at u
  |cons x j=>
   unfold drawOrder;erw[X1 (_mV (by simp) λi d y=>?_)]
   rw[X6 y];dsimp only;erw[X1 (m _ _ _ (by rw[FG y];lia) λl g c=>Xa ?_)]
   have:(((x::j)[i])::l).Perm (x::j):=((List.Perm.cons _ c).trans (ers _ _ y));erw[h _ g this]
def _lj{u:Type}(next:Nat->Nat):∀(n k:Nat)(j:List u)(out:Array u),j.length=n->(pickOrder.go next n k j out).toList.Perm (out.toList++j):=by
 intro n
 induction n with
 |zero=>
  intro k j out y;have:j=[]:=Wx.mp y;subst this;unfold pickOrder.go;simp
 |succ n z=>
  intro k j out y;unfold pickOrder.go;have l:next k%j.length<j.length:=UN _ (by lia)
  rw[X6 l];dsimp only;erw[(z _ _ _ (by rw[FG l];lia)).trans ?_]
  rw[Array.toList_push,Vb];erw[(List.Perm.refl _).append (by simpa using ers _ _ l)]
def _gG{l:Type}(next:Nat->Nat)(j:Array l):(pickOrder next j).toList.Perm j.toList:=by
 unfold pickOrder
 simpa using _lj next j.size 0 j.toList #[] (by simp)
noncomputable def SIt(h:Heap)(j S:Addr)(first:X0)(i n l:Nat):Prop:=
 ∃o,h.get? j=wc o/\o.cls=.type "set_iterator"/\o.data=.fields #[first,.int i 0,.ref S,.int n 0,.int l 0]
def SIt.typeIs{first:X0}(x:SIt s.heap it S first i n ep):s.TypeIs (.ref it) "set_iterator":=let⟨o,ho,hc,_⟩:=x;⟨o,ho,hc⟩
def BL{h:Heap}{l:Addr}{o:Obj}{y:Array X0}(z:h.get? l=wc o)(hd:o.data=.fields y)(j:Nat)(v:X0):
  ∃u,(h.update l (Obj.mapFields (·.setIfInBounds j v))).get? l=wc u/\u.cls=o.cls/\u.data=.fields (y.setIfInBounds j v):=
 ⟨_,Vh _ z (Obj.isFreed_of_fields (Obj.data_mapFields hd _)),Obj.cls_mapFields ..,Obj.data_mapFields hd _⟩
noncomputable def Nx(w:Xl)(S:Addr)(u:Array (Int×X0))(y:Nat)(t:Yy)(l i:Nat):Option (X0×Nat):=
 if w.params.followText "set-order"=wf then(pickOrder (w.params.setOrder S y) u)[i]?.map fun e=>(e.2,l)
 else match u[Bw t.place l]?,t.place[Bw t.place l]? with
  |wc (_,x),wc j=>wc (x,j+1)
  |_,_=>we
def _iD{t:Yy}
  (j:s.heap.get? S=wc o)(l:o.data=.set es ep t)(y:t.fits es.size=wf)(hw:w.params.followText "set-order"=wf\/(es.size<=1/\t.led=wf))
  (h:Q (Nx w S es ep t slot i) s):X3 (X8 prog w) A (setNext S slot i ep) Q E s:=by
 unfold setNext;erw[X1 (Wt j l y ?_)];erw[X1 (m:=setsByText) (X1 (Wu (Xa ?_)))];show X3 _ _ (if w.params.followText "set-order"=wf then _ else _) _ _ _;unfold Nx at h;by_cases hb:w.params.followText "set-order"=wf
 .rw[if_pos hb];rw[if_pos hb]at h;simp only[bne_self_eq_false,Z4,if_false];erw[X1 ?_];unfold setWalk;erw[X1 (Wt j l y ?_)];erw[X1 (m:=setsByText) (X1 (Wu (Xa ?_)))];show X3 _ _ (if w.params.followText "set-order"=wf then _ else _) _ _ _;rw[if_pos hb];erw[X1 (Wu (Xa (Xa ?_)))];erw[h]
 .rw[if_neg hb];rw[if_neg hb]at h;have⟨g,z⟩:=hw.resolve_left hb;have u:(!t.plain&&decide (es.size>1))=wg:=by
   rw[decide_eq_false (by lia),Bh]
  show X3 _ _ (if(!t.plain&&decide (es.size>1))=wf then _ else _) _ _ _;rw[u,if_neg XD];erw[X1 ?_];show X3 _ _ (if(!t.led&& !es.isEmpty)=wf then _ else _) _ _ _;rw[z];simp only[Bi,WI,Z4,if_false];erw[Xa (Xa h)]
def HJ(u:A.handled=we)(y:Bf it s.heap h₁)
  (z:∀l,Bf it s.heap l->Q we {s with heap:=l}):
  X3 (X8 prog w) A.in1 (do let x<- newExc (.type "StopIteration") [];(raiseNew x:Sem Fin)) (fun fin j=>∃v,fin=Fin.done (Flow.ret v)/\X3 (X8 prog w) A (pure (wc v)) Q E j)
   (fun e j=>X3 (X8 prog w) A (do let b<- isInstance e (.type "StopIteration");if b=wf then pure we else throw e) Q E j) {s with heap:=h₁}:=by
 erw[X1 ?_];simp only[newExc,newTuple];erw[X1 (ZU ?_ (by size_fits))]
 erw[X1 (m:=firstArgMember _ _) (wpAny_of_eq (a:=UO) (by first|rfl|(simp only[firstArgMember];rfl)) ?_)]
 erw[ZU ?_ (by size_fits)]
 simp only[raiseNew];erw[X1 (wpAny_handled ?_)];rw[show A.in1.handled=we from u];erw[X1 (Xa (wpAny_throw ?_))];erw[X1 (VE (T:="StopIteration") (b:=wf) ⟨_,XO _ rfl,rfl⟩ isSubtype_stop ?_)];erw[Xa (z _ ((y.push _).push _))]
def HK{g S:Addr}{i n d j:Nat}{o:Obj}{y:Array (Int×X0)}{t:Yy}{Q:Option X0->X2->Prop}(U:A.handled=we)
  (z:SIt s.heap g S (.int j 0) i n d)(f:s.heap.get? S=wc o)(q:o.data=.set y d t)(R:t.fits y.size=wf)(W:y.size=n)
  (hw:w.params.followText "set-order"=wf\/(y.size<=1/\t.led=wf))
  (Y:∀x r,Nx w S y d t j i=wc (x,r)->∀c,SIt c g S (.int r 0) (i+1) n d->Uk g s.heap c->Q (wc x) {s with heap:=c})
  (Z:Nx w S y d t j i=we->∀c,Bf g s.heap c->Q we {s with heap:=c}):
  X3 (X8 prog w) A (Z1 (.ref g)) Q E s:=by
 have⟨oi,l,L,u⟩:=id z;unfold Z1;erw[X1 (wpAny_attempt (AF (name:=VX "__next__") z.typeIs slot_setiter_next
  (Zm slot_setiter_next z.typeIs HH ?_ (HI _))))]
 show X3 _ _ (fieldsOf (.ref g)>>= _) _ _ s;erw[X1 (wpAny_fieldsOf l u ?_)];show X3 _ _ (setEntries S >>= _) _ _ s;erw[X1 (wpAny_setEntries_of f q R ?_)];simp only[W,bne_self_eq_false,Z4,if_false];erw[X1 (m:=setNext _ _ _ _) ?_];simp only[YT];erw[_iD f q R hw ?_];cases T:Nx w S y d t j i with
 |none=>
  dsimp only;erw[X1 (VG l u (by simp) ?_)]
  erw[HJ U (Up ..).extBut (Z T)]
 |some p=>
  have⟨x,r⟩:=p;dsimp only;have⟨C,e,N,hd1⟩:=BL l u 0 (Y8 r);erw[X1 (VG l u (by simp) ?_)]
  erw[X1 (VG e hd1 (by simp) ?_)]
  have⟨B,O,P,hd2⟩:=BL e hd1 1 (Y8 ((i:Int)+1));erw[Xa ⟨x,rfl,Xa (Y x r T _ ⟨B,O,P.trans (N.trans L),?_⟩ ((Up ..).trans (Up ..)))⟩];rw[hd2];simp[Y8]
def HL{u S P:Addr}{i n L:Nat}{o T:Obj}{q:Array (Int×X0)}{t:Yy}{r:Array X0}{Z:Nat}{Q:Option X0->X2->Prop}(B:A.handled=we)
  (y:SIt s.heap u S (.ref P) i n L)(d:s.heap.get? S=wc o)(c:o.data=.set q L t)(U:t.fits q.size=wf)(C:q.size=n)
  (N:s.heap.get? P=wc T)(O:T.data=.seq r Z)
  (D:∀v,r[i]?=wc v->∃(p:Nat) (e:Int×X0),v=.int p 0/\q[p]?=wc e/\∀g,SIt g u S (.ref P) (i+1) n L->Uk u s.heap g->Q (wc e.2) {s with heap:=g})
  (F:r[i]?=we->∀g,Bf u s.heap g->Q we {s with heap:=g}):
  X3 (X8 prog w) A (Z1 (.ref u)) Q E s:=by
 have⟨oi,j,R,l⟩:=id y;unfold Z1;erw[X1 (wpAny_attempt (AF (name:=VX "__next__") y.typeIs slot_setiter_next
  (Zm slot_setiter_next y.typeIs HH ?_ (HI _))))]
 show X3 _ _ (fieldsOf (.ref u)>>= _) _ _ s;erw[X1 (wpAny_fieldsOf j l ?_)];show X3 _ _ (setEntries S >>= _) _ _ s;erw[X1 (wpAny_setEntries_of d c U ?_)];simp only[C,bne_self_eq_false,Z4,if_false];erw[X1 (m:=seqItems? _) (Wv N O ?_)];simp only[YT];cases W:r[i]? with
 |none=>
  dsimp only;have⟨Y,z,f,hd1⟩:=BL j l 0 (Y8 0);erw[X1 (VG j l (by simp) ?_)]
  erw[X1 (VG z hd1 (by simp) ?_)]
  erw[HJ (s:=s) (it:=u) B ?_ (F W)];erw[Heap.SameBut.extBut (Heap.SameBut.trans (Up _ _ _) (Up _ _ _))]
 |some v=>
  have⟨p,e,rfl,G,I⟩:=D v W;dsimp only;erw[X1 ?_];unfold setNextDrawn;erw[X1 (Wt d c U ?_)];simp only[YT,bne_self_eq_false,Z4,if_false,G];have⟨k,x⟩:=e;erw[Xa ?_];have⟨Y,z,f,hd1⟩:=BL j l 1 (Y8 ((i:Int)+1));erw[X1 (VG j l (by simp) ?_)]
  erw[Xa ⟨x,rfl,Xa (I _ ⟨Y,z,f.trans R,?_⟩ (Up ..))⟩];rw[hd1];simp[Y8]
def HM{first:X0}(j:SIt s.heap it S first i n ep)(h:Q (.ref it) s):
  X3 (X8 prog w) A (pyIter (.ref it)) Q E s:=by
 erw[wpAny_pyIter_slot j.typeIs HG (Zm HG j.typeIs _6M ?_ (_7d _))];show X3 _ _ (ret (.ref it)) _ _ s;erw[Xa ⟨_,rfl,"set_iterator",_,j.typeIs,slot_setiter_next.lookup,h⟩]
def SIt.at{first:X0}(x:SIt h it S first i n ep)(e:∀o,h.get? it=wc o->h'.get? it=wc o):SIt h' it S first i n ep:=
 let⟨o,ho,r⟩:=x;⟨o,e _ ho,r⟩
def _mX(R:A.handled=we){I S:Addr}{n f:Nat}{o:Obj}{y:Array (Int×X0)}{t:Yy}{T:List X0}{Good:Nat->Nat->Prop}(L:S≠I)
  (d:o.data=.set y f t)(U:t.fits y.size=wf)(W:y.size=n)(hw:w.params.followText "set-order"=wf\/(y.size<=1/\t.led=wf))
  (Y:∀i u,Good i u->(i<n->∃x N,Nx w S y f t u i=wc (x,N)/\T[i]?=wc x/\Good (i+1) N)/\(i=n->Nx w S y f t u i=we)):
  Walks prog w A I [I,S] [I] n (λi v=>T[i]?=wc v) (λi h=>∃u,Good i u/\SIt h I S (.int (u:Nat) 0) i n f/\h.get? S=wc o)where
 sub:=λb m=>by simp at m;simp[m]
 frame:=λ_ _ _ st Z=>let⟨u,g,j,l⟩:=st;⟨u,g,j.at λo e=>Z I (by simp) o e,Z S (by simp) _ l⟩
 item:=λi s Q E C st c=>by
  have⟨u,g,j,l⟩:=st;have⟨x,N,r,D,F⟩:=(Y i u g).1 C;erw[HK R j l d U W hw (λG O q p B P=>?_) (λq=>by rw[r]at q;simp at q)]
  rw[r]at q;simp only[Bl,Prod.mk.injEq]at q;have⟨rfl,rfl⟩:=q;erw[c _ p s.toks D ⟨_,F,B,(P.2 S L).trans l⟩ λb o m e=>(P.2 b (λz=>m (by simp[z]))).trans e]
 done:=λs Q E st c=>by
  have⟨u,g,j,l⟩:=st;have r:=(Y n u g).2 rfl;erw[HK R j l d U W hw (λG O q p B P=>by rw[r]at q;simp at q) (λ_ p a=>c p s.toks λb o m e=>a b o (λz=>m (by simp[z])) e)]
 self:=λ_ _ _ _ st c=>let⟨_,_,j,_⟩:=st;HM j c
def _mW(R:A.handled=we){I S P:Addr}{n T B:Nat}{o U:Obj}{c:Array (Int×X0)}{t:Yy}{f:List Nat}{W:List X0}(r:S≠I)(p:P≠I)
  (m:o.data=.set c T t)(Y:t.fits c.size=wf)(Z:c.size=n)(g:U.data=.seq (f.map λi:Nat=>Y8 i).toArray B)
  (G:f.length=n)(C:∀(i:Nat)(j:Nat),f[i]?=wc j->∃e,c[j]?=wc e/\W[i]?=wc e.2):
  Walks prog w A I [I,S,P] [I] n (λi v=>W[i]?=wc v) (λi h=>SIt h I S (.ref P) i n T/\h.get? S=wc o/\h.get? P=wc U)where
 sub:=λb y=>by simp at y;simp[y]
 frame:=λ_ _ _ st L=>⟨st.1.at λo e=>L I (by simp) o e,L S (by simp) _ st.2.1,L P (by simp) _ st.2.2⟩
 item:=λi s Q E J st d=>by
  erw[HL R st.1 st.2.1 m Y Z st.2.2 g (λv u=>?_) (λq=>?_)]
  .simp only[CQ,Xe,Vl]at u;have⟨j,l,rfl⟩:=u;have⟨e,D,u⟩:=C i j l;erw[⟨j,e,rfl,D,λN F O=>d _ N s.toks u ⟨F,(O.2 S r).trans st.2.1,(O.2 P p).trans st.2.2⟩ λb o y e=>(O.2 b (λz=>y (by simp[z]))).trans e⟩]
  .simp at q;lia
 done:=λs Q E st d=>by
  erw[HL R st.1 st.2.1 m Y Z st.2.2 g (λv u=>?_) (λ_ N a=>d N s.toks λb o y e=>a b o (λz=>y (by simp[z])) e)]
  simp only[CQ,Xe,Vl]at u;have⟨j,l,rfl⟩:=u;rw[ZC (by lia)]at l
  simp at l
 self:=λ_ _ _ _ st d=>HM st.1 d
def _i8{d:Type}(l:Array d){u:List Nat}(m:u.Perm (Xq l.size)):
  ∃g:List d,g.Perm l.toList/\g.length=u.length/\∀(i:Nat)(j:Nat),u[i]?=wc j->∃e,l[j]?=wc e/\g[i]?=wc e:=by
 have y:∀j∈u,j<l.size:=λj z=>Zd.mp (m.mem_iff.mp z);erw[⟨u.filterMap λj=>l[j]?,(m.filterMap _).trans (by rw[filterMap_getElem?_range]),?_⟩]
 clear m
 induction u with
 |nil=>erw[⟨rfl,λi j h=>by simp at h⟩]
 |cons j u c=>
  have z:=y j Y2;have⟨f,q⟩:=c λk r=>y k (XJ _ r);rw[List.filterMap_cons_some (b:=l[j]) (by simp[z])]
  erw[⟨by simp[f],λi k h=>?_⟩]
  cases i with
  |zero=>
   simp at h;subst h;erw[⟨l[j],by simp[z],rfl⟩]
  |succ i=>
   simp at h;have⟨e,p,L⟩:=q i k h;erw[⟨e,p,by simpa using L⟩]
def ZqJ(prog:Xr)(w:Xl)(z:List Str)(j:Heap)(S I:Addr)(m:Heap):Prop:=
 ∃(u:List Addr) (n:Nat) (l:List X0) (St:Nat->Heap->Prop),
  (∀y:Xz,y.handled=we->Walks prog w y I u [I] n (λi v=>l[i]?=wc v) St)/\St 0 m/\l.length=n/\(l.map txt).Perm z/\(∀v∈l,∃t,v=Zf (txt v) t)/\
  (∀b∈u,b=S\/j.objs.size<=b)/\j.objs.size<=I
def HN(h:p.size=1)(j:Nat):Bw p j=if p[0]'(by lia)<j then 1 else 0:=by
 have⟨l⟩:=p
 match l,h with
 |[a],_=>
  show(if 0<1 then(if(#[a]:Array Nat).getD ((0+1)/2) j<j then Gq #[a] j 0 ((0+1)/2+1) 1 else Gq #[a] j 0 0 ((0+1)/2))else 0)=if a<j then 1 else 0;rw[if_pos (by lia)]
  rfl
def _fZ{S:Addr}{o:Obj}{B:List Str}{Q:X0->X2->Prop}(q:s.heap.get? S=wc o)(hS:WSet prog w o B)
  (hQ:∀(I:Addr)(h':Heap)d,ZqJ prog w B s.heap S I h'->(∀b o,s.heap.get? b=wc o->h'.get? b=wc o)->Q (.ref I) {s with heap:=h',drawn:=d}):
  X3 (X8 prog w) A (pyIter (.ref S)) Q E s:=by
 have⟨hex,u,U,t,hd,hel,hp,W,L,C,hpl⟩:=id hS;have hT:s.TypeIs (.ref S) "set":=⟨o,q,hex.1⟩;have D:S<s.heap.objs.size:=Xw q;have hsz:u.size=B.length:=by rw[<-hp.length_eq,X5,Yg]
 have N:∀e∈u.toList,∃t,e.2=Zf (txt e.2) t:=λe g=>by
  have⟨⟨k,hk,_⟩,_⟩:=hel e g;have⟨t,ht⟩:=isT.mp hk;erw[⟨t,by rw[ht];rfl⟩]
 have hsl:sizeLine=16777216:=by decide
 have hsb:scanBound=4096:=rfl;erw[wpAny_pyIter_slot hT F.slot_set_iter (Zm F.slot_set_iter hT _av ?_ (F.args_set_iter_1 _))];show X3 _ _ (Gi S >>= _) _ _ s;erw[X1 (m:=Gi S) (X1 (wpAny_setEntries_of q hd L (Xa ?_)))];erw[X1 (m:=setDrawn S) ?_];unfold setDrawn;erw[X1 (Wt q hd L ?_)];erw[X1 (m:=setsByText) (X1 (Wu (Xa (Xa ?_))))];show X3 _ _ (if(!w.params.followText "set-order"&&(!t.plain&&decide (u.size>1)))=wf then _ else _) _ _ _;have rest:∀(first:X0)(l:X2)(R:Fin->X2->Prop),l.heap.get? S=wc o->
   R (.done (.ret (.ref l.heap.objs.size))) {l with heap:=l.heap.push {cls:=.type "set_iterator",data:=.fields #[first,.int 0 0,.ref S,.int (u.size:Nat) 0,.int U 0]} }->
   X3 (X8 prog w) A.in1 (do let e<- setEpoch S;let v<- newFields "set_iterator" [first,Y8 0,.ref S,Y8 (u.size:Nat),Y8 e];ret v) R E l:=by
  intro first l R O h
  erw[X1 (wpAny_setEpoch_of O hd L ?_)];erw[X1 (ZU (Xa h))]
 have y:∀(Good:Nat->Nat->Prop)(Y:List X0),Good 0 0->Y.length=u.size->(Y.map txt).Perm B->(∀v∈Y,∃t,v=Zf (txt v) t)->
   (w.params.followText "set-order"=wf\/(u.size<=1/\t.led=wf))->
   (∀i c,Good i c->(i<u.size->∃x nx,Nx w S u U t c i=wc (x,nx)/\Y[i]?=wc x/\Good (i+1) nx)/\(i=u.size->Nx w S u U t c i=we))->
   ∀(l:X2),l=s->X3 (X8 prog w) A.in1 (do let e<- setEpoch S;let v<- newFields "set_iterator" [Y8 0,Y8 0,.ref S,Y8 (u.size:Nat),Y8 e];ret v)
    (fun fin s'=>∃v,fin=Fin.done (Flow.ret v)/\∃T' r,s'.TypeIs v T'/\typeLookup (.type T') "__next__"=pure (wc r)/\Q v s') E l:=by
  intro Good Y g0 hlv hpv hsv hw hg l G;subst G;erw[rest _ _ _ q ⟨_,rfl,"set_iterator",_,⟨_,XO _ rfl,rfl⟩,slot_setiter_next.lookup,?_⟩];erw[hQ _ _ l.drawn ⟨[l.heap.objs.size,S],u.size,Y,_,λA' hh=>_mX hh (XG D) hd L rfl hw hg,⟨0,g0,⟨_,XO _ rfl,rfl,rfl⟩,Xu _ q⟩,hlv,hpv,hsv,λb W=>?_,X9 _⟩ λb o e=>Xu _ e];simp only[Xj,XM,or_false]at W;rcases W with rfl|rfl
  .erw[.inr (X9 _)]
  .erw[.inl rfl]
 by_cases hbt:w.params.followText "set-order"=wf
 .rw[hbt];simp only[Bi,WI,Z4,if_false];erw[X1 (Xa ?_)];have f:=_gG (w.params.setOrder S U) u;erw[y (λ_ _=>True) ((pickOrder (w.params.setOrder S U) u).toList.map (·.2)) trivial ?_ ?_ ?_ (.inl hbt) ?_ s rfl]
  .rw[X5,f.length_eq,Yg]
  .rw[XZ];erw[(f.map _).trans hp]
  .intro v J;have⟨e,g,rfl⟩:=XA.mp J;erw[N e (f.mem_iff.mp g)]
  .intro i c _;have hps:(pickOrder (w.params.setOrder S U) u).size=u.size:=by rw[<-Yg,f.length_eq,Yg]
   unfold Nx;rw[if_pos hbt];erw[⟨λhi=>?_,λhi=>?_⟩]
   .rw[Vi (by lia)]
    erw[⟨_,_,rfl,by simp[hps,hi],trivial⟩]
   .rw[Dg (by lia)]
    rfl
 .have M:w.params.followText "set-order"=wg:=by simpa using hbt
  have hlt:t.led=wf:=by rw[C,M];rfl
  rw[M];simp only[De,Bj];by_cases h1:u.size>1
  .have hz:B≠ []:=λz=>by rw[z,List.length_nil]at hsz;lia
   rw[hpl hz,decide_eq_true h1];simp only[De,Bool.and_self,if_true];erw[X1 (_kL _ _ _ _ (by simp) λZ d hj=>?_)]
   have⟨ys,X,hy2,hy3⟩:=_i8 u hj;have H:Z.length=u.size:=by rw[hj.length_eq,Ud]
   erw[X1 (wpAny_newTuple ?_ (by rw[X5];lia))]
   erw[rest _ _ _ (Xu _ q) ⟨_,rfl,"set_iterator",_,⟨_,XO _ rfl,rfl⟩,slot_setiter_next.lookup,?_⟩];have n:s.heap.objs.size≠(s.heap.push {cls:=.type "tuple",data:=.seq (Z.map fun i:Nat=>Y8 i).toArray}).objs.size:=by rw[Uj];lia
   have a:S≠(s.heap.push {cls:=.type "tuple",data:=.seq (Z.map fun i:Nat=>Y8 i).toArray}).objs.size:=by rw[Uj];erw[XG (VP D)]
   have p:s.heap.objs.size<=(s.heap.push {cls:=.type "tuple",data:=.seq (Z.map fun i:Nat=>Y8 i).toArray}).objs.size:=by rw[Uj];lia
   erw[hQ _ _ d ⟨[_,S,s.heap.objs.size],u.size,ys.map (·.2),_,λA' hh=>_mW hh (S:=S) (P:=s.heap.objs.size) (o:=o) (f:=Z)
    (U:={cls:=.type "tuple",data:=.seq (Z.map fun i:Nat=>Y8 i).toArray}) a n hd L rfl rfl H ?_,
    ⟨⟨_,XO _ rfl,rfl,rfl⟩,Xu _ (Xu _ q),Xu _ (XO _ rfl)⟩,?_,?_,?_,λb W=>?_,?_⟩
    λb o e=>Xu _ (Xu _ e)]
   .intro i j hij;have⟨e,g,hy⟩:=hy3 i j hij;erw[⟨e,g,by rw[Xe,hy];rfl⟩]
   .rw[X5,hy2,H]
   .rw[XZ];erw[(X.map _).trans hp]
   .intro v J;have⟨e,g,rfl⟩:=XA.mp J;erw[N e (X.mem_iff.mp g)]
   .simp only[Xj,XM,or_false]at W;rcases W with rfl|rfl|rfl
    .erw[.inr p]
    .erw[.inl rfl]
    .erw[.inr (X9 _)]
   .erw[p]
  .rw[decide_eq_false h1];simp only[Bh,Z4,if_false];erw[X1 (Xa ?_)];have hfp:t.place.size=u.size:=by
    simp only[SetTable.fits,XQ,beq_iff_eq,decide_eq_true_eq]at L;erw[L.1]
   erw[y (λi c=>(i=0->c=0)/\(i=1->∃h:0<t.place.size,c=t.place[0]+1)) (u.toList.map (·.2)) ⟨λ_=>rfl,λz=>absurd z (by lia)⟩ (by simp) ?_ ?_ (.inr ⟨by lia,hlt⟩) ?_ s rfl]
   .rw[XZ];erw[hp]
   .intro v J;have⟨e,g,rfl⟩:=XA.mp J;erw[N e g]
   .intro i c ⟨g0,g1⟩;unfold Nx;rw[if_neg hbt];erw[⟨λhi=>?_,λhi=>?_⟩]
    .have hs1:u.size=1:=by lia
     have hi0:i=0:=by lia
     subst hi0;have hpz:t.place.size=1:=by lia
     rw[g0 rfl,HN hpz,if_neg (by lia),Vi (by lia),Vi (by lia)]
     erw[⟨_,_,rfl,?_,λz=>absurd z (by lia),λ_=>⟨by lia,rfl⟩⟩]
     simp[hs1]
    .have T:u[Bw t.place c]?=we:=by
      by_cases h0:u.size=0
      .erw[Dg (by lia)]
      .have hs1:u.size=1:=by lia
       have⟨hq,e⟩:=g1 (by lia)
       rw[e,HN (by lia),if_pos (by lia)]
       erw[Dg (by lia)]
     rw[T]
def _d4(hh:A.handled=we)(ho:s.heap.get? S=wc o)(hS:WSet prog w o zs)
  (hQ:∀(R:List X0)(T:Heap)(d:Drawn)(g:Array GenState)tk,(R.map txt).Perm zs->(∀v∈R,∃t,v=Zf (txt v) t)->(∀b o,s.heap.get? b=wc o->T.get? b=wc o)->g=s.gens->s.heap.objs.size<=T.objs.size->
   Q R {s with heap:=T,drawn:=d,gens:=g,toks:=tk}):X3 (X8 prog w) A (collect (.ref S)) Q E s:=by
 have⟨U,es,ep,t,hd,hel,hp,Y,hf,hled,hpl⟩:=id hS;have X:S<s.heap.objs.size:=Xw ho;have hsl:sizeLine=16777216:=by decide
 have hsb:scanBound=4096:=rfl;have hsz:es.size=zs.length:=by rw[<-hp.length_eq,X5,Yg]
 unfold collect;erw[X1 (wpAny_runValue (YR F.entry_proto_collect ?_))];rw[Z5 F.plain_proto_collect _];show X3 _ A.in1 (newList [] >>= fun l=>again (.builtin "list.__iadd__" ⟨[l,.ref S],[]⟩)) _ _ s;erw[X1 (ZU ?_)];erw[Xa ⟨Z2 F.plain_list_iadd _,YR F.entry_list_iadd ?_⟩];rw[Z5 F.plain_list_iadd _];show X3 _ A.in1 (Gc (.ref s.heap.objs.size) (.ref S) (.ref s.heap.objs.size)) _ _ _;have Z:s.heap.objs.size≠S:=(XG X).symm;generalize hL:s.heap.objs.size=L at*;have H:(s.heap.push {cls:=.type "list",data:=.seq ([]:List X0).toArray}).get? L=wc {cls:=.type "list",data:=.seq ([]:List X0).toArray}:=by
  rw[<-hL];erw[XO _ rfl]
 have r:(s.heap.push {cls:=.type "list",data:=.seq ([]:List X0).toArray}).get? S=wc o:=Xu _ ho;have f:(s.heap.push {cls:=.type "list",data:=.seq ([]:List X0).toArray}).objs.size=L+1:=by rw[Uj,hL]
 have B:∀b u,s.heap.get? b=wc u->b≠L/\(s.heap.push {cls:=.type "list",data:=.seq ([]:List X0).toArray}).get? b=wc u:=fun b u e=>
  ⟨by rw[<-hL];erw[XG (Xw e)],Xu _ e⟩
 generalize s.heap.push {cls:=.type "list",data:=.seq ([]:List X0).toArray}=h₁ at*;have hT:BA {s with heap:=h₁} (.ref S) "set":=⟨o,r,U.1⟩;unfold Gc;erw[X1 (V7 hT ?_)];have e1:Gd (.ref L) (.ref S)=wg:=by simp[Gd,Z]
 have e2:(ZK "set"==ZK "list")=wg:=by decide
 have e3:(ZK "set"==ZK "tuple")=wg:=by decide
 simp only[e1,e2,e3,Bool.or_false,Z4,if_false];erw[X1 (_fZ (s:={s with heap:=h₁}) r hS λI j d hW hk=>?_)];have⟨fp,n,R,St,x,h,a,C,hvs,hfp,hI⟩:=hW;have p:∀b u,h₁.get? b=wc u->j.get? b=wc u:=hk;have N:BA {s with heap:=j,drawn:=d} (.ref S) "set":=⟨o,p _ _ r,U.1⟩;erw[X1 (Yx ?_)];unfold Builtin.List.listLengthHint;erw[X1 (wpAny_specialOf N F.slot_set_len.lookup ?_)];have hsp:splitId "set.__len__"=wc ("set","__len__"):=by decide+kernel
 extract_lets j1 j2
 dsimp -zeta only;rw[hsp];dsimp -zeta only;erw[X1 (VE N sub_set_self ?_)];simp only[Bi,Z4,if_false];show X3 _ _ (ite (_=wf) _ _) _ _ _;split
 case isFalse hs=>erw[absurd (by rfl) hs]
 erw[X1 (V7 N ?_)];erw[Xa ?_];split
 case isFalse hs=>erw[absurd (by rfl) hs]
 erw[X1 (VF ?_)];erw[X1 ?_];have m:j.get? L=wc {cls:=.type "list",data:=.seq ([]:List X0).toArray}:=p _ _ H;show X3 _ A.in1 (updateSeq L (·.push .none)>>= λ_=>updateSeq L (·.pop)) _ _ _;erw[X1 (Ww m rfl ?_)];have c:=Vh (Ur (·.push UO)) m rfl;erw[Ww c rfl ?_];have O:=Vh (Ur (·.pop)) c rfl;have D:∀b o,b≠L->j.get? b=wc o->((j.update L (Ur (·.push UO))).update L (Ur (·.pop))).get? b=wc o:=
  λb o Y e=>(Ui _ _ (XR Y)).trans ((Ui _ _ (XR Y)).trans e)
 have G:L∉fp:=λz=>by
  rcases hfp L z with e|e
  .erw[Z e]
  .have:L+1<=L:=f▸e;lia
 have hin:A.in1.handled=we:=by simp[hh]
 have W:=(x A.in1 hin).toS;have hn:n<=sizeLine:=by
  have:n=zs.length:=by rw[<-a,<-C.length_eq,X5]
  lia
 erw[Xa ⟨Z2 F.plain_extend_loop _,codeAny_extend_loopS W hn L G _ n 0 _ _ _ rfl (YB _)
  (W.frame 0 ({s with heap:=j,drawn:=d}:X2) _ s.toks h (X9 _) λb Y o e=>D b o (λz=>G (z▸Y)) e) O (ItemsOf.nil _) λs' y c' M J q=>?_⟩]
 show X3 _ A (load L >>= _) _ _ s';erw[X1 (wpAny_load J ?_)];have hav:y.toList=R:=by
  erw[WB λi=>?_];by_cases hi:i<y.size
  .have e:=q.2 i y[i] (by simp[hi])
   rw[e];simp[hi]
  .rw[ZC (by simp;lia),ZC (by have:=q.1;lia)]
 have⟨T,g',d',tk',os'⟩:=s';have eg:g'=s.gens:=M.gens;have ed:d'=d:=M.drawn;have eo:os'=s.os:=M.os;subst ed;subst eo;erw[Xa ?_];show Q y.toList _;rw[hav];erw[hQ R T _ g' tk' C hvs (λb u e=>?_) eg (ZJ (Xw J))];have P:=B b u e;erw[M.heap b u ?_ (D b u P.1 (p b u P.2))];simp only[Xj,XM,or_false,not_or];erw[⟨P.1,λz=>?_⟩];have h1:L+1<=I:=Xv (WH f.symm) hI;have h2:b<L:=by rw[<-hL];erw[Xw e]
 rw[z]at h2;erw[absurd h1 (Nat.not_le_of_lt (VP h2))]
def _dj(B:A.handled=we)(C:s.heap.get? S=wc o)(D:WSet prog w o zs)(F:zs.length<64)
  (h:∀(p:Addr)(r:Heap)(d:Drawn)q (out:List X0)(L:List Str)(e:Nat),s.heap.objs.size<=p->(∀b o,s.heap.get? b=wc o->r.get? b=wc o)->r.get? p=wc (seqObj "list" out.toArray e)->
   StrsAre out L->L.Perm zs->sortedS L=wf->Q (.ref p) {s with heap:=r,drawn:=d,toks:=q}):
  X3 (X8 prog w) A (call (.builtin "sorted") [.ref S]) Q E s:=by
 erw[Calls.call_function_entry kind_sorted plain_sorted entry_sorted (args_sorted1 _) ?_];unfold Builtin.«sorted»;erw[X1 (m:=checkCount "sorted" 1 1 _) (Xa ?_)];have G:sizeLine=16777216:=by decide
 erw[X1 (_d4 (by simp[B]) C D λl j d g q T U I J N=>?_)]
 subst J;have a:l.length=zs.length:=by rw[<-T.length_eq,X5]
 erw[X1 (wpAny_newList ?_ (by lia))]
 have u:(j.push (seqObj "list" l.toArray 0)).get? j.objs.size=wc (seqObj "list" l.toArray 0):=XO _ rfl;have y:StrsAre l (l.map strOf):=strsAre_map l λv O=>by have⟨t,e⟩:=U v O;erw[⟨_,t,e⟩]
 have P:l.map strOf=l.map txt:=List.map_congr_left λv O=>by have⟨t,e⟩:=U v O;rw[e];rfl
 show X3 _ _ _ _ _ {s with heap:=j.push (seqObj "list" l.toArray 0),drawn:=d,toks:=q};erw[X1 (Yx (Zm slot_list_sort ⟨_,u,rfl⟩ entry_list_sort (list_sort_treeK strKind_oneLt u y.keysOf (λW Y rest e=>keyKind_strs (by rw[<-e];erw[y])) (by lia) λz M X=>⟨_,rfl,?_⟩) (args_list_sort _)))]
 have⟨R,H,Z,i⟩:=sorted_out_str y M X;erw[Xa ⟨_,rfl,?_⟩];have⟨e,n⟩:=sortedHeap_at (out:=(arrOf z).map (·.2)) u;erw[h j.objs.size _ d q ((arrOf z).map (·.2)).toList R e N (λb o x=>?_) (by rw[Array.toArray_toList];erw[n]) H (by rw[P]at Z;erw[Z.trans T]) i]
 have c:=I b o x;have f:b<j.objs.size:=Xw c;rw[sortedHeap_old (XG f) (by rw[size_push'];erw[VP f])]
 erw[Xu _ c]
end
def Inv.drew(I:Inv X pq σ H s)(d:Drawn):Inv X pq σ H {s with drawn:=d}:=
 ⟨I.ok,I.os,I.bare,I.base,I.loc,I.cell,I.free,I.freeC,I.pin,I.hok,I.len⟩
def few{j:List Str}(l:j.Nodup):∀(N:List Str),(∀z∈j,z∈N)->j.length<=N.length:=by
 induction j with
 |nil=>intro N _;erw[YB _]
 |cons z j m=>
  intro N h;rw[Yc]at l;have g:=h z Y2;have u:=List.perm_cons_erase g;have:=m l.2 (N.erase z) λy w=>by
   have:=u.mem_iff.mp (h y (XJ _ w));rcases Xj.mp this with e|e
   .erw[absurd (e▸w) l.1]
   .erw[e]
  have d:=u.length_eq;simp only[Yj]at d ⊢;lia
theorem HP:∀{j:List X0} {l:List Str},StrsAre j l->Vals (l.map V.str) j
 |_,_,.nil=>.nil
 |_,_,.cons x t h=>.cons ⟨t,rfl⟩ (HP h)
def WZ(X:Cx)(f g:X0)(r:V->Hp->VK->Prop):Prop:=
 ∀(j:List (Addr×Obj))(s:X2)(l:St)(H:Hp)(x:V)(u:X0)(Q:VK),Inv X j l H s->RelV x u->r x H Q->
  X3 (X8 X.prog X.w) X.A (call g [u]) (λv w=>X3 (X8 X.prog X.w) X.A (call f [v]) (EP X j l Q) X.xe w) X.xe s
section
variable{X:Cx}
def DC{x y:Str}{id T:String}{r:V->Hp->VK->Prop}{e:Expr}{t:TE}{p L l j:Pos}(P:WZ X (.builtin id) (.type T) r)
  (R:Gl X x)(U:X.mg x=we)(W:YI x=wc (.builtin id))(m:Gl X y)(g:X.mg y=we)(d:YI y=wc (.type T))(Y:PE X e t)
  (Z:x≠"__name__")(c:(x==("__debug__":Str))=wg)(f:y≠"__name__")(w:(y==("__debug__":Str))=wg)
  (N:Xx [e] X.env=(wg,eval e X.env)::Xx [] X.env):
  PE X (.Call (.Name x p) [.Call (.Name y L) [e] [] j] [] l) (λz H Q=>t z H λv q=>r v q Q):=by
 intro O s z H Q I h;erw[U9 (Us I R U W ?_ Z c)];erw[FQ ?_ rfl rfl];show X3 _ _ (spliced ((wg,eval (.Call (.Name y L) [e] [] j) X.env)::Y0 l (Xx [] X.env))) _ _ s;erw[WL ?_];erw[U9 (Us I m g d ?_ f w)];erw[WK ?_ N rfl];rw[N];show X3 _ _ (spliced ((wg,eval e X.env)::Y0 j (Xx [] X.env))) _ _ s;erw[WL (thn (Y O s z H _ I h) λu A B=>?_)];have⟨v,q,C,D,E⟩:=B;erw[WM ?_];erw[thn (P O A z q v u Q C D E) λG J F=>WM F]
def _i0(c:X.calm=wf):WZ X (.builtin "sorted") (.type "set") (fun x H Q=>∃(a:Addr) (l N:List Str),x=.ref a/\SqL X.K H a (l.map V.str)/\l.length+1<scanBound/\(∀z∈l,z∈N)/\N.length<64/\
  ∀p (A:List Str),H p=we->A.Nodup->(∀y,y∈A↔y∈l)->sortedS A=wf->Q (.ref p) (upd H p (.lst (A.map V.str)))):=by
 intro pq s σ H x u Q I rx h;have⟨a,l,N,rfl,ha,O,S,P,q⟩:=h;cases rx;have⟨g,n,p,B⟩:=I.list ha;have hh:=I.ok.hd c;have R:g.length=l.length:=by rw[<-n.length,X5]
 have T:g.toArray.size=l.length:=by simp[R]
 have hi:∀(i:Nat)(v:X0),g.toArray[i]?=wc v->∃t,v=Zf (l.getD i ⟨#[]⟩) t:=λi v hv=>by
  have U:g[i]?=wc v:=by simpa using hv
  have W:i<l.length:=by rw[<-R];erw[(Xm.mp U).1]
  have⟨u,hu,ru⟩:=n.get (i:=i) (x:=V.str l[i]) (by simp[W])
  rw[U]at hu;cases hu;have⟨t,rfl⟩:=ru;erw[⟨t,by simp[WF,W]⟩]
 have m:∀y,y∈met (λi=>l.getD i ⟨#[]⟩) l.length↔y∈l:=λy=>by
  rw[HC,List.mem_iff_getElem];constructor
  .rintro⟨j,Y,rfl⟩;erw[⟨j,Y,by simp[WF,Y]⟩]
  .rintro⟨j,Y,rfl⟩;erw[⟨j,Y,by simp[WF,Y]⟩]
 erw[_i1 (f:=λi=>l.getD i ⟨#[]⟩) hh p.isList hi (by rw[T];erw[O]) λh1 Z o ho hS hk=>?_]
 rw[T]at hS;have I1:Inv X pq σ H {s with heap:=h1,toks:=Z}:=I.kept λb u e=>hk b u (Xw e) e;have C:=HB (λi=>l.getD i ⟨#[]⟩) l.length;erw[_dj (s:={s with heap:=h1,toks:=Z}) hh ho hS (Ba (few C N λz B=>S z ((m z).mp B)) P) λD h2 d E out F e hp G J M w r=>?_];have L:F.length<=sizeLine:=by
  have hsl:sizeLine=16777216:=by decide
  have:=few C N λz B=>S z ((m z).mp B);rw[w.length_eq];lia
 have I2:=(I1.laid (a:=D) (t':=E) (h':=h2) (o:=.lst (F.map V.str)) (λb u e=>G b u e) hp
  ⟨by rw[X5];erw[L],out,e,HP M,J⟩).drew d
 erw[⟨.ref D,_,I2,rfl,q D F (I1.hok.fresh hp) (w.nodup_iff.mpr C) (λy=>(w.mem_iff).trans (m y)) r⟩]
end
def _h6{c:String}(L:c="list"\/c="tuple"){l:Xr}{w:Xl}{A:Xz}{E:X0->X2->Prop}{s:X2}{a:Addr}{j:Array X0}{n:Nat}{m:Array (Option X0)}{Q:Option X0->X2->Prop}(r:s.heap.get? a=wc ⟨.type c,we,.seq j n,m⟩)(N:A.handled=we)
  (O:∀y f,(∀b o,s.heap.get? b=wc o->y.get? b=wc o)->Q we {s with heap:=y,toks:=f}):X3 (X8 l w) A (getAttr? (.ref a) "keys") Q E s:=by
 obtain⟨id,q,P,T,U,W⟩:∃id,Slot c "__getattribute__" id/\entryFor table id=wc Builtin.«object.__getattribute__»/\(∀b,argsOk id ⟨[.ref a,b],[]⟩)/\(∀u,Meets (Builtin.«object.__getattribute__» ⟨[.ref a,.str "keys" u],[]⟩) (fun A R s=>s.heap.get? a=wc ⟨.type c,we,.seq j n,m⟩/\raisesAttr (.ref a) "keys" A R s))/\typeLookup (.type c) "__getattr__"=pure we:=by
  rcases L with rfl|rfl
  .erw[⟨_,F.slot_list_getattribute,am_entry_list_getattribute,F.args_list_getattribute_2 _,fun u=>meets_getattribute_miss_list a j n m "keys" u (am_miss_of_fast (by kernel_rfl)) (by kernel_rfl),am_list_getattr_none⟩]
  .erw[⟨_,F.slot_tuple_getattribute,am_entry_tuple_getattribute,F.args_tuple_getattribute_2 _,fun u=>meets_getattribute_miss_tuple a j n m "keys" u (am_miss_of_fast (by kernel_rfl)) (by kernel_rfl),am_tuple_getattr_none⟩]
 have⟨h,g,d,t,os⟩:=s;unfold getAttr? getAttrBy? mkText;erw[X1 (X1 (wpAny_fresh (Xa ?_)))];erw[X1 (wpAny_attempt ?_)];have p:∀t,(⟨h,g,d,t,os⟩:X2).TypeIs (.ref a) c:=λ_=>⟨_,r,rfl⟩;have Y:=q.lookup;have Z:=q.bind (.ref a)
 repeat (any_goals (first|assumption|erw[p _]|((with_reducible show X3 _ _ (call (Value.builtin id) _ _) _ _ _);erw[Uc q (p _) P (T _) (U _) ⟨r,N,λy f e x=>?_⟩])|wp_step))
 have z:(⟨y,g,d,f,os⟩:X2).TypeIs (.ref e) "AttributeError":=by have⟨_,_,o⟩:=x.there;erw[⟨_,o,rfl⟩]
 show X3 _ _ (getattributeRaised _ _ _ _ _ _ _) _ _ _;unfold getattributeRaised;erw[X1 (VE z sub_AttributeError ?_)];simp only[if_true];unfold hookBehind onTheHeap;simp only[Z4,if_false];rw[W];erw[X1 (Xa ?_)];unfold hookOrError attributeErrorLeaves;simp only[De,if_true];erw[X1 (wpAny_throw ?_)];erw[X1 (VE z sub_AttributeError ?_)];simp only[if_true];erw[Xa (O y f x.keeps)]
def HQ:entryFor table "dict.update.loop"=wc Builtin.«dict.update.loop»:=entryFor_of_tree (by kernel_rfl)
def BM:plainId "dict.update.loop"=wf:=by decide+kernel
section
variable{prog:Xr}{w:Xl}{A:Xz}{E:X0->X2->Prop}{s:X2}{K:Type} [DecidableEq K] {knd:KeyKind prog w K}
noncomputable def stTo(j:Nat->K)(l:Nat->X0):Nat->List (K×X0)
 |0=>[]
 |i+1=>stored (stTo j l i) (j i) (l i)
def _df(j:List (K×X0))(k:K)(v:X0):(stored j k v).length<=j.length+1:=by
 unfold stored;split<;>simp
theorem DD(j:Nat->K)(l:Nat->X0):∀i,(stTo j l i).length<=i
 |0=>X9 _
 |i+1=>Xv (_df _ _ _) (Bb (DD j l i))
def _hQ{St:Nat->X2->Prop}
  (W:WalksS prog w A.in1 I fp wr G n P St)(D:Addr)(N:D∉fp)(O:Nat->K)(y:Nat->X0)(p:n<=sizeLine):
  ∀(k i:Nat)(s:X2),n - i=k->i<=n->St i s->s.heap.DictOf knd D (stTo O y i)->
   (∀j v,P j v->∃q g J L,v=.ref q/\q≠D/\q∉wr/\s.heap.get? q=wc L/\L.cls=.type "tuple"/\L.data=.seq #[g,y j] J/\knd.is (O j) g=wf)->
   (∀l,Moved (D::wr) G s l->l.heap.DictOf knd D (stTo O y n)->R (.ok (.ret .none)) l)->
   YJ (X8 prog w) A (.builtin "dict.update.loop" ⟨[.ref D,.ref I,Y8 (i:Nat),.none],[]⟩) R s:=by
 have T:D∉wr:=λh=>N (W.sub _ h);have u:∀b∈wr,b∈D::wr:=λb p=>XJ _ p;intro k
 induction k with
 |zero=>
  intro i s hk hi d hd M Q;have S:i=n:=by lia
  subst S;erw[YR HQ ?_];rw[Z5 BM _];show X3 _ A.in1 (Z1 (.ref I)>>= _) _ _ s;erw[X1 (W.done s _ _ d λl c=>?_)];erw[X1 (m:=Builtin.Dict.addKeywords D []) (Xa ?_)];erw[Xa (Q l (c.mono u) ?_)];have⟨o,X,H,x,r⟩:=hd;erw[⟨o,X,H,c.heap D _ T x,r⟩]
 |succ k ih=>
  intro i s hk hi d hd M Q;have U:i<n:=by lia
  erw[YR HQ ?_];rw[Z5 BM _];show X3 _ A.in1 (Z1 (.ref I)>>= _) _ _ s;erw[X1 (W.item i s _ _ U d λv l hP Y c=>?_)];have⟨q,g,J,L,rfl,hqD,a,hq,hqc,hqd,Z⟩:=M i v hP;have B:=c.heap q _ a hq;have hd':l.heap.DictOf knd D (stTo O y i):=by
   have⟨o,X,H,x,r⟩:=hd;erw[⟨o,X,H,c.heap D _ T x,r⟩]
  have hT:l.TypeIs (.ref q) "tuple":=⟨_,B,hqc⟩;show X3 _ A.in1 (Z9 [XB q] _ >>= _) _ _ l;erw[X1 (Yx ?_)];erw[X1 (VH ?_)];unfold Builtin.Dict.pairItems;erw[X1 (V7 hT ?_)];have e2:(ZK "tuple"==ZK "tuple")=wf:=rfl;rw[e2,Bool.or_true,if_pos rfl];erw[X1 (Wv B hqd (Xa ?_))];show X3 _ A.in1 (Z9 [g,y i] (dictSet D g (y i))) _ _ l;erw[Yx ?_];have hl:=DD O y i;erw[wpAny_dictSet_pairs (knd:=knd) Z hd' (λh' hd2 f=>?_) (by lia)]
  erw[Xa ⟨Z2 BM _,?_⟩];have:=ih (i+1) {l with heap:=h',toks:=l.toks+1} (by lia) U (W.frame _ l _ _ Y (YC _) λb p o e=>?_) hd2 (λj v hPj=>?_) λs'' C F=>?_
  .erw[this]
  .rw[f.2 b (λz:b=D=>N (by rw[<-z];erw[p]))];erw[e]
  .have⟨q,g,J,L,rfl,a1,a2,a3,a4⟩:=M j v hPj;erw[⟨q,g,J,L,rfl,a1,a2,(f.2 q a1).trans (c.heap q _ a2 a3),a4⟩]
  .erw[Q s'' (Moved.trans W.gtrans ((c.mono u).then_heap (YC _) λb o p e=>?_) C) F];rw[f.2 b (λz:b=D=>p (by rw[z];erw[Y2]))];erw[e]
def _fL{l:Addr}{items:Array X0}{L:Nat}{B:Array (Option X0)}{c:String}{C:Nat->K}{D:Nat->X0}{Q:X0->X2->Prop}(G:c="list"\/c="tuple")(I:A.handled=we)(x:s.heap.get? l=wc ⟨.type c,we,.seq items L,B⟩)(hn:items.size<=sizeLine)
  (ht:∀(j:Nat)v,items[j]?=wc v->∃q W J N,v=.ref q/\s.heap.get? q=wc N/\N.cls=.type "tuple"/\N.data=.seq #[W,D j] J/\knd.is (C j) W=wf)
  (h:∀O tk,O.DictOf knd s.heap.objs.size (stTo C D items.size)->(∀b o,b<s.heap.objs.size->s.heap.get? b=wc o->O.get? b=wc o)->Q (.ref s.heap.objs.size) {s with heap:=O,toks:=tk}):
  X3 (X8 prog w) A (call (.type "dict") [.ref l]) Q E s:=by
 erw[callType_codes (Q₁:=fun P d=>P=.ref s.heap.objs.size/\d={s with heap:=s.heap.push {cls:=.type "dict",data:=.dict #[]} }) F.kt_called_dict (F.kt_typeCall_dict_1 _) F.entry_dict_init (kt_code_dict_new _ ⟨rfl,rfl⟩) ?_];rintro P d ⟨rfl,rfl⟩;have u:(s.heap.push {cls:=.type "dict",data:=.dict #[]}).DictOf knd s.heap.objs.size []:=Heap.DictOf.new s.heap;have p:(s.heap.push {cls:=.type "dict",data:=.dict #[]}).get? l=wc ⟨.type c,we,.seq items L,B⟩:=Xu _ x;have hT:BA {s with heap:=s.heap.push {cls:=.type "dict",data:=.dict #[]} } (.ref l) c:=⟨_,p,rfl⟩;erw[⟨u.typeIs,F.args_dict_init_2 _ _,?_⟩];unfold Builtin.«dict.__init__»;erw[X1 ?_];unfold Builtin.Dict.selfAndRest;erw[X1 (wpAny_notOrdered_dict u.typeIs ?_)];show X3 _ _ (pure (s.heap.objs.size,[XB l])) _ _ _;erw[Xa ?_];show X3 _ _ (Ga "dict.__init__" s.heap.objs.size (.ref l) [] .none) _ _ _;unfold Ga;erw[X1 (V7 hT ?_)];rw[if_pos (by rcases G with rfl|rfl<;>decide)]
 erw[X1 (_h6 G (s:={s with heap:=s.heap.push {cls:=.type "dict",data:=.dict #[]} }) p (by simp[I]) fun y Y m=>?_)]
 simp only[Option.isNone_none,if_true];erw[X1 (VF ?_)];have R:y.get? l=wc ⟨.type c,we,.seq items L,B⟩:=m _ _ p;have T:l<s.heap.objs.size:=Xw x;have z:s.heap.objs.size<y.objs.size:=by
  have⟨o,a,ep,M,_⟩:=u;erw[Xw (m _ _ M)]
 have f:l≠y.objs.size:=XG (Bd T z);obtain⟨S,St,k1,k2,k3⟩:∃(S:String) (St:Nat->Heap->Prop),(∀{Q:X0->X2->Prop} {E:X0->X2->Prop} {A:Xz},Q (.ref y.objs.size) {s with heap:=y.push {cls:=.type S,data:=.fields #[.ref l,.int 0 0]},toks:=Y}->X3 (X8 prog w) A (pyIter (.ref l)) Q E {s with heap:=y,toks:=Y})/\Walks prog w A.in1.in1 y.objs.size [y.objs.size,l] [y.objs.size] items.size (λi v=>items[i]?=wc v) St/\St 0 (y.push {cls:=.type S,data:=.fields #[.ref l,.int 0 0]}):=by
  rcases G with rfl|rfl
  .have g:y.IsList l items:=⟨_,R,rfl,L,rfl⟩;erw[⟨_,_,λq=>AJ (s:={s with heap:=y,toks:=Y}) g q,BB (by simp[I]) _ _ f items,⟨_,XO _ rfl,rfl,rfl⟩,g.push _⟩]
  .have g:y.IsTuple l items:=⟨_,R,rfl,L,rfl⟩;erw[⟨_,_,λq=>wpAny_pyIter_tuple (s:={s with heap:=y,toks:=Y}) g q,Walks.tuple (by simp[I]) _ _ f items,⟨_,XO _ rfl,rfl,rfl⟩,g.push _⟩]
 erw[X1 (k1 ?_)];erw[Xa ⟨Z2 BM _,?_⟩];erw[_hQ (knd:=knd) (n:=items.size) k2.toS s.heap.objs.size ?_ C D hn items.size 0 _ rfl (YB _) k3 ?_ ?_ ?_]
 .simp only[Xj,XM,or_false,not_or];erw[⟨XG z,Bc T⟩]
 .have⟨o,a,ep,M,r⟩:=u;erw[⟨o,a,ep,Xu _ (m _ _ M),r⟩]
 .intro j v hv;have⟨q,W,J,N,rfl,a1,a2⟩:=ht j v hv;have U:q<s.heap.objs.size:=Xw a1;erw[⟨q,W,J,N,rfl,XG U,?_,Xu _ (m _ _ (Xu _ a1)),a2⟩];simp only[Ye];erw[XG (Bd U z)]
 .intro s' Z hd;have⟨O,g',d',X,H⟩:=s';have eg:g'=s.gens:=Z.gens;have ed:d'=s.drawn:=Z.drawn;have eo:H=s.os:=Z.os;subst eg;subst ed;subst eo;erw[⟨rfl,h O X hd λb o hb e=>?_⟩];erw[Z.heap b o ?_ (Xu _ (m _ _ (Xu _ e)))];simp only[Xj,XM,or_false,not_or];erw[⟨XG hb,XG (Bd hb z)⟩]
end
def HR(H:Hp):List (Key×V)->List V->Prop:=Paired fun(p:Key×V) (v:V)=>∃q,v=.ref q/\H q=wc (.tup [kV p.1,p.2])
def Wa(j:List (Key×V)):List (Key×V):=j.foldl (λc z=>putK c z.1 z.2) []
def Paired.at{α β:Type}{R:α->β->Prop}{xs:List α}{j:List β}(h:Paired R xs j):∀(i:Nat)(y:β),j[i]?=wc y->∃x,xs[i]?=wc x/\R x y:=by
 induction h with
 |nil=>erw[λ_ _ h=>nomatch h]
 |cons r _ l=>
  intro i y h;cases i with
  |zero=>cases h;erw[⟨_,rfl,r⟩]
  |succ i=>erw[l i y h]
section
variable{X:Cx}
def HS(f:X.calm=wf):YM X (.type "dict") (fun xs H Q=>∃(a:Addr) (w:List (Key×V)) (g:List V),xs=[.ref a]/\(H a=wc (.lst g)\/H a=wc (.tup g))/\HR H w g/\∀p,H p=we->Q (.ref p) (upd H p (.dK (Wa w)))):=by
 intro pq s σ H xs us Q I r h;have⟨a,w,g,rfl,U,F,q⟩:=h;have⟨u,rfl,ru⟩:=_N r;cases ru;obtain⟨c,G,P,l,R,sl,L,T⟩:∃c,(c="list"\/c="tuple")/\g.length<=sizeLine/\∃(l:List X0) (R:Nat) (sl:Array (Option X0)),Vals g l/\s.heap.get? a=wc ⟨.type c,we,.seq l.toArray R,sl⟩:=by
  rcases U with U|U
  .have⟨P,l,R,L,T⟩:=(show ObjOk X.prog X.w H s.heap a (.lst g)from I.hok a _ U);erw[⟨_,.inl rfl,P,l,R,_,L,T⟩]
  .have⟨P,l,L,⟨⟨lc,ldc,ld,lsl⟩,T,J,R,M⟩,ol2,W,S⟩:=(show ObjOk X.prog X.w H s.heap a (.tup g)from I.hok a _ U);rw[T]at W;cases W;cases J;cases M;cases S;erw[⟨_,.inr rfl,P,l,R,_,L,T⟩]
 have hh:=I.ok.hd f;have Y:l.length=w.length:=by rw[<-L.length,F.length]
 have⟨x,Z⟩:=Classical.axiomOfChoice (α:=Nat) (β:=fun _=>X0) (r:=fun j B=>∀v,l.toArray[j]?=wc v->∃q N C d,v=.ref q/\s.heap.get? q=wc d/\d.cls=.type "tuple"/\d.data=.seq #[N,B] C/\∃p,w[j]?=wc p/\RelV (kV p.1) N/\RelV p.2 B) fun j=>by
  rw[CQ];cases e:l[j]? with
  |none=>erw[⟨.none,λv A=>by cases A⟩]
  |some v=>
   have⟨y,hy,ry⟩:=Paired.at L j v e;have⟨p,m,q,rfl,hq⟩:=Paired.at F j y hy;cases ry;have⟨_,ts,rt,ht⟩:=(show ObjOk X.prog X.w H s.heap q (.tup [kV p.1,p.2])from I.hok q _ hq);have⟨N,B,rfl,D,E⟩:=WO rt;have⟨d,ho,G,n,hd⟩:=ht.1;erw[⟨B,λv A=>by cases A;erw[⟨q,N,n,d,rfl,ho,G,hd,p,m,D,E⟩]⟩]
 erw[_fL (knd:=YD X.prog X.w) (C:=λj=>(w.getD j (.inl 0,.non)).1) (D:=x) G hh T (by simpa [<-L.length]using P) (λj v A=>?_) λh' tk hd hk=>?_]
 .have⟨q,N,C,d,e1,e2,e3,e4,p,m,D,E⟩:=Z j v A;erw[⟨q,N,C,d,e1,e2,e3,e4,W7 ?_⟩];rw[Y1,m];erw[D]
 have kv:∀i,i<=w.length->KV ((w.take i).foldl (λc z=>putK c z.1 z.2) []) (stTo (λj=>(w.getD j (.inl 0,.non)).1) x i):=by
  intro i
  induction i with
  |zero=>intro _;erw[.nil]
  |succ i ih=>
   intro hi;have hlt:i<l.length:=by lia
   have⟨q,N,C,d,e1,e2,e3,e4,p,m,D,E⟩:=Z i l[i] (by simp[hlt])
   rw[Zp,m,Option.toList_some,AS];show KV (putK _ p.1 p.2) (stored _ (w.getD i (.inl 0,.non)).1 _);have ek:(w.getD i (.inl 0,.non)).1=p.1:=by rw[Y1,m];rfl
   rw[ek];erw[(ih (by lia)).put p.1 E]
 have O:=kv w.length (X9 _);rw[WC]at O;have hsz:l.toArray.size=w.length:=by simp[Y]
 rw[hsz]at hd;have hpl:w.length<=sizeLine:=by rw[F.length];erw[P]
 have zl:(Wa w).length<=sizeLine:=by
  have:=O.length;have l2:=DD (λj=>(w.getD j (.inl 0,.non)).1) x w.length;unfold Wa;lia
 erw[⟨.ref s.heap.objs.size,_,I.laid (a:=s.heap.objs.size) (o:=.dK (Wa w)) (t':=tk) (λb u e=>hk b u (Xw e) e) (X9 _) (DA zl (beq_eq_false_iff_ne.mpr (XR (XG I.big))) O hd),rfl,q _ (I.hok.fresh (X9 _))⟩]
def _i9:∀(bs:List Bool),((Xq bs.length).all λi=>bs.getD i wf)=bs.all id:=by
 intro bs;have e:(Xq bs.length).map (λi=>bs.getD i wf)=bs:=by
  erw[AW (by simp) λi l j=>?_]
  simp[WF,j]
 conv=>rhs;rw[<-e]
 rw[List.all_map]
 rfl
def _i7(l:X.calm=wf):YM X (.builtin "all") (fun f H Q=>∃(a:Addr) (bs:List Bool),f=[.ref a]/\SqL X.K H a (bs.map V.bl)/\Q (.bl (bs.all id)) H):=by
 intro Z s A H f B Q I r h;have⟨a,bs,rfl,O,q⟩:=h;have⟨u,rfl,m⟩:=_N r;cases m;have⟨j,L,p,C⟩:=I.list O;have P:=I.ok.hd l;have w:j.length=bs.length:=by rw[<-L.length,X5]
 have g:∀(i:Nat)(v:X0),j.toArray[i]?=wc v->v=.bool (bs.getD i wf):=λi v R=>by
  have y:j[i]?=wc v:=by simpa using R
  have z:i<bs.length:=by rw[<-w];erw[(Xm.mp y).1]
  have⟨u,N,m⟩:=L.get (i:=i) (x:=V.bl bs[i]) (by simp[z])
  rw[y]at N;cases N;rw[show v=.bool bs[i]from m];simp[WF,z]
 have d:a<s.heap.objs.size:=by have⟨o,n,e,_⟩:=p;erw[Xw e]
 erw[PySem.call_all_walk (AJ p.isList ⟨_,_,_,_,_,_,λi=>bs.getD i wf,rfl,BB (by simp[P]) _ a (XG d) j.toArray,⟨⟨_,XO _ rfl,rfl,rfl⟩,p.isList.push _⟩,?_,λD T U=>?_⟩)]
 .intro i v s Q E W Y;rw[g i v W];erw[Zz Y]
 .have c:j.toArray.size=bs.length:=by simp[w]
  rw[c,_i9];erw[⟨.bl _,H,I.kept (t':=T) λb o e=>?_,rfl,q⟩];erw[U b o (by simp only[Ye];erw[XG (Xw e)]) (Xu _ e)]
end
noncomputable def Its(x:Str):It:=⟨λi _=>i<x.cps.size,λi H v j=>j=H/\∃c,x.cps[i]?=wc c/\v=.str ⟨#[c]⟩,λi _=>x.cps.size<=i⟩
def _fU{K:X4}(l:Addr)(x:Str)(t:Tok):Turn P w K tg (Its x) [l] l (fun i h=>h.IsStrIter l "str_ascii_iterator" x t i)where
 mem:=by simp
 obj:=λi h st b u=>by
  have e:b=l:=by simpa using u
  subst e;have⟨o,e,c,d⟩:=st;erw[⟨o,e,λv z=>by rw[d]at z;cases z⟩]
 keep:=λi h m st k=>by
  have⟨o,e,c,d⟩:=st;erw[⟨o,k l (by simp) o e,c,d⟩]
 item:=by
  intro X f q r R i T s U H E I g st j;subst f q r;have j:i<x.cps.size:=j;have⟨f0,p,W,L,N,O⟩:=g l (by simp)
  erw[wpAny_pyNext_ascii_item st (c:=x.cps[i]) (by simp[j]) λm y Y=>?_]
  have Z:Inv X T U H {s with heap:=m,toks:=s.toks+1}:=I.turned (λb o u e=>(Y.2 b u).trans e) f0 p L N O;have⟨o,e,c,d⟩:=id y;erw[⟨_,rfl,W0 (s:={s with heap:=m,toks:=s.toks+1}) e c d (by decide) ⟨.str ⟨#[x.cps[i]]⟩,H,Z,⟨_,rfl⟩,⟨rfl,_,by simp[j],rfl⟩,y,λb u=>(g b u).1⟩⟩]
 done:=by
  intro X f q r R i T s U H E I g st j;subst f q r;have j:x.cps.size<=i:=j;have⟨f0,p,W,L,N,O⟩:=g l (by simp)
  erw[wpAny_pyNext_ascii_end (I.ok.hd R) st (by simp[j]) λm A=>⟨rfl,I.turned (g:=s.toks) (λb o u e=>A b o u e) f0 p L N O⟩]
 self:=λ_ _ _ _ _ st h=>wpAny_pyIter_striter_ascii st h
def _fT{K:X4}(l:Addr)(x:Str)(t:Tok):Turn P w K tg (Its x) [l] l (fun i h=>h.IsStrIter l "str_iterator" x t i)where
 mem:=by simp
 obj:=λi h st b u=>by
  have e:b=l:=by simpa using u
  subst e;have⟨o,e,c,d⟩:=st;erw[⟨o,e,λv z=>by rw[d]at z;cases z⟩]
 keep:=λi h m st k=>by
  have⟨o,e,c,d⟩:=st;erw[⟨o,k l (by simp) o e,c,d⟩]
 item:=by
  intro X f q r R i T s U H E I g st j;subst f q r;have j:i<x.cps.size:=j;have⟨f0,p,W,L,N,O⟩:=g l (by simp)
  erw[wpAny_pyNext_wide_item st (c:=x.cps[i]) (by simp[j]) λm y Y=>?_]
  have Z:Inv X T U H {s with heap:=m,toks:=s.toks+1}:=I.turned (λb o u e=>(Y.2 b u).trans e) f0 p L N O;have⟨o,e,c,d⟩:=id y;erw[⟨_,rfl,W0 (s:={s with heap:=m,toks:=s.toks+1}) e c d (by decide) ⟨.str ⟨#[x.cps[i]]⟩,H,Z,⟨_,rfl⟩,⟨rfl,_,by simp[j],rfl⟩,y,λb u=>(g b u).1⟩⟩]
 done:=by
  intro X f q r R i T s U H E I g st j;subst f q r;have j:x.cps.size<=i:=j;have⟨f0,p,W,L,N,O⟩:=g l (by simp)
  erw[wpAny_pyNext_wide_end (I.ok.hd R) st (by simp[j]) λm A=>⟨rfl,I.turned (g:=s.toks) (λb o u e=>A b o u e) f0 p L N O⟩]
 self:=λ_ _ _ _ _ st h=>wpAny_pyIter_striter_wide st h
section
variable{X:Cx}{pq:List (Addr×Obj)}{σ:St}{H:Hp}{s:X2}
def _lk{t:Tok}(I:Inv X pq σ H s)(q:R (Its x) H):X3 (X8 X.prog X.w) X.A (pyIter (.str x t)) (PIE X pq σ tg R) E s:=by
 have j:∀b∈ [s.heap.objs.size],FpOk X pq H b:=λb u=>by
  have e:b=s.heap.objs.size:=by simpa using u
  subst e;erw[I.fpOk (X9 _) (I.hok.fresh (X9 _))]
 cases l:x.cps.all (·<128)
 .erw[wpAny_pyIter_wide l ⟨s.heap.objs.size,[s.heap.objs.size],_,_,H,rfl,I.kept (t':=s.toks) λb o e=>Xu _ e,_fT _ x t,⟨_,XO _ rfl,rfl,rfl⟩,j,q⟩]
 .erw[wpAny_pyIter_ascii l ⟨s.heap.objs.size,[s.heap.objs.size],_,_,H,rfl,I.kept (t':=s.toks) λb o e=>Xu _ e,_fU _ x t,⟨_,XO _ rfl,rfl,rfl⟩,j,q⟩]
def Zql(X:Cx)(w:TE):TI:=λσ H R=>w σ H λx j=>(∃a,x=.ref a/\((∃u,SqL X.K j a u/\R (Itl X.K a) j)\/(∃u,SqT X.K j a u/\R (Itt X.K a) j)\/∃l,j a=wc (.dK l)/\∀o,(∀y m,X.H₀ a≠wc (.frz y m))->R (Itd a o) (upd j a (.frz o (.dK l)))))\/
 ∃z,x=.str z/\R (Its z) j
def _ll{f l:Expr}{g:TE}(r:PE X l g):PI X f l (Zql X g):=by
 intro pq s σ H R I h;erw[thn (r pq s σ H _ I h) λv u L=>?_];have⟨x,d,j,c,N⟩:=L;rcases N with⟨a,e,q⟩|⟨z,e,q⟩
 .subst e;cases c;rcases q with⟨O,w,q⟩|⟨O,w,q⟩|⟨P,w,q⟩
  .have⟨y,T,p,U⟩:=j.list w;erw[AJ p.isList ?_];erw[⟨u.heap.objs.size,[u.heap.objs.size],_,_,d,rfl,j.kept (t':=u.toks) λb o e=>Xu _ e,RA a _,⟨_,XO _ rfl,rfl,rfl⟩,λb m=>?_,q⟩];have e:b=u.heap.objs.size:=by simpa using m
   subst e;erw[j.fpOk (X9 _) (j.hok.fresh (X9 _))]
  .have⟨y,T,p,U⟩:=j.tuple w;erw[wpAny_pyIter_tuple (show u.heap.IsTuple a y.toArray from p) ?_];erw[⟨u.heap.objs.size,[u.heap.objs.size],_,_,d,rfl,j.kept (t':=u.toks) λb o e=>Xu _ e,RB a _,⟨_,XO _ rfl,rfl,rfl⟩,λb m=>?_,q⟩];have e:b=u.heap.objs.size:=by simpa using m
   subst e;erw[j.fpOk (X9 _) (j.hok.fresh (X9 _))]
  .erw[_iT j w q]
 .subst e;have⟨t,rfl⟩:=c;erw[_lk j q]
def _dP(j:∀i,v≠.builtin i)(h:Q (.bool (v==.bool b)) s):X3 M A (Y6 .Is v (.bool b)) Q E s:=by
 cases v<;>first|erw[Xa h]|erw[absurd rfl (j _)]
def _ap(j:∀i,v≠.builtin i)(h:Q (.bool (!(v==.bool b))) s):X3 M A (Y6 .IsNot v (.bool b)) Q E s:=by
 cases v<;>first|erw[Xa h]|erw[absurd rfl (j _)]
def HU(r:RelV x v):∀i,v≠.builtin i:=λi e=>by
 subst e;cases x<;>first|(cases r;done)|(have⟨t,e⟩:=r;cases e)
set_option tactic.hygienic true in
def HV(r:RelV x v):decide (x=.bl b)=(v==UP b):=by
 cases x<;>first
  |(cases r;rename_i c;cases b<;>cases c<;>rfl)
  |(cases r;rfl)
  |(have⟨t,rfl⟩:=r;rfl)
def _ly:OpR X (Y6 .Is) (λx y H Q=>∃b,y=.bl b/\Q (.bl (decide (x=.bl b))) H):=by
 intro pq s σ H x y v u Q I j l h;have⟨b,rfl,q⟩:=h;cases l;erw[_dP (HU j) (XH I q (HV j))]
def _j2:OpR X (Y6 .IsNot) (λx y H Q=>∃b,y=.bl b/\Q (.bl (!decide (x=.bl b))) H):=by
 intro pq s σ H x y v u Q I j l h;have⟨b,rfl,q⟩:=h;cases l;erw[_ap (HU j) (XH I q (by rw[HV j]))]
def _fu{t:X0}(I:Inv X pq σ H s)(w:RelV x u)(ty:TyOf X.K H x t)(e:Vg X.K t c=wc b)(R:Vg X.K t d=wc b')
  (j:s.heap.get? tp=wc ⟨.type "tuple",dd,.seq [c,d].toArray n,sl⟩)(h:∀T,Q (.bool (b||b')) {s with toks:=T}):X3 (X8 X.prog X.w) A (call (.builtin "isinstance") [u,.ref tp]) Q E s:=by
 have m:B6 X.K t [c,d]=wc (b||b'):=by
  unfold B6;rw[e];cases b with
  |true=>rfl
  |false=>
   show B6 X.K t [d]=wc b';unfold B6;rw[R];cases b'<;>rfl
 cases ty with
 |non=>cases(show u=UO from w);erw[ZG PySem.W.kitx_none I.kIn YL j m (λz=>nomatch z) h]
 |bl y=>cases(show u=UP y from w);erw[ZG PySem.W.kitx_bool I.kIn YL j m (λz=>nomatch z) h]
 |int i=>have⟨t,q⟩:=(show∃t,u=VR i t from w);cases q;erw[ZG PySem.W.kitx_int I.kIn YL j m (λz=>nomatch z) h]
 |str y=>have⟨t,q⟩:=(show∃t,u=Zf y t from w);cases q;erw[ZG PySem.W.kitx_str I.kIn YL j m (λz=>nomatch z) h]
 |flt y=>have⟨t,q⟩:=(show∃t,u=Bm y t from w);cases q;erw[ZG PySem.W.kitx_float I.kIn YL j m (λz=>nomatch z) h]
 | @lst a r l=>
  cases(show u=XB a from w);have⟨_,_,n,_,g⟩:=(show ObjOk X.prog X.w H s.heap a (.lst r)from I.hok a _ l);erw[ZG AZ I.kIn ⟨_,g,rfl⟩ j m (λz=>nomatch z) h]
 | @frz a U r l=>
  cases(show u=XB a from w);have⟨_,_,_,n,_,g⟩:=(show ObjOk X.prog X.w H s.heap a (.frz U (.lst r))from I.hok a _ l);erw[ZG AZ I.kIn ⟨_,g,rfl⟩ j m (λz=>nomatch z) h]
 | @tup a r l=>
  cases(show u=XB a from w);have⟨_,_,_,p⟩:=(show ObjOk X.prog X.w H s.heap a (.tup r)from I.hok a _ l);have⟨o,g,L,_⟩:=p.1;erw[ZG PySem.W.kitx_tuple I.kIn ⟨o,g,L⟩ j m (λz=>nomatch z) h]
 | @dK a f l=>
  cases(show u=XB a from w);have⟨_,_,F,_,p⟩:=(show ObjOk X.prog X.w H s.heap a (.dK f)from I.hok a _ l);have⟨o,W,Y,g,L,_⟩:=p;erw[ZG B0 I.kIn ⟨o,g,L.1⟩ j m (λz=>nomatch z) h]
 | @dT a f l=>
  cases(show u=XB a from w);have⟨_,_,r,_,o,W,Y,g,L,_⟩:=(show ObjOk X.prog X.w H s.heap a (.dT f)from I.hok a _ l);erw[ZG B0 I.kIn ⟨o,g,L.1⟩ j m (λz=>nomatch z) h]
 | @ins a C G fs l P Z B N D=>
  cases(show u=XB a from w);have⟨M,O,_⟩:=WP I.hok l;have⟨S,J,_⟩:=O.look;erw[ZG (PySem.W.kitx_own (P.get _) P.hd Z B N D) I.kIn J j m (λz=>nomatch z) h]
def _d6:YM X (.builtin "isinstance") (fun w H Q=>∃x a c d t b j,w=[x,.ref a]/\H a=wc (.tup [.ty c,.ty d])/\TyOf X.K H x t/\Vg X.K t (.type c)=wc b/\Vg X.K t (.type d)=wc j/\Q (.bl (b||j)) H):=by
 intro pq s σ H w Z Q I r h;have⟨x,a,c,d,t,b,j,rfl,m,ty,e,g,q⟩:=h;have⟨u,A,rfl,f,l⟩:=WO r;cases l;have⟨L,N,p,_⟩:=I.tuple (SqT.of (K:=X.K) m);have⟨⟨O,B,y,C⟩,P,z,n,hd⟩:=id p;simp only at z hd;subst z hd;cases N with
 |cons R T=>
  cases T with
  |cons U W=>
   cases W;cases R;cases U;erw[_fu I f ty e g P λY=>⟨.bl (b||j),H,I.tok Y,rfl,q⟩]
end
noncomputable def A3(z:Str):X0->Bool
 |.str y _=>y==z
 |_=>wg
def Zpl:V->List V->Hp->VK->Prop:=λx u H Q=>∃(l:Addr) (j:List Str) (z:Str),x=.ref l/\u=[.str z]/\H l=wc (.lst (j.map V.str))/\z∈j/\Q .non (upd H l (.lst ((j.erase z).map V.str)))
theorem BN:∀{l:List Str} {j:List X0},Vals (l.map V.str) j->∀(i:Nat)(h:i<j.length),∃(z:Str) (t:Tok),l[i]?=wc z/\j[i]=.str z t
 |[],_,r,i,h=>by rw[Yb]at r;cases r;simp at h
 |z::l,_,r,i,h=>by
  rw[Xt]at r;cases r with
  |cons w m=>
   have⟨t,rfl⟩:=w;cases i with
   |zero=>erw[⟨z,t,rfl,rfl⟩]
   |succ i=>
    have⟨y,u,g,d⟩:=BN m i (by simpa using h)
    erw[⟨y,u,by simpa using g,by simpa using d⟩]
def _jv{l:List Str}{z:Str}(h:z∈l):∃j,l[j]?=wc z/\(∀m,m<j->l[m]?≠wc z)/\l.erase z=l.eraseIdx j:=by
 induction l with
 |nil=>cases h
 |cons a r w=>
  by_cases e:a=z
  .subst e;erw[⟨0,rfl,λm u=>absurd u (VQ _),by simp⟩]
  .have y:z∈r:=by
    rcases Xj.mp h with q|q
    .erw[absurd q.symm e]
    .erw[q]
   have⟨j,g,d,c⟩:=w y;erw[⟨j+1,by simpa using g,λm u=>?_,?_⟩]
   .cases m with
    |zero=>simpa using e
    |succ m=>simpa using d m (by lia)
   .rw[List.erase_cons,if_neg (by simpa using e),c]
    rfl
section
variable{X:Cx}
def _lN:MtM X "list.remove" Zpl:=by
 intro G s J H x M v S Q I W Y h;have⟨l,c,z,rfl,rfl,R,Z,q⟩:=h;cases W;have⟨u,rfl,A⟩:=Y.one;have⟨t,rfl⟩:=A;have⟨sz,w,n,r,o,e⟩:=I.lstM R;have⟨j,T,B,C⟩:=_jv Z;have g:w.length=c.length:=by rw[<-r.length,X5]
 have p:j<w.length:=by rw[g];erw[(Xm.mp T).1]
 have L:w.toArray.size<=sizeLine:=by rw[XN];lia
 erw[Uc F.slot_list_remove ⟨_,e,rfl⟩ F.entry_list_remove (F.args_list_remove_2 _ _)
  (MeetsSeq.list_remove l w.toArray n (.str z t) (A3 z) (λy N=>?_) j (by rw[XN];erw[p]) ?_ (λm U O=>?_) L) ⟨e,?_⟩]
 .have N:y∈w:=by simpa using N
  have⟨i,D,rfl⟩:=Yn N;have⟨y,u,_,d⟩:=BN r i D;rw[d];erw[λ_ _ _ _ _ _ h=>PyProof.Rows.eqBool_str h]
 .have⟨y,u,f,d⟩:=BN r j p;rw[T]at f;cases f;show A3 z (w.toArray[j]'(by rw[XN];erw[p]))=wf
  rw[List.getElem_toArray,d];simp[A3]
 .have P:m<w.length:=by simpa using U
  have⟨y,u,f,d⟩:=BN r m P;show A3 z (w.toArray[m]'U)=wg;rw[List.getElem_toArray,d];have:=B m O;rw[f]at this
  simpa [A3]using this
 .rw[C]at q;have E:(c.eraseIdx j).map V.str=(c.map V.str).eraseIdx j:=by rw[FD,FD,XY,AX,List.map_drop]
  rw[E]at q;erw[⟨.non,_,I.lset (j:=w.eraseIdx j) R e ?_ (r.eraseIdx j) ?_,rfl,q⟩]
  .show w.toArray.eraseIdxIfInBounds j=(w.eraseIdx j).toArray;rw[List.eraseIdxIfInBounds_toArray]
  .have:=Hh (c.map V.str) j;lia
end
end L2
namespace L2
end L2
namespace L2
open PySem PySem.Spec PyProof.Rows
noncomputable def cutS(x:Str)(lo j:Option Int):Str:=⟨((x.cps.toList.drop (HT.sIx x.cps.toList.length 0 lo)).take (HT.sIx x.cps.toList.length x.cps.toList.length j - HT.sIx x.cps.toList.length 0 lo)).toArray⟩
section
variable{X:Cx}
end
theorem HW:∀{l:List V} {u:List X0},l.length=u.length->(∀(j:Nat)x v,l[j]?=wc x->u[j]?=wc v->RelV x v)->Vals l u
 |[],[],_,_=>.nil
 |[],_::_,h,_=>by cases h
 |_::_,[],h,_=>by cases h
 |x::l,v::u,h,r=>.cons (r 0 x v rfl rfl) (HW (by simpa using h) λj a b w y=>r (j+1) a b (by simpa using w) (by simpa using y))
def _dO(h:ItemsOf (λi v=>∃t,v=.int (0+i*1) t) acc n):Vals ((Xq n).map λi=>V.int (i:Nat)) acc.toList:=by
 erw[HW (by rw[X5,Ud,Yg];erw[h.1.symm]) λj x v l u=>?_]
 have⟨t,rfl⟩:=h.2 j v (by simpa using u)
 rw[Xe]at l;cases e:(Xq n)[j]? with
 |none=>rw[e]at l;cases l
 |some k=>
  rw[e]at l;have w:k=j:=by
   have:=Xm.mp e;have⟨_,z⟩:=this
   simpa using z.symm
  subst w;cases l;erw[⟨t,by rw[Um,Int.mul_one]⟩]
section
variable{X:Cx}{tg:Expr}
def _i4(j:X.calm=wf):WZ X (.type "list") (.type "range") (fun x H Q=>∃n:Nat,x=.int n/\n<=1000000/\∀p,H p=we->Q (.ref p) (upd H p (.lst ((Xq n).map fun i=>V.int (i:Nat))))):=by
 intro N s O H x u Q I y h;have⟨n,rfl,z,q⟩:=h;have⟨t,rfl⟩:=y;erw[call_range_1 ?_];have m:((Xq n).map λi=>V.int (i:Nat)).length<=sizeLine:=by rw[X5,Ud];erw[Xv z (by decide)]
 have g:=I.ok.hd j;erw[call_list_range (n:=n) g (IsRange.new ..) ?_ ?_ (by lia) λd c l f r e L=>?_]
 .erw[small_one (by decide) (by decide) (by lia) (by lia)]
 .rw[rangeSize_one];split<;>lia
 have w:=I.kept (h':=s.heap.push {cls:=.type "range",data:=.fields #[.int 0 s.toks,.int (n:Int) t,.int 1 (s.toks+1)]}) (t':=s.toks+1+1) fun b o e=>Xu _ e;erw[⟨.ref _,_,w.laid (t':=c) r (X9 _) (show ObjOk X.prog X.w _ d _ (.lst ((Xq n).map λi=>V.int (i:Nat)))from⟨m,l.toList,f,_dO L,by simpa using e⟩),rfl,q _ (w.hok.fresh (X9 _))⟩]
def _gK{x y:Str}{id T:String}{r:V->Hp->VK->Prop}{e:Expr}{t:TE}{p L l j:Pos}(P:WZ X (.type id) (.type T) r)
  (R:Gl X x)(U:X.mg x=we)(W:YI x=wc (.type id))(m:Gl X y)(g:X.mg y=we)(d:YI y=wc (.type T))(Y:PE X e t)
  (Z:x≠"__name__")(c:(x==("__debug__":Str))=wg)(f:y≠"__name__")(w:(y==("__debug__":Str))=wg)
  (N:Xx [e] X.env=(wg,eval e X.env)::Xx [] X.env):
  PE X (.Call (.Name x p) [.Call (.Name y L) [e] [] j] [] l) (λz H Q=>t z H λv q=>r v q Q):=by
 intro O s z H Q I h;erw[U9 (Us I R U W ?_ Z c)];erw[WK ?_ rfl rfl];show X3 _ _ (spliced ((wg,eval (.Call (.Name y L) [e] [] j) X.env)::Y0 l (Xx [] X.env))) _ _ s;erw[WL ?_];erw[U9 (Us I m g d ?_ f w)];erw[WK ?_ N rfl];rw[N];show X3 _ _ (spliced ((wg,eval e X.env)::Y0 j (Xx [] X.env))) _ _ s;erw[WL (thn (Y O s z H _ I h) λu A B=>?_)];have⟨v,q,C,D,E⟩:=B;erw[WM ?_];erw[thn (P O A z q v u Q C D E) λG J F=>WM F]
noncomputable def len2(lo j:Int):Nat:=(Gj lo j 2).toNat
end
section
variable{prog:Xr}{w:Xl}{A:Xz}{R:Result->X2->Prop}{I:Addr}{fp wr:List Addr}{n:Nat}{P:Nat->X0->Prop}{St:Nat->Heap->Prop}
def BO:(toString "max"++toString ".loop":String)="max.loop":=by decide
def _qi(W:Walks prog w A.in1 I fp wr n P St){bt:Nat->Nat->Bool}(E:CmpOf prog w A.in1 .Gt P bt){S:Addr}(B:S∉fp)(F:List (Str×X0)):
  ∀(m j:Nat)(s:X2)(b:X0)(c:Nat),n=j+1+m->St (j+1) s.heap->P (argBest bt j) b->s.heap.get? S=wc {cls:=.type "list",dict:=we,data:=.seq #[b,b] c,slots:=#[]}->
  (∀v g T,P (argBest bt (n - 1)) v->(∀a o,a∉wr->a≠S->s.heap.get? a=wc o->g.get? a=wc o)->R (.ok (.ret v)) {s with heap:=g,toks:=T})->
  YJ (X8 prog w) A (.builtin "max.loop" ⟨[.ref I,.none,.ref S],F⟩) R s:=by
 have wS:S∉wr:=λh=>B (W.sub _ h);intro m
 induction m with
 |zero=>
  intro j s b c e st U N q;erw[YR Dl ?_];rw[Z5 Vm _];show X3 _ _ (seqItems? (.ref S)>>= _) _ _ s;erw[X1 (Wv N rfl ?_)];show X3 _ _ (tryCatch (Z1 (.ref I)) _ >>= _) _ _ s;erw[X1 (VH (W.done s _ _ (by rw[e];erw[st]) λg T p=>?_))]
  show X3 _ _ (updateSeq S (λ_=>#[])>>= _) _ _ _;erw[X1 ?_];erw[Ww (p S _ wS N) rfl (X1 (wpAny_letGo (Xa ?_)))];erw[q b _ T (by rw[e];erw[U]) λa o l L u=>(Ui _ _ (XR L)).trans (p a o l u)]
 |succ m C=>
  intro j s b c e st U N q;erw[YR Dl ?_];rw[Z5 Vm _];show X3 _ _ (seqItems? (.ref S)>>= _) _ _ s;erw[X1 (Wv N rfl ?_)];show X3 _ _ (tryCatch (Z1 (.ref I)) _ >>= _) _ _ s;erw[X1 (VH (W.item (j+1) s _ _ (by lia) st λv g T pv O p=>?_))]
  have y:=p S _ wS N;show X3 _ _ (tryCatch (Z9 [v,v] (richCompare .Gt v b >>= _)) _ >>= _) _ _ _;erw[X1 (VH (Yx (X1 (E (j+1) (argBest bt j) v b _ _ _ pv U ?_))))];erw[X1 (Yx (Zz ?_))];erw[X1 (wpAny_letGo (Xa ?_))];cases D:bt (j+1) (argBest bt j)with
  |true=>
   rw[if_pos rfl];erw[X1 ?_];erw[Ww y rfl (X1 (wpAny_letGo ?_))];rw[BO];erw[Xa ⟨Z2 Vm _,C (j+1) _ v _ (by lia) (W.frame _ _ _ O λa l o u=>?_) (by rw[argBest,if_pos D];erw[pv]) (Vh _ y rfl) λY Z d f r=>?_⟩]
   .erw[(Ui _ _ (λz:S=a=>B (by rw[z];erw[l]))).trans u]
   .erw[q Y Z d f λa o l L u=>r a o l L ((Ui _ _ (XR L)).trans (p a o l u))]
  |false=>
   rw[if_neg (by simp)]
   erw[X1 (wpAny_letGo ?_)];rw[BO];erw[Xa ⟨Z2 Vm _,C (j+1) _ b c (by lia) O (by rw[argBest,D,if_neg (by simp)];erw[U]) y λY Z d f r=>?_⟩]
   erw[q Y Z d f λa o l L u=>r a o l L (p a o l u)]
def _qj(W:Walks prog w A.in1 I fp wr n P St){bt:Nat->Nat->Bool}(T:CmpOf prog w A.in1 .Gt P bt){S:Addr}(f:S∉fp)(d:X0){s:X2}{c:Nat}(st:St 0 s.heap)
  (O:s.heap.get? S=wc {cls:=.type "list",dict:=we,data:=.seq #[] c,slots:=#[]})
  (q:∀v g y,(n=0/\v=d\/0<n/\P (argBest bt (n - 1)) v)->(∀a o,a∉wr->a≠S->s.heap.get? a=wc o->g.get? a=wc o)->R (.ok (.ret v)) {s with heap:=g,toks:=y}):
  YJ (X8 prog w) A (.builtin "max.loop" ⟨[.ref I,.none,.ref S],[("default",d)]⟩) R s:=by
 have wS:S∉wr:=λh=>f (W.sub _ h);erw[YR Dl ?_];rw[Z5 Vm _];show X3 _ _ (seqItems? (.ref S)>>= _) _ _ s;erw[X1 (Wv O rfl ?_)];show X3 _ _ (tryCatch (Z1 (.ref I)) _ >>= _) _ _ s;by_cases hn:n=0
 .subst hn;erw[X1 (VH (W.done s _ _ st λg y m=>?_))];show X3 _ _ (rule _ >>= _) _ _ _;erw[X1 (VF (Xa ?_))];erw[q d g y (.inl ⟨rfl,rfl⟩) λa o j r l=>m a o j l]
 .erw[X1 (VH (W.item 0 s _ _ (by lia) st λv g y pv p m=>?_))]
  have u:=m S _ wS O;show X3 _ _ (updateSeq S (λ_=>#[v,v])>>= _) _ _ _;erw[X1 ?_];erw[Ww u rfl ?_];rw[BO];erw[Xa ⟨Z2 Vm _,_qi W T f _ (n - 1) 0 _ v _ (by lia) (W.frame _ _ _ p λa j o l=>?_) pv (Vh _ u rfl) λU Y e L N=>?_⟩]
  .erw[(Ui _ _ (λz:S=a=>f (by rw[z];erw[j]))).trans l]
  .erw[q U Y e (.inr ⟨by lia,L⟩) λa o j r l=>N a o j r ((Ui _ _ (XR r)).trans (m a o j l))]
end
def _jI(a d:X0):argsOk "max" ⟨[a],[("default",d)]⟩:=by unfold argsOk;kernel_rfl
section
variable{prog:Xr}{w:Xl}{A:Xz}{E:X0->X2->Prop}{s:X2}
set_option tactic.hygienic true in
def _jA{l:Addr}{u:Array (Int×Tok)}{d:X0}{Q:X0->X2->Prop}(N:A.handled=we)(O:s.heap.IsList l (intItems u))
  (q:∀v z m,(u.size=0/\v=d\/0<u.size/\(intItems u)[argBest (λi j=>decide (numAt u i>numAt u j)) (u.size - 1)]?=wc v)->(∀b o,s.heap.get? b=wc o->z.get? b=wc o)->Q v {s with heap:=z,toks:=m}):
  X3 (X8 prog w) A (call (.builtin "max") [.ref l] [("default",d)]) Q E s:=by
 have P:(intItems u).size=u.size:=by simp[intItems]
 erw[VB (AH F.plain_max F.entry_max ?_)];simp only[checkBuiltinCall,F.kind_max];have ok:=_jI (.ref l) d;cases y:Manifest.signature? "max"
 case' some g=>have c:Bind.checkArgs "max" g ⟨[.ref l],[("default",d)]⟩=pure ():=by simpa only[argsOk,y]using ok
 case' some=>simp only[c]
 all_goals
  erw[Xa ?_];show X3 _ A.in1 (Gh "max" ["key","default"] 0 ⟨[],[("default",d)]⟩>>= _) _ _ s;erw[X1 (wpAny_of_eq (show Gh "max" ["key","default"] 0 ⟨[],[("default",d)]⟩=pure [we,wc d]from rfl) ?_)];erw[X1 (Xa ?_)];erw[X1 (iter_intList O λp e st f r=>?_)];subst e;erw[X1 (ZU ?_)];rw[BO];have W:=BB (prog:=prog) (w:=w) (A:=A.in1) N _ l r (intItems u);erw[Xa ⟨Z2 Vm _,_qj W (CmpOf.ints_gt (numAt u) (λ_ _=>intItems_at)) (λR=>Ze _ (f _ R)) d (W.frame _ _ _ st λb _ o e=>Xu _ e) (XO _ rfl) λv z m L T=>?_⟩];erw[q v z m (by rw[P]at L;erw[L]) (old_kept (l:=l) λb o U e=>?_)]
  erw[T b o U (XG (Xw e)) (Xu _ e)]
end
section
variable{X:Cx}{x k:Str}{p pos kp:Pos}{e e0:Expr}{te:TE}
def rMxd(K:X4)(l:List V)(H:Hp)(Q:VK):Prop:=∃(a:Addr) (j:List Int),l=[.ref a]/\SqL K H a (j.map V.int)/\∀m,(j=[]/\m=0\/m∈j/\∀i∈j,i<=m)->Q (.int m) H
def tMxd(K:X4)(te:TE):TE:=λj H Q=>te j H λv l=>rMxd K [v] l Q
def _o0(Z:X.calm=wf)(A:Gl X "max")(B:X.mg "max"=we)(w:PE X e te)(C:PE X e0 (tC (.int 0)))(g:Xx [e] X.env=(wg,eval e X.env)::Xx [] X.env):
  PE X (.Call (.Name "max" p) [e] [⟨wc "default",e0,kp⟩] pos) (tMxd X.K te):=by
 intro L s N H Q I h;erw[U9 (Us (u:=.builtin "max") I A B (by decide+kernel) ?_ (by decide) (by decide))]
 erw[callWith_kw ?_ (by rw[g];rfl) (by rw[g];rfl)]
 erw[thn (W6 w pa_nil g pos L s N H (λO y=>rMxd X.K O y Q) I h) λus D P=>?_];have⟨O,y,E,r,q⟩:=P;have⟨a,R,rfl,F,q⟩:=q;have⟨u,rfl,G⟩:=_N r;cases G;erw[kws_cons (thn (C L D N y (λv T=>v=.int 0/\T=y) E ⟨rfl,rfl⟩) λu s2 ⟨v,T,m,J,M,S⟩=>kws_nil ?_)];subst M S;have⟨o,rfl⟩:=J;have⟨d,i,n,b⟩:=m.list F;have U:IntsAre d R:=SS i;have⟨c,e⟩:=U.allInts.items;have l:R=c.toList.map (·.1):=by rw[<-U.numsOf,<-nums_intItems,<-e]
 have W:=n.isList;rw[e]at W;erw[_jA (m.ok.hd Z) W λv P tk f Y=>?_];rcases f with⟨z,rfl⟩|⟨z,f⟩
 .erw[⟨.int 0,_,m.kept Y,⟨o,rfl⟩,q _ (.inl ⟨?_,rfl⟩)⟩];rw[l,List.map_eq_nil_iff,<-Wx,Yg];erw[z]
 .have⟨t,rfl⟩:=intItems_at f;have⟨h1,h2⟩:=argBest_gt (numAt c) (c.size - 1);erw[⟨.int _,_,m.kept Y,⟨t,rfl⟩,q _ (.inr ⟨?_,λa w=>?_⟩)⟩]
  .rw[l,numAt_eq];erw[getD_mem (by rw[X5,Yg];lia)]
  .rw[l]at w;have⟨j,hj,rfl⟩:=mem_getD w;rw[X5,Yg]at hj;rw[<-numAt_eq];erw[h2 j (by lia)]
end
end L2
namespace HT
open PySem PySem.Spec PyProof.Rows
section
variable{prog:Xr}{w:Xl}{A:Xz}{E:X0->X2->Prop}{s:X2}
def tup_whole{t:Addr}{items:Array X0}{lo:Option Int}(z:IsTup s.heap t items)(m:s.heap.IsSliceOf sl vl vu .none)(g:IsPart vl lo)(d:IsPart vu hi)
  (c:sIx items.size 0 lo=0)(f:sIx items.size items.size hi=items.size)(h:Q (.ref t) s):X3 (X8 prog w) A (getItem (.ref t) (.ref sl)) Q E s:=by
 have⟨os,l,u,q⟩:=id m;have y:s.TypeIs (.ref sl) "slice":=⟨os,l,u⟩;have j:=z.typeIs;unfold getItem
 try with_reducible erw[Yx ?_]
 first|erw[X1 (Xa ?_)]|skip
 erw[X1 (wpAny_sequenceKey j (by decide) ?_)]
 erw[X1 (AF (name:=VX "__getitem__") j VU (Zm VU j entry_tuple_getitem ?_ (args_tuple_getitem _ _)))];show X3 _ _ (FS (.ref t)>>= _) _ _ s;erw[X1 (tupleItemsOf_ z ?_)];erw[X1 (V7 y ?_)];rw[if_pos (by decide)]
 erw[X1 (GX m g d ?_)];rw[c,f];show X3 _ _ (if(((0:Nat):Int)==0&&(1:Int)==1&&(items.size - 0)==items.size)=wf then _ else _) _ _ s;rw[if_pos (by simp)]
 erw[X1 ?_];show X3 _ _ (FU (.ref t)) _ _ s;unfold FU;erw[X1 (V7 j (Xa ?_))];rw[if_pos (by decide)]
 erw[X1 (VF (Xa ⟨_,rfl,Xa h⟩))]
end
end HT
namespace L2
open PySem PySem.Spec PyProof.Rows
section
variable{X:Cx}
def rSlW(K:X4):V->Option Int->Option Int->Hp->VK->Prop:=λx lo l H Q=>∃a j,x=.ref a/\SqT K H a j/\HT.sIx j.length 0 lo=0/\HT.sIx j.length j.length l=j.length/\Q (.ref a) H
def _kQ:SlR X (rSlW X.K):=by
 intro p s e H x v L N lo O P Q I w y z m h;have⟨a,g,rfl,d,c,f,q⟩:=h;cases w;have⟨l,r,u,R⟩:=I.tuple d;have j:l.toArray.size=g.length:=by rw[XN];erw[r.length.symm]
 erw[⟨"tuple",_,VU.lookup,u.typeIs,?_⟩];erw[HT.tup_whole u y z m (by rw[j];erw[c]) (by rw[j];erw[f]) ⟨.ref a,H,I,rfl,q⟩]
end
noncomputable def st3{j:Type}(l:List j):List j:=(Xq ((l.length+2)/3)).filterMap λk=>l[3*k]?
section
variable{X:Cx}{e e3:Expr}{te:TE}{p2 pos:Pos}
end
section
variable{X:Cx}
end
def eqTV(l u:List V):Bool:=(Xq (min l.length u.length)).all (λj=>eqV (l.getD j .non) (u.getD j .non))&&l.length==u.length
section
variable{X:Cx}
end
open AutoSeq1 (wpAny_loadPart')
open MeetsSeq MeetsSeq2 MeetsSeq3 SeqRoads2
section
variable{A:Xz}{s:X2}{a b:Addr}
end
section
variable{X:Cx}
end
end L2
namespace L2
open PySem PySem.Spec PyProof.Rows
inductive Ty7 where|int|bool|str|list|tuple|dict|none
  deriving DecidableEq
noncomputable def Ty7.name:Ty7->String
 |.int=>"int"|.bool=>"bool"|.str=>"str"|.list=>"list"|.tuple=>"tuple"|.dict=>"dict"|.none=>"NoneType"
inductive MV where
 |non|bl (b:Bool)|int (i:Int)|str (x:Str)|tup (xs:List MV)|frl (xs:List MV)|ref (a:Addr)|ty (n:Ty7)
noncomputable def HX:HO->Bool
 |.tup _=>wf
 |.frz _ (.lst _)=>wf
 |_=>wg
def Kp(H j:Hp):Prop:=∀a o,H a=wc o->HX o=wf->j a=wc o
def Kp.refl(H:Hp):Kp H H:=λ_ _ h _=>h
def Kp.trans(a:Kp H H1)(b:Kp H1 H2):Kp H H2:=λc o h f=>b c o (a c o h f) f
def Kp.new{H:Hp}{p:Addr}(h:H p=we)(o:HO):Kp H (upd H p o):=λa u e _=>by rw[XE (Vp e h)];erw[e]
theorem Kp.upd{H:Hp}{p:Addr}{o:HO}(h:H p=wc o)(f:HX o=wg)(j:HO):Kp H (upd H p j):=λa u e g=>by
 rw[XE (Gr e h (by intro z;rw[z,f]at g;cases g))];erw[e]
def FrL(K:X4)(H:Hp)(a:Addr)(l:List V):Prop:=(∃o,H a=wc (.frz o (.lst l)))\/
 ∃(o:Obj) (j:Array X0) (n:Nat),K.lookup a=wc o/\o.cls=.type "list"/\o.dict=we/\o.data=.seq j n/\j.size<=sizeLine/\Vals l j.toList
def FrL.sq{K:X4}(h:FrL K H a vs):SqL K H a vs:=by
 rcases h with⟨o,h⟩|h
 .erw[.inl (.inr ⟨o,h⟩)]
 .erw[.inr h]
mutual
inductive RM (K:X4)(H:Hp):MV->V->Prop
 |non:RM K H .non .non
 |bl (b:Bool):RM K H (.bl b) (.bl b)
 |int (i:Int):RM K H (.int i) (.int i)
 |str (x:Str):RM K H (.str x) (.str x)
 |ref (a:Addr):RM K H (.ref a) (.ref a)
 |ty (n:Ty7):RM K H (.ty n) (.ty n.name)
 |tup {a:Addr} {xs:List MV} {vs:List V}:H a=some (.tup vs)->RMs K H xs vs->RM K H (.tup xs) (.ref a)
 |frl {a:Addr} {xs:List MV} {vs:List V}:FrL K H a vs->RMs K H xs vs->RM K H (.frl xs) (.ref a)
inductive RMs (K:X4)(H:Hp):List MV->List V->Prop
 |nil:RMs K H [] []
 |cons {x:MV} {v:V} {xs:List MV} {vs:List V}:RM K H x v->RMs K H xs vs->RMs K H (x::xs) (v::vs)
end
mutual
theorem RM.mono{K:X4}(k:Kp H H'):∀{m:MV} {v:V},RM K H m v->RM K H' m v
 |_,_,.non=>.non
 |_,_,.bl b=>.bl b
 |_,_,.int i=>.int i
 |_,_,.str x=>.str x
 |_,_,.ref a=>.ref a
 |_,_,.ty n=>.ty n
 |_,_,.tup h r=>.tup (k _ _ h rfl) (RMs.mono k r)
 |_,_,.frl h r=>.frl (by
   rcases h with⟨o,h⟩|h
   .erw[.inl ⟨o,k _ _ h rfl⟩]
   .erw[.inr h]) (RMs.mono k r)
theorem RMs.mono{K:X4}(k:Kp H H'):∀{m:List MV} {v:List V},RMs K H m v->RMs K H' m v
 |_,_,.nil=>.nil
 |_,_,.cons a b=>.cons (RM.mono k a) (RMs.mono k b)
end
def ZqK(K:X4)(H:Hp)(v:V):MV->Prop
 |.non=>v=.non
 |.bl b=>v=.bl b
 |.int i=>v=.int i
 |.str x=>v=.str x
 |.tup xs=>∃a j,v=.ref a/\H a=wc (.tup j)/\RMs K H xs j
 |.frl xs=>∃a j,v=.ref a/\FrL K H a j/\RMs K H xs j
 |.ref a=>v=.ref a
 |.ty n=>v=.ty n.name
def RM.inv{K:X4}{H:Hp}{m:MV}{v:V}(r:RM K H m v):ZqK K H v m:=by
 cases r with
 |tup h q=>erw[⟨_,_,rfl,h,q⟩]
 |frl h q=>erw[⟨_,_,rfl,h,q⟩]
 |_=>rfl
def Zp5(K:X4)(H:Hp)(j:List V):List MV->Prop
 |[]=>j=[]
 |x::xs=>∃v l,j=v::l/\RM K H x v/\RMs K H xs l
def RMs.inv{K:X4}{H:Hp}{m:List MV}{v:List V}(r:RMs K H m v):Zp5 K H v m:=by
 cases r with
 |nil=>rfl
 |cons a b=>erw[⟨_,_,rfl,a,b⟩]
theorem RMs.length{K:X4}{H:Hp}{m:List MV}{v:List V}(h:RMs K H m v):m.length=v.length:=by
 induction m generalizing v with
 |nil=>obtain rfl:=h.inv;rfl
 |cons x m j=>
  have⟨_,_,rfl,_,b⟩:=h.inv;rw[Yj,Yj,j b]
theorem RMs.get{K:X4}:∀{m:List MV} {v:List V} {i:Nat} {x:MV},RMs K H m v->m[i]?=wc x->∃u,v[i]?=wc u/\RM K H x u
 |_,_,_,_,.nil,e=>by simp at e
 |_,_,0,_,.cons r _,e=>by simp at e;subst e;erw[⟨_,rfl,r⟩]
 |_,_,i+1,x,.cons _ t,e=>by
  have⟨u,j,l⟩:=RMs.get (i:=i) (x:=x) t (by simpa using e)
  erw[⟨u,by simpa using j,l⟩]
theorem RMs.get'{K:X4}:∀{m:List MV} {v:List V} {i:Nat} {u:V},RMs K H m v->v[i]?=wc u->∃x,m[i]?=wc x/\RM K H x u
 |_,_,_,_,.nil,e=>by simp at e
 |_,_,0,_,.cons r _,e=>by simp at e;subst e;erw[⟨_,rfl,r⟩]
 |_,_,i+1,x,.cons _ t,e=>by
  have⟨u,j,l⟩:=RMs.get' (i:=i) (u:=x) t (by simpa using e)
  erw[⟨u,by simpa using j,l⟩]
def RMs.append{K:X4}{H:Hp}{m j:List MV}{v l:List V}(h:RMs K H m v)(s:RMs K H j l):RMs K H (m++j) (v++l):=by
 induction m generalizing v with
 |nil=>obtain rfl:=h.inv;erw[s]
 |cons x m u=>
  have⟨_,_,rfl,a,b⟩:=h.inv;erw[.cons a (u b)]
theorem RMs.take{K:X4}:∀{m:List MV} {v:List V} (n:Nat),RMs K H m v->RMs K H (m.take n) (v.take n)
 |_,_,0,_=>.nil
 |_,_,_+1,.nil=>.nil
 |_,_,n+1,.cons r t=>.cons r (t.take n)
theorem RMs.drop{K:X4}:∀{m:List MV} {v:List V} (n:Nat),RMs K H m v->RMs K H (m.drop n) (v.drop n)
 |_,_,0,r=>r
 |_,_,_+1,.nil=>.nil
 |_,_,n+1,.cons _ t=>t.drop n
theorem RMs.set{K:X4}(r:RM K H x u):∀{m:List MV} {v:List V} (i:Nat),RMs K H m v->RMs K H (m.set i x) (v.set i u)
 |_,_,_,.nil=>.nil
 |_,_,0,.cons _ t=>.cons r t
 |_,_,i+1,.cons q t=>.cons q (t.set r i)
theorem RMs.ints{K:X4}:∀j:List Int,RMs K H (j.map MV.int) (j.map V.int)
 |[]=>.nil
 |n::r=>.cons (.int n) (RMs.ints r)
def RMs.map_of{K:X4}{H:Hp}{u:Type}{f:u->MV}{g:u->V}(w:∀a v,RM K H (f a) v->v=g a):∀{l:List u} {j:List V},RMs K H (l.map f) j->j=l.map g:=by
 intro l
 induction l with
 |nil=>intro j h;cases h;rfl
 |cons n r y=>
  intro j h;have h:RMs K H (f n::r.map f) j:=h;cases h with
  |cons x t=>rw[y t,w _ _ x];rfl
def RMs.ints_of{K:X4}{H:Hp}{j:List Int}{l:List V}(h:RMs K H (j.map MV.int) l):l=j.map V.int:=h.map_of λ_ _ x=>by cases x;rfl
inductive MO where
 |lst (xs:List MV)|dic (kvs:List (Key×MV))|ins (c:Str)(fs:List (Str×MV))
 |fdic (o:Obj)(kvs:List (Key×MV))
noncomputable abbrev MH:=Addr->Option MO
noncomputable def updM(M:MH)(a:Addr)(o:MO):MH:=λb=>if b=a then wc o else M b
def Xb:updM M a o a=wc o:=by unfold updM;rw[if_pos rfl]
def X7(h:b≠a):updM M a o b=M b:=by unfold updM;rw[if_neg h]
def YN:updM (updM M a o) a u=updM M a u:=by funext b;unfold updM;split<;>rfl
inductive RKs {κ:Type} (K:X4)(H:Hp):List (κ×MV)->List (κ×V)->Prop
 |nil:RKs K H [] []
 |cons {k:κ} {x:MV} {v:V} {xs:List (κ×MV)} {vs:List (κ×V)}:RM K H x v->RKs K H xs vs->RKs K H ((k,x)::xs) ((k,v)::vs)
theorem RKs.mono{j:Type}{K:X4}{H l:Hp}(k:Kp H l){m:List (j×MV)}{v:List (j×V)}(h:RKs K H m v):RKs K l m v:=by
 induction h with
 |nil=>erw[.nil]
 |cons a _ u=>erw[.cons (a.mono k) u]
theorem RKs.length{j:Type}{K:X4}{H:Hp}{m:List (j×MV)}{v:List (j×V)}(h:RKs K H m v):m.length=v.length:=by
 induction h with
 |nil=>rfl
 |cons _ _ l=>rw[Yj,Yj,l]
section
variable{κ:Type} [DecidableEq κ]
noncomputable def valM(l:List (κ×MV))(k:κ):Option MV:=match l with
 |[]=>we
 |(j,v)::r=>if j=k then wc v else valM r k
noncomputable def putM(l:List (κ×MV))(k:κ)(v:MV):List (κ×MV):=match l with
 |[]=>[(k,v)]
 |(j,u)::r=>if j=k then(j,v)::r else(j,u)::putM r k v
end
def RO(K:X4)(H:Hp):MO->HO->Prop
 |.lst xs,.lst vs=>RMs K H xs vs
 |.dic kvs,.dK vs=>RKs K H kvs vs/\(kvs.map (·.1)).Nodup
 |.ins c fs,.ins C _ vs=>XC K Xp c=wc (wc (.ref C))/\RKs K H fs vs
 |.fdic o kvs,.frz o' (.dK vs)=>o=o'/\RKs K H kvs vs/\(kvs.map (·.1)).Nodup
 |_,_=>False
theorem RO.mono{K:X4}(k:Kp H H')(h:RO K H o u):RO K H' o u:=by
 cases o with
 |lst l=>cases u<;>first|erw[RMs.mono k h]|erw[h.elim]
 |dic j=>cases u<;>first|erw[⟨h.1.mono k,h.2⟩]|erw[h.elim]
 |ins c fs=>cases u<;>first|erw[⟨h.1,h.2.mono k⟩]|erw[h.elim]
 |fdic w j=>
  cases u with
  |frz y u=>cases u<;>first|erw[⟨h.1,h.2.1.mono k,h.2.2⟩]|erw[h.elim]
  |_=>erw[h.elim]
def RH(K:X4)(M:MH)(H:Hp):Prop:=∀a o,M a=wc o->∃u,H a=wc u/\RO K H o u
def RH.free{K:X4}(r:RH K M H)(h:H p=we):M p=we:=by
 cases e:M p with
 |none=>rfl
 |some o=>have⟨u,j,_⟩:=r p o e;rw[j]at h;cases h
theorem RH.lst{K:X4}(r:RH K M H)(h:M p=wc (.lst xs)):∃vs,H p=wc (.lst vs)/\RMs K H xs vs:=by
 have⟨u,l,j⟩:=r p _ h;cases u<;>try erw[j.elim]
 erw[⟨_,l,j⟩]
theorem RH.dic{K:X4}(r:RH K M H)(h:M p=wc (.dic xs)):∃vs,H p=wc (.dK vs)/\RKs K H xs vs/\(xs.map (·.1)).Nodup:=by
 have⟨u,l,j⟩:=r p _ h;cases u<;>try erw[j.elim]
 erw[⟨_,l,j.1,j.2⟩]
theorem RH.fdic{K:X4}(r:RH K M H)(h:M p=wc (.fdic o xs)):∃l,H p=wc (.frz o (.dK l))/\RKs K H xs l/\(xs.map (·.1)).Nodup:=by
 have⟨u,w,j⟩:=r p _ h;cases u with
 |frz m u=>
  cases u<;>try erw[j.elim]
  have⟨rfl,y,z⟩:=j;erw[⟨_,w,y,z⟩]
 |_=>erw[j.elim]
theorem RH.ins{K:X4}(r:RH K M H){fs:List (Str×MV)}(h:M p=wc (.ins c fs)):∃C l vs,H p=wc (.ins C l vs)/\XC K Xp c=wc (wc (.ref C))/\RKs K H fs vs:=by
 have⟨u,w,j⟩:=r p _ h;cases u<;>try erw[j.elim]
 erw[⟨_,_,_,w,j.1,j.2⟩]
def DE{K:X4}{H:Hp}{f:Str}{m:List (Str×MV)}{v:List (Str×V)}(h:RKs K H m v):(valM m f=we/\v.lookup f=we)\/∃x u,valM m f=wc x/\v.lookup f=wc u/\RM K H x u:=by
 induction h with
 |nil=>erw[.inl ⟨rfl,rfl⟩]
 | @cons j x u _ _ r t this=>
  by_cases e:j=f
  .erw[.inr ⟨x,u,?_,?_,r⟩]
   .unfold valM;rw[if_pos e]
   .subst e;simp
  .have l:(f==j)=wg:=by simpa using λz=>e z.symm
   unfold valM;rw[if_neg e,ZE,l];erw[this]
def _lc{K:X4}{H:Hp}{f:Str}{x:MV}{u:V}(r:RM K H x u){m:List (Str×MV)}{v:List (Str×V)}(h:RKs K H m v):RKs K H (putM m f x) (putF f u v):=by
 induction h with
 |nil=>erw[.cons r .nil]
 | @cons j _ _ _ _ q t l=>
  unfold putM putF;by_cases e:j=f
  .rw[if_pos e,if_pos e];erw[.cons r t]
  .rw[if_neg e,if_neg e];erw[.cons q l]
def RH.put{K:X4}(r:RH K M H)(k:Kp H (upd H p u))(j:RO K (upd H p u) o u):RH K (updM M p o) (upd H p u):=by
 intro a l e;by_cases h:a=p
 .subst h;rw[Xb]at e;cases e;erw[⟨u,_M,j⟩]
 .rw[X7 h]at e;have⟨v,w,y⟩:=r a l e;erw[⟨v,by rw[XE h];erw[w],y.mono k⟩]
def RH.kept{K:X4}{M:MH}{H:Hp}(r:RH K M H){p:Addr}(j:H p=we)(u:HO):RH K M (upd H p u):=by
 intro a w e;have⟨v,l,y⟩:=r a w e;erw[⟨v,by rw[XE (Vp l j)];erw[l],y.mono (Kp.new j u)⟩]
noncomputable abbrev Sm:=List (Option MV)
abbrev QM:=MV->MH->Prop
abbrev TEm:=Sm->MH->QM->Prop
abbrev TAm:=Sm->MH->(List MV->MH->Prop)->Prop
noncomputable def RS(K:X4)(H:Hp)(j:Sm)(l:St):Prop:=j.length=l.length/\∀(i:Nat)(m:MV),j[i]?=wc (wc m)->∃v,l[i]?=wc (wc v)/\RM K H m v
theorem RS.mono{K:X4}(k:Kp H H')(h:RS K H σm σ):RS K H' σm σ:=⟨h.1,λi m e=>by
 have⟨v,j,r⟩:=h.2 i m e;erw[⟨v,j,r.mono k⟩]⟩
theorem RS.set{K:X4}(h:RS K H σm σ)(r:RM K H m v)(i:Nat):RS K H (σm.set i (wc m)) (σ.set i (wc v)):=by
 erw[⟨by simp[h.1],λj x e=>?_⟩]
 rw[Vc]at e;by_cases hij:i=j
 .subst hij;rw[if_pos rfl]at e;split at e
  .cases e;erw[⟨v,by rw[Vc,if_pos rfl,if_pos (by rw[<-h.1];assumption)],r⟩]
  .cases e
 .rw[if_neg hij]at e;have⟨u,l,w⟩:=h.2 j x e;erw[⟨u,by rw[Vc,if_neg hij];erw[l],w⟩]
def Dn(K:X4)(H:Hp)(Q:VK):QM:=λm M=>∀v j,Kp H j->RM K j m v->RH K M j->Q v j
def Dn.on{K:X4}(k:Kp H H1)(h:Dn K H Q m M):Dn K H1 Q m M:=λv j l r u=>h v j (k.trans l) r u
def liE(K:X4)(t:TEm):TE:=λl H Q=>∃j M,RS K H j l/\RH K M H/\t j M (Dn K H Q)
def liA(K:X4)(t:TAm):TA:=λw H Q=>∃j M,RS K H j w/\RH K M H/\t j M (λy z=>∀u l,Kp H l->RMs K l y u->RH K z l->Q u l)
def MonE(t:TEm):Prop:=∀{j M} {Q l:QM},(∀m u,Q m u->l m u)->t j M Q->t j M l
def MonA(t:TAm):Prop:=∀{j M} {Q l:List MV->MH->Prop},(∀m u,Q m u->l m u)->t j M Q->t j M l
abbrev W1:=MV->MH->QM->Prop
abbrev W2:=MV->MV->MH->QM->Prop
abbrev WA:=List MV->MH->QM->Prop
def Mon1(w:W1):Prop:=∀{x M} {Q j:QM},(∀m l,Q m l->j m l)->w x M Q->w x M j
def Mon2(w:W2):Prop:=∀{x y M} {Q j:QM},(∀m l,Q m l->j m l)->w x y M Q->w x y M j
def MonW(w:WA):Prop:=∀{j M} {Q l:QM},(∀m u,Q m u->l m u)->w j M Q->w j M l
def li1(K:X4)(w:W1):V->Hp->VK->Prop:=λx H Q=>∃j M,RM K H j x/\RH K M H/\w j M (Dn K H Q)
def li2(K:X4)(w:W2):R2:=λx y H Q=>∃j l M,RM K H j x/\RM K H l y/\RH K M H/\w j l M (Dn K H Q)
def liW(K:X4)(w:WA):List V->Hp->VK->Prop:=λl H Q=>∃j M,RMs K H j l/\RH K M H/\w j M (Dn K H Q)
section
variable{K:X4}
def DF{z g:TEm}{w:W2}(p:MonE z)(e:MonE g)(L:Mon2 w){j:St}{H:Hp}{Q:VK}
  (h:liE K (λj M Q=>z j M λx M1=>g j M1 λy M2=>w x y M2 Q) j H Q):tOp (li2 K w) (liE K z) (liE K g) j H Q:=by
 have⟨l,M,f,N,h⟩:=h;erw[⟨l,M,f,N,p (λx M1 O=>?_) h⟩];intro v W q P d;erw[⟨l,M1,f.mono q,d,e (λy M2 R=>?_) O⟩];intro u Y r T c;erw[⟨x,y,M2,P.mono r,T,c,L (λm Z U=>U.on (q.trans r)) R⟩]
end
def PE.weak{t:TE}(h:PE X e t)(i:∀j H Q,t' j H Q->t j H Q):PE X e t':=λl s j H Q I q=>h l s j H Q I (i _ _ _ q)
def PT.weak{t:TT}(h:PT X e t)(i:∀j H Q,t' j H Q->t j H Q):PT X e t':=λl s j H Q I q=>h l s j H Q I (i _ _ _ q)
def PW.weak{t:TT}(h:PW X e t)(i:∀j H Q,t' j H Q->t j H Q):PW X e t':=λl u s j H Q I q=>h l u s j H Q I (i _ _ _ q)
def PA.weak{t:TA}(h:PA X e t)(i:∀j H Q,t' j H Q->t j H Q):PA X e t':=λl u s j H Q I q=>h l u s j H Q I (i _ _ _ q)
def PS.weak{t:TS}(h:PS X e t)(i:∀D j H,t' D j H->t D j H):PS X e t':=λl s j H D I q=>h l s j H D I (i _ _ _ q)
def PSs.weak{t:TS}(h:PSs X e t)(i:∀D j H,t' D j H->t D j H):PSs X e t':=λl s j H D I q=>h l s j H D I (i _ _ _ q)
noncomputable def intsM(k:Int->Int->Prop)(x y:MV):Prop:=match x,y with
 |.int i,.int j=>k i j
 |_,_=>False
def intsM.of{k:Int->Int->Prop}{x y:MV}(h:intsM k x y):∃i j,x=.int i/\y=.int j/\k i j:=by
 unfold intsM at h;split at h
 .erw[⟨_,_,rfl,rfl,h⟩]
 .erw[h.elim]
noncomputable def addM(x y:MV)(M:MH)(Q:QM):Prop:=match x,y with
 |.int i,.int j=>Q (.int (i+j)) M
 |.str i,.str j=>i.length+j.length<=sizeLine/\Q (.str (i++j)) M
 |.tup xs,.tup ys=>xs≠ []/\xs.length+ys.length<=sizeLine/\Q (.tup (xs++ys)) M
 |_,_=>False
def mulM(x y:MV)(M:MH)(Q:QM):Prop:=match x,y with
 |.int i,.int j=>CMul i j/\Q (.int (i*j)) M
 |.str z,.int i=>z.length<=16/\ -1000<=i/\i<=1000/\Q (.str (Txt.mul z i)) M
 |.tup l,.int k=>l≠ []/\1<=k/\l.length*k.toNat<=1000000/\Q (.tup (Xi k.toNat l).flatten) M
 |.ref a,.int k=>∃l,M a=wc (.lst l)/\ -(2^63)<=k/\k<2^63/\l.length*k.toNat<=sizeLine/\∀p,M p=we->Q (.ref p) (updM M p (.lst (Xi k.toNat l).flatten))
 |_,_=>False
def wBin(l:UH)(x y:MV)(M:MH)(Q:QM):Prop:=match l with
 |.Add=>addM x y M Q
 |.Mult=>mulM x y M Q
 |.Sub=>intsM (λi j=>Q (.int (i - j)) M) x y
 |.FloorDiv=>intsM (λi j=>WV i j/\Q (.int (i/j)) M) x y
 |.Mod=>intsM (λi j=>0<j/\Q (.int (i%j)) M) x y
 |.Pow=>intsM (λi j=>CPow i j/\Q (.int (i^j.toNat)) M) x y
 |.BitAnd=>intsM (λi j=>Q (.int (By i j)) M) x y
 |.BitXor=>intsM (λi j=>Q (.int (Bz i j)) M) x y
 |_=>False
def _lU:Mon2 addM:=by
 intro x y M Q c j h;unfold addM at h ⊢;split at h
 all_goals first
  |erw[j _ _ h]
  |erw[h.elim]
  |erw[⟨h.1,j _ _ h.2⟩]
  |erw[⟨h.1,h.2.1,j _ _ h.2.2⟩]
  |(have⟨g,l,d,u,w,z⟩:=h
    erw[⟨g,l,d,u,w,λp m=>j _ _ (z p m)⟩])
  |(have⟨l,u,w,z⟩:=h
    erw[⟨l,u,w,λp m=>j _ _ (z p m)⟩])
def _lS:Mon2 mulM:=by
 intro x y M Q c j h;unfold mulM at h ⊢;split at h
 all_goals first
  |erw[h.elim]
  |erw[⟨h.1,j _ _ h.2⟩]
  |erw[⟨h.1,h.2.1,h.2.2.1,j _ _ h.2.2.2⟩]
  |(have⟨l,u,w,z,m,g⟩:=h
    erw[⟨l,u,w,z,m,λp d=>j _ _ (g p d)⟩])
def HY(u:UH):Mon2 (wBin u):=by
 intro x y M Q w l h;cases u
 all_goals first
  |erw[Y7 h]
  |erw[_lU l h]
  |erw[_lS l h]
  |(have⟨i,j,rfl,rfl,h⟩:=intsM.of h
    erw[l _ _ h])
  |(have⟨i,j,rfl,rfl,h⟩:=intsM.of h
    erw[⟨h.1,l _ _ h.2⟩])
theorem RMs.rep{K:X4}(q:RMs K H xs vs):∀k:Nat,RMs K H (Xi k xs).flatten (Xi k vs).flatten
 |0=>.nil
 |k+1=>by
  rw[Zo,Zo,ZD,ZD];erw[q.append (q.rep k)]
section
variable{X:Cx}
set_option tactic.hygienic true in
def _lA:OpR X (Yq .Add) (li2 X.K addM):=by
 intro w s m H x y v u Q I g d h;have⟨U,W,M,c,f,j,h⟩:=h;unfold addM at h;split at h
 .obtain rfl:=c.inv;obtain rfl:=f.inv;erw[RL w s m H _ _ v u Q I g d ⟨_,_,rfl,rfl,h _ _ (Kp.refl _) (.int _) j⟩]
 .obtain rfl:=c.inv;obtain rfl:=f.inv;erw[Sa w s m H _ _ v u Q I g d ⟨_,_,rfl,rfl,h.1,h.2 _ _ (Kp.refl _) (.str _) j⟩]
 .rename_i Y Z
  have⟨_,_,rfl,e,l⟩:=c.inv
  rename_i a L
  cases f with
  |tup P q=>
   rename_i b N
   have⟨R,T,r⟩:=h;erw[SZ w s m H _ _ v u Q I g d ⟨_,_,L,N,rfl,rfl,SqT.of e,SqT.of P,λz=>R ?_,by rw[<-l.length,<-q.length];erw[T],λz=>?_,λz p O=>?_⟩]
   .subst z;cases l;rfl
   .subst z;cases q;rw[Z3]at r;erw[r _ _ (Kp.refl _) (.tup e l) j]
   .have k:=Kp.new O (.tup (L++N));erw[r _ _ k (.tup _M ((l.append q).mono k)) (j.kept O _)]
 .erw[h.elim]
set_option tactic.hygienic true in
def _lx:OpR X (Yq .Mult) (li2 X.K mulM):=by
 intro d s c H x y v u Q I f q h;have⟨Z,A,M,r,L,j,h⟩:=h;unfold mulM at h;split at h
 .obtain rfl:=r.inv;obtain rfl:=L.inv;erw[RP d s c H _ _ v u Q I f q ⟨_,_,rfl,rfl,h.1,h.2 _ _ (Kp.refl _) (.int _) j⟩]
 .obtain rfl:=r.inv;obtain rfl:=L.inv;erw[TF d s c H _ _ v u Q I f q ⟨_,_,rfl,rfl,h.1,h.2.1,h.2.2.1,h.2.2.2 _ _ (Kp.refl _) (.str _) j⟩]
 .rename_i O k
  obtain rfl:=L.inv;have⟨_,_,rfl,N,l⟩:=r.inv
  rename_i a m
  have⟨P,R,T,U⟩:=h;erw[_lv d s c H _ _ v u Q I f q ⟨_,_,m,rfl,rfl,SqT.of N,λz=>P ?_,R,by rw[<-l.length];erw[T],λz=>?_,λz p g=>?_⟩]
  .subst z;cases l;rfl
  .subst z;have e:(Xi (1:Int).toNat O).flatten=O:=by simp
   rw[e]at U;erw[U _ _ (Kp.refl _) (.tup N l) j]
  .have w:=Kp.new g (.tup (Xi k.toNat m).flatten);erw[U _ _ w (.tup _M ((l.rep k.toNat).mono w)) (j.kept g _)]
 .rename_i a k
  obtain rfl:=r.inv;obtain rfl:=L.inv;have⟨O,N,W,P,R,T⟩:=h;have⟨m,Y,l⟩:=j.lst N;erw[Tf d s c H _ _ v u Q I f q ⟨_,_,m,rfl,rfl,Y,W,P,by rw[<-l.length];erw[R],λp g=>?_⟩]
  have w:=Kp.new g (.lst (Xi k.toNat m).flatten);erw[T p (j.free g) _ _ w (.ref p) (j.put w ((l.rep k.toNat).mono w))]
 .erw[h.elim]
def _oc(r:UH):OpR X (Yq r) (li2 X.K (wBin r)):=by
 cases r with
 |Add=>erw[_lA]
 |Mult=>erw[_lx]
 |Sub=>
  intro l s w H x y v u Q I z m h;have⟨f,q,M,g,d,c,h⟩:=h;have⟨i,j,rfl,rfl,h⟩:=intsM.of h;obtain rfl:=g.inv;obtain rfl:=d.inv;erw[RN l s w H _ _ v u Q I z m ⟨_,_,rfl,rfl,h _ _ (Kp.refl _) (.int _) c⟩]
 |FloorDiv=>
  intro l s w H x y v u Q I z m h;have⟨f,q,M,g,d,c,h⟩:=h;have⟨i,j,rfl,rfl,h⟩:=intsM.of h;obtain rfl:=g.inv;obtain rfl:=d.inv;erw[Tw l s w H _ _ v u Q I z m ⟨_,_,rfl,rfl,h.1,h.2 _ _ (Kp.refl _) (.int _) c⟩]
 |Mod=>
  intro l s w H x y v u Q I z m h;have⟨f,q,M,g,d,c,h⟩:=h;have⟨i,j,rfl,rfl,h⟩:=intsM.of h;obtain rfl:=g.inv;obtain rfl:=d.inv;erw[RQ l s w H _ _ v u Q I z m ⟨_,_,rfl,rfl,h.1,h.2 _ _ (Kp.refl _) (.int _) c⟩]
 |Pow=>
  intro l s w H x y v u Q I z m h;have⟨f,q,M,g,d,c,h⟩:=h;have⟨i,j,rfl,rfl,h⟩:=intsM.of h;obtain rfl:=g.inv;obtain rfl:=d.inv;erw[RT l s w H _ _ v u Q I z m ⟨_,_,rfl,rfl,h.1,h.2 _ _ (Kp.refl _) (.int _) c⟩]
 |BitAnd=>
  intro l s w H x y v u Q I z m h;have⟨f,q,M,g,d,c,h⟩:=h;have⟨i,j,rfl,rfl,h⟩:=intsM.of h;obtain rfl:=g.inv;obtain rfl:=d.inv;erw[RU l s w H _ _ v u Q I z m ⟨_,_,rfl,rfl,h _ _ (Kp.refl _) (.int _) c⟩]
 |BitXor=>
  intro l s w H x y v u Q I z m h;have⟨f,q,M,g,d,c,h⟩:=h;have⟨i,j,rfl,rfl,h⟩:=intsM.of h;obtain rfl:=g.inv;obtain rfl:=d.inv;erw[RV l s w H _ _ v u Q I z m ⟨_,_,rfl,rfl,h _ _ (Kp.refl _) (.int _) c⟩]
 |_=>
  intro l s w H x y v u Q I z m h;have⟨_,_,_,_,_,_,h⟩:=h;erw[Y7 h]
end
mutual
inductive DM (M:MH):MV->PyData->Prop
 |non:DM M .non .none
 |bl (b:Bool):DM M (.bl b) (.bool b)
 |int (i:Int):DM M (.int i) (.int i)
 |str (x:Str):DM M (.str x) (.str x)
 |lst {a:Addr} {xs:List MV} {ds:List PyData}:M a=some (.lst xs)->DMs M xs ds->DM M (.ref a) (.list ds)
 |frl {xs:List MV} {ds:List PyData}:DMs M xs ds->DM M (.frl xs) (.list ds)
 |tup {xs:List MV} {ds:List PyData}:DMs M xs ds->DM M (.tup xs) (.tuple ds)
inductive DMs (M:MH):List MV->List PyData->Prop
 |nil:DMs M [] []
 |cons {x:MV} {xs:List MV} {d:PyData} {ds:List PyData}:DM M x d->DMs M xs ds->DMs M (x::xs) (d::ds)
end
noncomputable def eqS(x y:MV):Option Bool:=match x with
 |.int i=>(match y with|.int j=>wc (decide (i=j))|.non=>wc wg|.str _=>wc wg|_=>we)
 |.str i=>(match y with|.str j=>wc (decide (i=j))|.non=>wc wg|.int _=>wc wg|.bl _=>wc wg|_=>we)
 |.bl i=>(match y with|.bl j=>wc (decide (i=j))|.non=>wc wg|.str _=>wc wg|_=>we)
 |.non=>(match y with|.non=>wc wf|.int _=>wc wg|.bl _=>wc wg|.str _=>wc wg|_=>we)
 |_=>we
def HZ{K:X4}(h:eqS x y=wc b)(r:RM K H x u)(q:RM K H y v):scal u v=wf/\decide (u=v)=b:=by
 cases r
 all_goals first
  |erw[nomatch (show we=wc b from h)]
  |skip
 all_goals
  cases q
  all_goals first
   |erw[nomatch (show we=wc b from h)]
   |(obtain rfl:=Y4 (show wc wg=wc b from h);erw[⟨rfl,rfl⟩])
   |(obtain rfl:=Y4 (show wc wf=wc b from h);erw[⟨rfl,rfl⟩])
   |(obtain rfl:=Y4 h;erw[⟨rfl,decide_eq_decide.mpr ⟨V.int.inj,λe=>by rw[e]⟩⟩])
   |(obtain rfl:=Y4 h;erw[⟨rfl,decide_eq_decide.mpr ⟨V.str.inj,λe=>by rw[e]⟩⟩])
   |(obtain rfl:=Y4 h;erw[⟨rfl,decide_eq_decide.mpr ⟨V.bl.inj,λe=>by rw[e]⟩⟩])
inductive DHits (M:MH)(kb:List (Key×MV)):List (Key×MV)->Bool->Prop
 |nil:DHits M kb [] true
 |miss {k:Key} {v:MV} {r:List (Key×MV)}:valM kb k=none->DHits M kb ((k,v)::r) false
 |hit {k:Key} {v y:MV} {d e:PyData} {r:List (Key×MV)} {b:Bool}:valM kb k=some y->DM M v d->DM M y e->SeqAt.shaped d=true->SeqAt.shaped e=true->DHits M kb r b->DHits M kb ((k,v)::r) (PyData.eqv d e&&b)
noncomputable def LstM(M:MH)(x:MV)(j:List MV):Prop:=x=.frl j\/∃a,x=.ref a/\M a=wc (.lst j)
noncomputable def Yh:MV->Bool
 |.non=>wf|.bl _=>wf|.int _=>wf|.str _=>wf|_=>wg
def Alike(M:MH):Nat->MV->MV->Prop
 |0,x,y=>Yh x=wf/\x=y
 |n+1,x,y=>(Yh x=wf/\x=y)\/(∃j l,x=.tup j/\y=.tup l/\j.length=l.length/\∀(i:Nat)u v,j[i]?=wc u->l[i]?=wc v->Alike M n u v)\/
  (∃j l,LstM M x j/\LstM M y l/\j.length=l.length/\∀(i:Nat)u v,j[i]?=wc u->l[i]?=wc v->Alike M n u v)\/
  ∃a b w z,x=.ref a/\y=.ref b/\M a=wc (.dic w)/\M b=wc (.dic z)/\w.length=z.length/\∀k u,(k,u)∈w->∃v,valM z k=wc v/\Alike M n u v
noncomputable def toV:MV->V
 |.non=>.non|.bl b=>.bl b|.int i=>.int i|.str x=>.str x|_=>.non
def wEqT(x y:MV)(k:Bool->Prop):Prop:=∃j l,x=.tup j/\y=.tup l/\j.all Yh=wf/\l.all Yh=wf/\k (eqTV (j.map toV) (l.map toV))
def wEq(x y:MV)(M:MH)(k:Bool->Prop):Prop:=match eqS x y with
 |wc b=>k b
 |we=>False\/(∃n≤60,Alike M n x y/\k wf)\/(∃a b j,x=.ref a/\y=.ref b/\M a=wc (.lst j)/\M b=wc (.lst [])/\k j.isEmpty)\/False\/False
def Uu{K:X4}(f:Yh m=wf)(r:RM K H m v):v=toV m/\U0 v=wf:=by
 cases r<;>first|erw[⟨rfl,rfl⟩]|cases f
def Wb{K:X4}{H:Hp}{m:List MV}{v:List V}(f:m.all Yh=wf)(h:RMs K H m v):v=m.map toV/\v.all U0=wf:=by
 induction m generalizing v with
 |nil=>obtain rfl:=h.inv;erw[⟨rfl,rfl⟩]
 |cons x m j=>
  have⟨_,_,rfl,r,t⟩:=h.inv;rw[Vf,XQ]at f;have⟨e,g⟩:=Uu f.1 r;have⟨l,u⟩:=j f.2 t;subst e l;erw[⟨rfl,by rw[Vf,g,u];rfl⟩]
def keyM:MV->Option Key
 |.int i=>wc (.inl i)
 |.str x=>wc (.inr x)
 |_=>we
def A5{K:X4}{k:Key}(e:keyM m=wc k)(r:RM K H m v):v=kV k:=by
 cases r<;>cases e<;>rfl
def A6{K:X4}{H:Hp}{k:Key}{m:List (Key×MV)}{v:List (Key×V)}(h:RKs K H m v):(valM m k=we/\valV v k=we)\/∃x u,valM m k=wc x/\valV v k=wc u/\RM K H x u:=by
 induction h with
 |nil=>erw[.inl ⟨rfl,rfl⟩]
 | @cons j x u _ _ r t this=>
  by_cases e:j=k
  .erw[.inr ⟨x,u,?_,BF (p:=(j,u)) e,r⟩];unfold valM;rw[if_pos e]
  .unfold valM;rw[if_neg e,BG (p:=(j,u)) e];erw[this]
def _nk{K:X4}{H:Hp}{k:Key}{m:List (Key×MV)}{v:List (Key×V)}(h:RKs K H m v):(v.any λj=>decide (j.1=k))=(m.any λj=>decide (j.1=k)):=by
 induction h with
 |nil=>rfl
 |cons _ _ l=>rw[ZW,ZW,l]
def _ni{K:X4}{H:Hp}{k:Key}{x:MV}{u:V}(r:RM K H x u){m:List (Key×MV)}{v:List (Key×V)}(h:RKs K H m v):
  RKs K H (m.map λl=>if l.1=k then(l.1,x)else l) (v.map λl=>if l.1=k then(l.1,u)else l):=by
 induction h with
 |nil=>erw[.nil]
 | @cons j _ _ _ _ q t w=>
  rw[Xt,Xt];by_cases e:j=k
  .rw[if_pos e,if_pos e];erw[.cons r w]
  .rw[if_neg e,if_neg e];erw[.cons q w]
def _nj{j:Type}{K:X4}{H:Hp}{m l:List (j×MV)}{v u:List (j×V)}(h:RKs K H m v)(s:RKs K H l u):RKs K H (m++l) (v++u):=by
 induction h with
 |nil=>erw[s]
 |cons r _ w=>erw[.cons r w]
theorem I0{l:Type} [DecidableEq l] {k:l}:∀{m:List (l×MV)},¬k∈m.map (·.1)->(m.map λu=>if u.1=k then(u.1,x)else u)=m
 |[],_=>rfl
 |(j,y)::r,h=>by
  rw[Xt,if_neg (λe=>h (by simp[show j=k from e])),I0 (λe=>h (by simp[e]))]
theorem Ia{u:Type} [DecidableEq u] {k:u}:∀{m:List (u×MV)},(m.map (·.1)).Nodup->putM m k x=if(m.any λl=>decide (l.1=k))=wf then m.map (λl=>if l.1=k then(l.1,x)else l)else m++[(k,x)]
 |[],_=>rfl
 |(j,y)::r,h=>by
  rw[Xt,Yc]at h;unfold putM;rw[ZW];by_cases e:j=k
  .subst e;rw[if_pos rfl,if_pos (by simp),Xt,if_pos rfl,I0 h.1]
  .rw[if_neg e,Ia h.2,show decide ((j,y).1=k)=wg from decide_eq_false e,Df,Xt,if_neg (show¬(j,y).1=k from e)];split<;>rfl
theorem Ib{l:Type} [DecidableEq l] {k:l}:∀(m:List (l×MV)),((putM m k x).map (·.1))=if k∈m.map (·.1)then m.map (·.1)else m.map (·.1)++[k]
 |[]=>rfl
 |(j,y)::r=>by
  unfold putM;by_cases e:j=k
  .subst e;simp
  .rw[if_neg e,Xt,Ib r,Xt];have u:k≠j:=λz=>e z.symm;by_cases m:k∈r.map (·.1)
   .rw[if_pos m,if_pos (Xj.mpr (.inr m))]
   .rw[if_neg m,if_neg (λz=>(Xj.mp z).elim u m)];rfl
def Ic{K:X4}{k:Key}(r:RM K H x u)(j:(m.map (·.1)).Nodup)(h:RKs K H m v):
  RKs K H (putM m k x) (putK v k u)/\((putM m k x).map (·.1)).Nodup:=by
 erw[⟨?_,?_⟩]
 .rw[Ia j];unfold putK;rw[_nk h];split
  .erw[_ni r h]
  .erw[_nj h (.cons r .nil)]
 .rw[Ib];split
  .erw[j]
  .erw[Ht j (by assumption)]
def wIn(x y:MV)(M:MH)(k:Bool->Prop):Prop:=match y with
 |.tup j=>Yh x=wf/\j.all Yh=wf/\k (inV (toV x) (j.map toV))
 |.frl j=>Yh x=wf/\j.all Yh=wf/\k (inV (toV x) (j.map toV))
 |.ref a=>(∃j,M a=wc (.lst j)/\Yh x=wf/\j.all Yh=wf/\k (inV (toV x) (j.map toV)))\/∃l u,M a=wc (.dic l)/\keyM x=wc u/\k (valM l u).isSome
 |_=>False
noncomputable def Uv:MV->Bool
 |.non=>wf|_=>wg
noncomputable def isBl(b:Bool):MV->Bool
 |.bl c=>decide (c=b)
 |_=>wg
def wCmp(l:CmpOp)(x y:MV)(M:MH)(Q:QM):Prop:=match l with
 |.Lt=>∃i j,x=.int i/\y=.int j/\Q (.bl (decide (i<j))) M
 |.LtE=>(∃i j,x=.int i/\y=.int j/\Q (.bl (decide (i<=j))) M)\/∃i j,x=.str i/\y=.str j/\Q (.bl (!decide (j.cps.toList<i.cps.toList))) M
 |.Gt=>∃i j,x=.int i/\y=.int j/\Q (.bl (decide (j<i))) M
 |.GtE=>∃i j,x=.int i/\y=.int j/\Q (.bl (decide (j<=i))) M
 |.Eq=>wEq x y M λb=>Q (.bl b) M
 |.NotEq=>wEq x y M λb=>Q (.bl (!b)) M
 |.In=>wIn x y M λb=>Q (.bl b) M
 |.NotIn=>wIn x y M λb=>Q (.bl (!b)) M
 |.Is=>(y=.non/\Q (.bl (Uv x)) M)\/∃b,y=.bl b/\Q (.bl (isBl b x)) M
 |.IsNot=>(y=.non/\Q (.bl (!Uv x)) M)\/∃b,y=.bl b/\Q (.bl (!isBl b x)) M
set_option tactic.hygienic true in
def Ie{k:Bool->Prop}(j:∀b,k b->k' b)(h:wEq x y M k):wEq x y M k':=by
 unfold wEq at h ⊢;split
 .rename_i b e;rw[e]at h;erw[j _ h]
 .rename_i e;rw[e]at h;erw[h.imp id λh=>?_];rcases h with⟨n,l,u,w⟩|⟨a,b,z,l,u,w,m,g⟩|h|h
  .erw[.inl ⟨n,l,u,j _ w⟩]
  .erw[.inr (.inl ⟨a,b,z,l,u,w,m,j _ g⟩)]
  .erw[h.elim]
  .erw[h.elim]
def Ig{k:Bool->Prop}(j:∀b,k b->k' b)(h:wIn x y M k):wIn x y M k':=by
 unfold wIn at h ⊢;split at h
 .erw[⟨h.1,h.2.1,j _ h.2.2⟩]
 .erw[⟨h.1,h.2.1,j _ h.2.2⟩]
 .rcases h with⟨m,l,u,w,g⟩|⟨z,d,l,u,w⟩
  .erw[.inl ⟨m,l,u,w,j _ g⟩]
  .erw[.inr ⟨z,d,l,u,j _ w⟩]
 .erw[h.elim]
def Wc(g:CmpOp):Mon2 (wCmp g):=by
 intro x y M Q m l h;cases g
 .erw[Ie (k:=λb=>Q (.bl b) M) (k':=λb=>m (.bl b) M) (λb h=>l _ _ h) h]
 .erw[Ie (k:=λb=>Q (.bl (!b)) M) (k':=λb=>m (.bl (!b)) M) (λb h=>l _ _ h) h]
 .have⟨i,j,u,w,z⟩:=h;erw[⟨i,j,u,w,l _ _ z⟩]
 .rcases h with⟨i,j,u,w,z⟩|⟨i,j,u,w,z⟩
  .erw[.inl ⟨i,j,u,w,l _ _ z⟩]
  .erw[.inr ⟨i,j,u,w,l _ _ z⟩]
 .have⟨i,j,u,w,z⟩:=h;erw[⟨i,j,u,w,l _ _ z⟩]
 .have⟨i,j,u,w,z⟩:=h;erw[⟨i,j,u,w,l _ _ z⟩]
 .rcases h with h|⟨b,e,h⟩
  .erw[.inl ⟨h.1,l _ _ h.2⟩]
  .erw[.inr ⟨b,e,l _ _ h⟩]
 .rcases h with h|⟨b,e,h⟩
  .erw[.inl ⟨h.1,l _ _ h.2⟩]
  .erw[.inr ⟨b,e,l _ _ h⟩]
 .erw[Ig (k:=λb=>Q (.bl b) M) (k':=λb=>m (.bl b) M) (λb h=>l _ _ h) h]
 .erw[Ig (k:=λb=>Q (.bl (!b)) M) (k':=λb=>m (.bl (!b)) M) (λb h=>l _ _ h) h]
section
variable{X:Cx}
set_option tactic.hygienic true in
def Ih{K:X4}(r:RM K H m v):decide (v=.bl b)=isBl b m:=by
 cases r<;>first|rfl|(rename_i c;cases b<;>cases c<;>rfl)
def Ii{K:X4}(r:RM K H m v):decide (v=.non)=Uv m:=by cases r<;>rfl
def _qk{k:Key}(r:KV kvs vs)(h:valV kvs k=wc v):∃u,Zb vs k=wc u/\RelV v u:=by
 have q:=r.val k;rw[h]at q;erw[RelO.some_of q]
theorem LstM.sq(j:RH X.K M H)(h:LstM M x xs)(r:RM X.K H x u):∃a vs,u=.ref a/\SqL X.K H a vs/\RMs X.K H xs vs:=by
 rcases h with rfl|⟨a,rfl,h⟩
 .have⟨_,_,rfl,l,w⟩:=r.inv;erw[⟨_,_,rfl,l.sq,w⟩]
 .obtain rfl:=r.inv;have⟨vs,e,q⟩:=j.lst h;erw[⟨a,vs,rfl,SqL.of e,q⟩]
def BP{j:List V}{l:List X0}(r:Vals j l){i:Nat}{u:X0}(h:l[i]?=wc u):∃x,j[i]?=wc x/\RelV x u:=by
 induction r generalizing i with
 |nil=>cases h
 |cons q _ w=>
  cases i with
  |zero=>cases h;erw[⟨_,rfl,q⟩]
  |succ i=>erw[w (i:=i) h]
def _os(r:KV kvs vs){k:Key}(h:(k,u)∈vs):∃x,(k,x)∈kvs/\RelV x u:=by
 induction r with
 |nil=>cases h
 | @cons p j _ _ q _ l=>
  have⟨w,y⟩:=p;have⟨d,c⟩:=j;rcases Xj.mp h with e|h
  .cases e;have z:w=k:=q.1;subst z;erw[⟨y,Y2,q.2⟩]
  .have⟨x,m,g⟩:=l h;erw[⟨x,XJ _ m,g⟩]
def _nh{K:X4}{H:Hp}{k:Key}{v:V}{m:List (Key×MV)}{j:List (Key×V)}(q:RKs K H m j)(h:(k,v)∈j):∃x,(k,x)∈m/\RM K H x v:=by
 induction q with
 |nil=>cases h
 |cons r t l=>
  rcases Xj.mp h with e|h
  .cases e;erw[⟨_,Y2,r⟩]
  .have⟨x,m,q⟩:=l h;erw[⟨x,XJ _ m,q⟩]
set_option tactic.hygienic true in
def Alike.inn{pq:List (Addr×Obj)}{s:X2}{σ:St}{H:Hp}{M:MH}(I:Inv X pq σ H s)(C:RH X.K M H){n:Nat}{A:Xz}(c:A.units<cLine)
  (G:∀{x y:MV} {u v:V} {l w:X0},Alike M n x y->RM X.K H x u->RM X.K H y v->RelV u l->RelV v w->AliP X.prog X.w A.in1 s l w)
  {x y:MV} {u v:V} {l w:X0} (h:Alike M (n+1) x y)(J:RM X.K H x u)(Q:RM X.K H y v)(S:RelV u l)(o:RelV v w):
  (Yh x=wf/\x=y)\/∃a b,l=.ref a/\w=.ref b/\RcP X.prog X.w A s (.ref a) (.ref b)/\RnP X.prog X.w A s (.ref a) (.ref b):=by
 rw[Alike]at h;rcases h with h|⟨xs,ys,rfl,rfl,e,h⟩|⟨xs,ys,D,E,e,h⟩|⟨a,b,ka,kb,rfl,rfl,D,E,e,h⟩
 .erw[.inl h]
 .have⟨_,_,rfl,g1,q⟩:=J.inv;cases Q with
  |tup g2 r=>
   rename_i a vs b us
   obtain rfl:l=XB a:=S;obtain rfl:w=XB b:=o;have⟨m,L,N,_⟩:=I.tuple (SqT.of g1);have⟨g,O,P,_⟩:=I.tuple (SqT.of g2);have z:m.toArray.size=g.toArray.size:=by rw[XN,XN,<-L.length,<-O.length,<-q.length,<-r.length];erw[e]
   have d:∀p∈m.toArray.toList.zip g.toArray.toList,AliP X.prog X.w A.in1 s p.1 p.2:=by
    intro p hp;have⟨i,hi⟩:=List.mem_iff_getElem?.mp hp;rw[List.getElem?_zip_eq_some]at hi;have⟨x1,R,T⟩:=BP L hi.1;have⟨x2,U,W⟩:=BP O hi.2;have⟨Y,f,d3⟩:=q.get' R;have⟨F,Z,d4⟩:=r.get' U;erw[G (h i Y F f Z) d3 d4 T W]
   erw[.inr ⟨_,_,rfl,rfl,TL N P z c d,TQ N P z c d⟩]
 .have⟨a,vs,rfl,g1,q⟩:=D.sq C J;have⟨b,us,rfl,g2,r⟩:=E.sq C Q;obtain rfl:l=XB a:=S;obtain rfl:w=XB b:=o;have⟨m,L,⟨o1,n1,N,P,_,t3⟩,_⟩:=I.list g1;have⟨g,O,⟨o2,n2,t4,t5,_,t6⟩,_⟩:=I.list g2;have z:m.toArray.size=g.toArray.size:=by rw[XN,XN,<-L.length,<-O.length,<-q.length,<-r.length];erw[e]
  have d:∀j (D:j<m.toArray.size)(E:j<g.toArray.size),AliP X.prog X.w A.in1 s m.toArray[j] g.toArray[j]:=by
   intro i l1 l2;have⟨x1,R,T⟩:=BP L (i:=i) (u:=m.toArray[i]) (by simp[X6 (show i<m.length by simpa using l1)])
   have⟨x2,U,W⟩:=BP O (i:=i) (u:=g.toArray[i]) (by simp[X6 (show i<g.length by simpa using l2)])
   have⟨Y,f,d3⟩:=q.get' R;have⟨F,Z,d4⟩:=r.get' U;erw[G (h i Y F f Z) d3 d4 T W]
  erw[.inr ⟨_,_,rfl,rfl,TN ⟨o1,N,P,n1,t3⟩ ⟨o2,t4,t5,n2,t6⟩ z c d,TU ⟨o1,N,P,n1,t3⟩ ⟨o2,t4,t5,n2,t6⟩ z c d⟩]
 .obtain rfl:=J.inv;obtain rfl:=Q.inv;obtain rfl:l=XB a:=S;obtain rfl:w=XB b:=o;have⟨va,ea,wa,_⟩:=C.dic D;have⟨vb,eb,wb,_⟩:=C.dic E;have⟨_,na,ua,pa,da⟩:=Dz I.hok ea;have⟨_,nb,ub,pb,db⟩:=Dz I.hok eb;have z:ua.length=ub.length:=by rw[<-Paired.length pa,<-wa.length,<-Paired.length pb,<-wb.length];erw[e]
  have d:∀p∈ua,∃y,Zb ub p.1=wc y/\AliP X.prog X.w A.in1 s p.2 y:=by
   rintro⟨k,u1⟩ hp;have⟨x1,R,T⟩:=_os pa hp;have⟨Y,U,W⟩:=_nh wa R;have⟨F,f,Z⟩:=h k Y U;rcases A6 (k:=k) wb with⟨B,z2⟩|⟨x',u2,B,z2,r3⟩
   .rw[f]at B;cases B
   .rw[f]at B;cases B;have⟨w',hw,rw'⟩:=_qk pb z2;erw[⟨w',hw,G Z W r3 T rw'⟩]
  erw[.inr ⟨_,_,rfl,rfl,TV na nb da db c z d,TW na nb da db c z d⟩]
def Ij{K:X4}(f:Yh x=wf)(j:RM K H x u)(l:RM K H x v)(y:RelV u u')(z:RelV v v'):AliP P w A s u' v':=by
 have⟨rfl,m⟩:=Uu f j;have⟨rfl,g⟩:=Uu f l;have h:=Hd (A:=A) (s:=s) y z m g;have e:eqV (toV x) (toV x)=wf:=by cases x<;>first|(cases f;done)|rfl|erw[beq_self_eq_true _]
 rw[e]at h;erw[.of_at h]
theorem Alike.ok(I:Inv X pq σ H s)(d:RH X.K M H):∀(n:Nat){A:Xz} {x y:MV} {u v:V} {m g:X0},A.units+n<cLine->Alike M n x y->RM X.K H x u->RM X.K H y v->RelV u m->RelV v g->AliP X.prog X.w A s m g
 |0,A,x,y,u,v,m,g,hu,h,j,l,w,z=>by
  rw[Alike]at h;have⟨f,rfl⟩:=h;erw[Ij f j l w z]
 |n+1,A,x,y,u,v,m,g,hu,h,j,l,w,z=>by
  rcases Alike.inn I d (A:=A) (by lia) (λh j l w z=>Alike.ok I d n (show A.units+1+n<cLine by lia) h j l w z) h j l w z with⟨f,rfl⟩|⟨a,b,rfl,rfl,h,_⟩
  .erw[Ij f j l w z]
  .erw[.refs h]
def Alike.top(I:Inv X pq σ H s)(m:RH X.K M H)(h:Alike M n x y)(q:X.A.units+n<cLine)(d:eqS x y=we)(j:RM X.K H x u)(l:RM X.K H y v)(w:RelV u u')(z:RelV v v'):
  RcP X.prog X.w X.A s u' v'/\RnP X.prog X.w X.A s u' v':=by
 have g:¬(Yh x=wf/\x=y):=by
  rintro⟨f,rfl⟩;cases x<;>first|(cases f;done)|(cases d;done)
 cases n with
 |zero=>rw[Alike]at h;erw[(g h).elim]
 |succ n=>
  rcases Alike.inn I m (A:=X.A) (by lia) (λh j l w z=>Alike.ok I m n (show X.A.units+1+n<cLine by lia) h j l w z) h j l w z with f|⟨a,b,rfl,rfl,h,c⟩
  .erw[(g f).elim]
  .erw[⟨h,c⟩]
set_option tactic.hygienic true in
def Wd(hu:X.A.units+70<cLine)(G:CmpOp):OpR X (Y6 G) (li2 X.K (wCmp G)):=by
 intro q s r H x y v u Q I w z h;have⟨E,F,M,m,g,L,h⟩:=h;have l:∀b,Dn X.K H Q (.bl b) M->Q (.bl b) H:=λb h=>h _ _ (Kp.refl _) (.bl b) L;have A:X.A.units+1<cLine:=by lia
 have hu64:X.A.units+64<cLine:=by lia
 have huI:X.A.in1.units+64<cLine:=by show X.A.units+1+64<cLine;lia
 have B:X.A.units<cLine:=by lia
 cases G with
 |Lt=>have⟨i,j,rfl,rfl,h⟩:=h;obtain rfl:=m.inv;obtain rfl:=g.inv;erw[RZ q s r H _ _ v u Q I w z ⟨_,_,rfl,rfl,l _ h⟩]
 |LtE=>
  rcases h with⟨i,j,rfl,rfl,h⟩|⟨i,j,rfl,rfl,h⟩
  .obtain rfl:=m.inv;obtain rfl:=g.inv;erw[S0 q s r H _ _ v u Q I w z ⟨_,_,rfl,rfl,l _ h⟩]
  .obtain rfl:=m.inv;obtain rfl:=g.inv;have⟨t1,rfl⟩:=w;have⟨t2,rfl⟩:=z;erw[PySem.P.le_str ⟨.bl _,H,I,rfl,l _ h⟩]
 |Gt=>have⟨i,j,rfl,rfl,h⟩:=h;obtain rfl:=m.inv;obtain rfl:=g.inv;erw[S1 q s r H _ _ v u Q I w z ⟨_,_,rfl,rfl,l _ h⟩]
 |GtE=>have⟨i,j,rfl,rfl,h⟩:=h;obtain rfl:=m.inv;obtain rfl:=g.inv;erw[S3 q s r H _ _ v u Q I w z ⟨_,_,rfl,rfl,l _ h⟩]
 |Is=>
  rcases h with⟨rfl,h⟩|⟨b,rfl,h⟩
  .obtain rfl:=g.inv;erw[S4 q s r H _ _ v u Q I w z ⟨rfl,by rw[Ii m];erw[l _ h]⟩]
  .obtain rfl:=g.inv;erw[_ly q s r H _ _ v u Q I w z ⟨b,rfl,by rw[Ih m];erw[l _ h]⟩]
 |IsNot=>
  rcases h with⟨rfl,h⟩|⟨b,rfl,h⟩
  .obtain rfl:=g.inv;erw[S5 q s r H _ _ v u Q I w z ⟨rfl,by rw[Ii m];erw[l _ h]⟩]
  .obtain rfl:=g.inv;erw[_j2 q s r H _ _ v u Q I w z ⟨b,rfl,by rw[Ih m];erw[l _ h]⟩]
 |Eq=>
  have h:wEq E F M λb=>Dn X.K H Q (.bl b) M:=h;unfold wEq at h;split at h
  .rename_i b e
   have⟨d,c⟩:=HZ e m g;erw[RX q s r H _ _ v u Q I w z ⟨d,by rw[c];erw[l _ h]⟩]
  .rcases h with h|h
   .erw[h.elim]
   rcases h with⟨n,p,U,W⟩|⟨a,b,C,rfl,rfl,W,J,S⟩|h|h
   .erw[(U.top I L (by lia) (by assumption) m g w z).1 _ _ ⟨.bl wf,H,I,rfl,l _ W⟩]
   .obtain rfl:=m.inv;obtain rfl:=g.inv;have⟨T,d,f⟩:=L.lst W;have⟨us,c,o⟩:=L.lst J;obtain rfl:=o.inv;erw[TJ B q s r H _ _ v u Q I w z ⟨_,_,T,rfl,rfl,SqL.of d,SqL.of c,?_⟩];have:T.isEmpty=C.isEmpty:=by cases f<;>rfl
    rw[this];erw[l _ S]
   .erw[h.elim]
   .erw[h.elim]
 |NotEq=>
  have h:wEq E F M λb=>Dn X.K H Q (.bl (!b)) M:=h;unfold wEq at h;split at h
  .rename_i b e
   have⟨d,c⟩:=HZ e m g;erw[RY q s r H _ _ v u Q I w z ⟨d,by rw[c];erw[l _ h]⟩]
  .rcases h with h|h
   .erw[h.elim]
   rcases h with⟨n,p,U,W⟩|⟨a,b,C,rfl,rfl,W,J,S⟩|h|h
   .erw[(U.top I L (by lia) (by assumption) m g w z).2 _ _ ⟨.bl wg,H,I,rfl,l _ W⟩]
   .obtain rfl:=m.inv;obtain rfl:=g.inv;have⟨T,d,f⟩:=L.lst W;have⟨us,c,o⟩:=L.lst J;obtain rfl:=o.inv;erw[TK B q s r H _ _ v u Q I w z ⟨_,_,T,rfl,rfl,SqL.of d,SqL.of c,?_⟩];have:T.isEmpty=C.isEmpty:=by cases f<;>rfl
    rw[this];erw[l _ S]
   .erw[h.elim]
   .erw[h.elim]
 |In=>
  have h:wIn E F M λb=>Dn X.K H Q (.bl b) M:=h;unfold wIn at h;split at h
  .have⟨_,_,rfl,p,f⟩:=g.inv;have⟨N,O,h⟩:=h;have⟨d,P⟩:=Uu N m;have⟨c,R⟩:=Wb O f;erw[Dv q s r H _ _ v u Q I w z ⟨_,_,rfl,.inr (SqT.of p),P,R,by rw[d,c];erw[l _ h]⟩]
  .have⟨_,_,rfl,p,f⟩:=g.inv;have⟨N,O,h⟩:=h;have⟨d,P⟩:=Uu N m;have⟨c,R⟩:=Wb O f;erw[Dv q s r H _ _ v u Q I w z ⟨_,_,rfl,.inl p.sq,P,R,by rw[d,c];erw[l _ h]⟩]
  .obtain rfl:=g.inv;rcases h with⟨C,p,N,O,h⟩|⟨kvs,D,p,U,h⟩
   .have⟨T,e,f⟩:=L.lst p;have⟨d,P⟩:=Uu N m;have⟨c,R⟩:=Wb O f;erw[Dv q s r H _ _ v u Q I w z ⟨_,_,rfl,.inl (SqL.of e),P,R,by rw[d,c];erw[l _ h]⟩]
   .have⟨T,e,f,_⟩:=L.dic p;have:=A5 U m;subst this;obtain rfl:u=XB _:=z;erw[d_in A I (DGet.k (k:=D) e) w λs3 I3=>⟨.bl _,H,I3,rfl,?_⟩];rcases A6 (k:=D) f with⟨Y,Z⟩|⟨x',u',Y,Z,_⟩
    .rw[Z];rw[Y]at h;erw[l _ h]
    .rw[Z];rw[Y]at h;erw[l _ h]
  .erw[h.elim]
 |NotIn=>
  have h:wIn E F M λb=>Dn X.K H Q (.bl (!b)) M:=h;unfold wIn at h;split at h
  .have⟨_,_,rfl,p,f⟩:=g.inv;have⟨N,O,h⟩:=h;have⟨d,P⟩:=Uu N m;have⟨c,R⟩:=Wb O f;erw[Dw q s r H _ _ v u Q I w z ⟨_,_,rfl,.inr (SqT.of p),P,R,by rw[d,c];erw[l _ h]⟩]
  .have⟨_,_,rfl,p,f⟩:=g.inv;have⟨N,O,h⟩:=h;have⟨d,P⟩:=Uu N m;have⟨c,R⟩:=Wb O f;erw[Dw q s r H _ _ v u Q I w z ⟨_,_,rfl,.inl p.sq,P,R,by rw[d,c];erw[l _ h]⟩]
  .obtain rfl:=g.inv;rcases h with⟨C,p,N,O,h⟩|⟨kvs,D,p,U,h⟩
   .have⟨T,e,f⟩:=L.lst p;have⟨d,P⟩:=Uu N m;have⟨c,R⟩:=Wb O f;erw[Dw q s r H _ _ v u Q I w z ⟨_,_,rfl,.inl (SqL.of e),P,R,by rw[d,c];erw[l _ h]⟩]
   .have⟨T,e,f,_⟩:=L.dic p;have:=A5 U m;subst this;obtain rfl:u=XB _:=z;erw[Ti A I (DGet.k (k:=D) e) w λs3 I3=>⟨.bl _,H,I3,rfl,?_⟩];rcases A6 (k:=D) f with⟨Y,Z⟩|⟨x',u',Y,Z,_⟩
    .rw[Z];rw[Y]at h;erw[l _ h]
    .rw[Z];rw[Y]at h;erw[l _ h]
  .erw[h.elim]
end
def wIx(x y:MV)(M:MH)(Q:QM):Prop:=match x with
 |.tup l=>∃i v,y=.int i/\atI l i=wc v/\Q v M
 |.frl l=>∃i v,y=.int i/\atI l i=wc v/\Q v M
 |.str z=>∃i c,y=.int i/\z.length<=sizeLine/\atI z.cps.toList i=wc c/\Q (.str ⟨#[c]⟩) M
 |.ref a=>(∃l i v,M a=wc (.lst l)/\y=.int i/\atI l i=wc v/\Q v M)\/(∃j u v,M a=wc (.dic j)/\keyM y=wc u/\valM j u=wc v/\Q v M)\/∃o j u v,M a=wc (.fdic o j)/\keyM y=wc u/\valM j u=wc v/\Q v M
 |_=>False
def Il:Mon2 wIx:=by
 intro x y M Q c m h;unfold wIx at h ⊢;split at h
 .have⟨i,v,j,l,u⟩:=h;erw[⟨i,v,j,l,m _ _ u⟩]
 .have⟨i,v,j,l,u⟩:=h;erw[⟨i,v,j,l,m _ _ u⟩]
 .have⟨i,v,j,l,u,w⟩:=h;erw[⟨i,v,j,l,u,m _ _ w⟩]
 .rcases h with⟨d,i,v,j,l,u,w⟩|⟨z,g,v,j,l,u,w⟩|⟨o,z,g,v,j,l,u,w⟩
  .erw[.inl ⟨d,i,v,j,l,u,m _ _ w⟩]
  .erw[.inr (.inl ⟨z,g,v,j,l,u,m _ _ w⟩)]
  .erw[.inr (.inr ⟨o,z,g,v,j,l,u,m _ _ w⟩)]
 .erw[h.elim]
theorem RMs.atI{K:X4}(r:RMs K H m v)(e:atI m i=wc x):∃u,atI v i=wc u/\RM K H x u:=by
 unfold L2.atI at e ⊢;rw[<-r.length];cases q:ixN m.length i with
 |none=>rw[q]at e;cases e
 |some j=>rw[q]at e;erw[r.get e]
section
variable{X:Cx}
def Im(z:X.A.units+1<cLine):IxR X (λx y H Q=>∃a v,x=.ref a/\DGet H a y (wc v)/\Q v H):=by
 intro j l p s e H x y v u Q I m d h c;have⟨a,f,rfl,g,q⟩:=h;obtain rfl:v=XB a:=m;erw[tail_any (Tl I g) PySem.F.slot_dict_getitem.lookup (Th z I g d λL N r w=>⟨f,H,r,w,q⟩) c]
def _oB(F:X.A.units+1<cLine):IxR X (li2 X.K wIx):=by
 intro j l O s P H x y v u Q I R T h U;have⟨S,n,M,Z,W,z,h⟩:=h;unfold wIx at h;split at h
 .have⟨i,A,rfl,m,w⟩:=h;obtain rfl:=W.inv;have⟨_,_,rfl,d,f⟩:=Z.inv;have⟨q,e,r⟩:=f.atI m;erw[T1 j l O s P H _ _ v u Q I R T ⟨_,_,_,q,rfl,rfl,SqT.of d,e,w _ _ (Kp.refl _) r z⟩ U]
 .have⟨i,A,rfl,m,w⟩:=h;obtain rfl:=W.inv;have⟨_,_,rfl,d,f⟩:=Z.inv;have⟨q,e,r⟩:=f.atI m;erw[Hb j l O s P H _ _ v u Q I R T ⟨_,_,_,q,rfl,rfl,d.sq,e,w _ _ (Kp.refl _) r z⟩ U]
 .have⟨i,c,rfl,m,w,p⟩:=h;obtain rfl:=Z.inv;obtain rfl:=W.inv;erw[T2 j l O s P H _ _ v u Q I R T ⟨_,_,c,rfl,rfl,m,w,p _ _ (Kp.refl _) (.str _) z⟩ U]
 .obtain rfl:=Z.inv;rcases h with⟨b,i,A,d,rfl,w,p⟩|⟨C,L,A,d,m,w,p⟩|⟨o,C,L,A,d,m,w,p⟩
  .obtain rfl:=W.inv;have⟨B,e,f⟩:=z.lst d;have⟨q,G,r⟩:=f.atI w;erw[Hb j l O s P H _ _ v u Q I R T ⟨_,_,_,q,rfl,rfl,SqL.of e,G,p _ _ (Kp.refl _) r z⟩ U]
  .have⟨B,e,f,_⟩:=z.dic d;have D:=A5 m W;rcases A6 (k:=L) f with⟨N,Y⟩|⟨J,q,N,Y,E⟩
   .rw[N]at w;cases w
   .rw[N]at w;cases w;have g:=DGet.k (k:=L) e;rw[Y]at g;subst D;erw[Im F j l O s P H _ _ v u Q I R T ⟨_,q,rfl,g,p _ _ (Kp.refl _) E z⟩ U]
  .have⟨B,e,f,_⟩:=z.fdic d;have D:=A5 m W;rcases A6 (k:=L) f with⟨N,Y⟩|⟨J,q,N,Y,E⟩
   .rw[N]at w;cases w
   .rw[N]at w;cases w;have g:DGet H _ (kV L) (valV B L):=.inl ⟨B,L,.inr ⟨o,e⟩,rfl,rfl⟩;rw[Y]at g;subst D;erw[Im F j l O s P H _ _ v u Q I R T ⟨_,q,rfl,g,p _ _ (Kp.refl _) E z⟩ U]
 .erw[h.elim]
end
noncomputable def cutM(j:List MV)(lo l:Option Int):List MV:=(j.drop (HT.sIx j.length 0 lo)).take (HT.sIx j.length j.length l - HT.sIx j.length 0 lo)
def RMs.cut{K:X4}(r:RMs K H m v)(lo j:Option Int):RMs K H (cutM m lo j) (cutV v lo j):=by
 unfold cutM cutV;rw[<-r.length];erw[(r.drop _).take _]
abbrev WS:=MV->Option Int->Option Int->MH->QM->Prop
def wSl:WS:=λx lo l M Q=>match x with
 |.tup j=>Q (.tup (cutM j lo l)) M
 |.frl j=>∀p,M p=we->Q (.ref p) (updM M p (.lst (cutM j lo l)))
 |.ref a=>∃j,M a=wc (.lst j)/\∀p,M p=we->Q (.ref p) (updM M p (.lst (cutM j lo l)))
 |_=>False
def Io{x:MV}{lo u:Option Int}{M:MH}{Q w:QM}(j:∀m y,Q m y->w m y)(h:wSl x lo u M Q):wSl x lo u M w:=by
 unfold wSl at h ⊢;split at h
 .erw[j _ _ h]
 .erw[λp l=>j _ _ (h p l)]
 .have⟨z,g,d⟩:=h;erw[⟨z,g,λp l=>j _ _ (d p l)⟩]
 .erw[h.elim]
def liS(K:X4)(w:WS):V->Option Int->Option Int->Hp->VK->Prop:=λx lo l H Q=>∃j M,RM K H j x/\RH K M H/\w j lo l M (Dn K H Q)
section
variable{X:Cx}
set_option tactic.hygienic true in
def _n7:SlR X (liS X.K wSl):=by
 intro g s d H x v c f lo j q Q I r L N O h;have⟨R,M,P,w,h⟩:=h;unfold wSl at h;split at h
 .rename_i z
  have⟨_,_,rfl,y,l⟩:=P.inv
  rename_i m
  by_cases hw:HT.sIx z.length 0 lo=0/\HT.sIx z.length z.length j=z.length
  .have e:cutM z lo j=z:=by unfold cutM;rw[hw.1,hw.2,List.drop_zero,Nat.sub_zero,WC]
   rw[e]at h;erw[_kQ g s d H _ v c f lo j q Q I r L N O ⟨_,_,rfl,SqT.of y,by rw[<-l.length];erw[hw.1],by rw[<-l.length];erw[hw.2],?_⟩]
   erw[h _ _ (Kp.refl _) (.tup y l) w]
  erw[SX g s d H _ v c f lo j q Q I r L N O ⟨_,_,rfl,SqT.of y,by rw[<-l.length];erw[hw],λp u=>?_⟩]
  have k:=Kp.new u (.tup (cutV m lo j));erw[h _ _ k (.tup _M ((l.cut lo j).mono k)) (w.kept u _)]
 .have⟨_,_,rfl,y,l⟩:=P.inv
  rename_i m
  erw[Hc g s d H _ v c f lo j q Q I r L N O ⟨_,_,rfl,y.sq,λp u=>?_⟩];have k:=Kp.new u (.lst (cutV m lo j));erw[h p (w.free u) _ _ k (.ref p) (w.put k ((l.cut lo j).mono k))]
 .obtain rfl:=P.inv;have⟨T,y,h⟩:=h;have⟨m,e,l⟩:=w.lst y;erw[Hc g s d H _ v c f lo j q Q I r L N O ⟨_,_,rfl,SqL.of e,λp u=>?_⟩];have k:=Kp.new u (.lst (cutV m lo j));erw[h p (w.free u) _ _ k (.ref p) (w.put k ((l.cut lo j).mono k))]
 .erw[h.elim]
end
noncomputable def tyO:Option MO->Option Ty7
 |wc (.lst _)=>wc .list
 |wc (.dic _)=>wc .dict
 |_=>we
def tyM(M:MH):MV->Option Ty7
 |.non=>wc .none|.bl _=>wc .bool|.int _=>wc .int|.str _=>wc .str|.tup _=>wc .tuple
 |.ref a=>tyO (M a)
 |_=>we
noncomputable def isTy:Ty7->Ty7->Bool
 |.bool,.int=>wf
 |a,b=>decide (a=b)
def DG(K:X4)(T c:Ty7)(j:c≠.none):Vg K (.type T.name) (.type c.name)=wc (isTy T c):=by
 cases T<;>cases c<;>first|erw[absurd rfl j]|with_unfolding_all rfl
def Ip{K:X4}(j:RH K M H)(r:RM K H m v)(e:tyM M m=wc T):TyOf K H v (.type T.name):=by
 cases r with
 |non=>cases e;erw[.non]
 |bl b=>cases e;erw[.bl b]
 |int i=>cases e;erw[.int i]
 |str x=>cases e;erw[.str x]
 |tup h _=>cases e;erw[.tup h]
 |frl _ _=>cases e
 |ty _=>cases e
 |ref a=>
  have e:tyO (M a)=wc T:=e;cases q:M a with
  |none=>rw[q]at e;cases e
  |some o=>
   rw[q]at e;cases o with
   |lst w=>cases e;have⟨l,h,_⟩:=j.lst q;erw[.lst h]
   |dic u=>cases e;have⟨l,h,_⟩:=j.dic q;erw[.dK h]
   |ins _ _=>cases e
   |fdic _ _=>cases e
inductive BI where|len|isinst|max|min|sum|abs|int|list|tuple|dict|sorted|dictL|all
  deriving DecidableEq
noncomputable def bLen(u:List MV)(M:MH)(Q:QM):Prop:=match u with
 |[.tup j]=>Q (.int j.length) M
 |[.frl j]=>Q (.int j.length) M
 |[.str z]=>z.length<=sizeLine/\Q (.int z.length) M
 |[.ref a]=>(∃j,M a=wc (.lst j)/\Q (.int j.length) M)\/∃l,M a=wc (.dic l)/\Q (.int l.length) M
 |_=>False
def bIsi(j:List MV)(M:MH)(Q:QM):Prop:=match j with
 |[x,.ty c]=>∃T,tyM M x=wc T/\c≠.none/\Q (.bl (isTy T c)) M
 |[x,.tup [.ty c,.ty d]]=>∃T,tyM M x=wc T/\c≠.none/\d≠.none/\Q (.bl (isTy T c||isTy T d)) M
 |_=>False
noncomputable def bMax(l:List MV)(M:MH)(Q:QM):Prop:=match l with
 |[.int i,.int j]=>Q (.int (if j>i then j else i)) M
 |_=>False
noncomputable def bMin(l:List MV)(M:MH)(Q:QM):Prop:=match l with
 |[.int i,.int j]=>Q (.int (if j<i then j else i)) M
 |_=>False
noncomputable def bSum(l:List MV)(M:MH)(Q:QM):Prop:=match l with
 |[.ref a]=>∃j:List Int,M a=wc (.lst (j.map MV.int))/\Q (.int j.sum) M
 |_=>False
def bSrt(u:List MV)(M:MH)(Q:QM):Prop:=match u with
 |[.ref a]=>∃l:List Int,M a=wc (.lst (l.map MV.int))/\(l.length<64\/(l.Pairwise (·<=·)/\l.length<128))/\∀p (j:List Int),M p=we->j.Perm l->j.Pairwise (·<=·)->Q (.ref p) (updM M p (.lst (j.map MV.int)))
 |_=>False
noncomputable def bAbs(j:List MV)(M:MH)(Q:QM):Prop:=match j with
 |[.int i]=>Q (.int (if i<0 then -i else i)) M
 |_=>False
noncomputable def bInt(j:List MV)(M:MH)(Q:QM):Prop:=match j with
 |[.bl k]=>Q (.int (if k then 1 else 0)) M
 |_=>False
def bLst(l:List MV)(M:MH)(Q:QM):Prop:=match l with
 |[.tup j]=>∀p,M p=we->Q (.ref p) (updM M p (.lst j))
 |[.ref a]=>∃j,M a=wc (.lst j)/\∀p,M p=we->Q (.ref p) (updM M p (.lst j))
 |_=>False
noncomputable def bTup(l:List MV)(M:MH)(Q:QM):Prop:=match l with
 |[.ref a]=>∃j,M a=wc (.lst j)/\Q (.tup j) M
 |_=>False
noncomputable def prM(p:Key×MV):MV:=.tup [match p.1 with|.inl i=>.int i|.inr x=>.str x,p.2]
def U2(j:List (Key×MV)):List (Key×MV):=j.foldl (λc z=>putM c z.1 z.2) []
def bDic(u:List MV)(M:MH)(Q:QM):Prop:=match u with
 |[.ref a]=>∃j,M a=wc (.dic j)/\∀p,M p=we->Q (.ref p) (updM M p (.dic j))
 |[.tup xs]=>∃l:List (Key×MV),xs=l.map prM/\∀p,M p=we->Q (.ref p) (updM M p (.dic (U2 l)))
 |_=>False
def bDcl(l:List MV)(M:MH)(Q:QM):Prop:=match l with
 |[.ref a]=>∃j:List (Key×MV),M a=wc (.lst (j.map prM))/\∀p,M p=we->Q (.ref p) (updM M p (.dic (U2 j)))
 |_=>False
set_option tactic.hygienic true in
def Iq{K:X4}:∀{w:List (Key×MV)} {l:List V},RMs K H (w.map prM) l->∃j:List (Key×V),HR H j l/\RKs K H w j:=by
 intro w
 induction w with
 |nil=>intro l h;cases h;erw[⟨[],.nil,.nil⟩]
 |cons p r y=>
  have⟨k,x⟩:=p;intro l h;have h:RMs K H (prM (k,x)::r.map prM) l:=h;cases h with
  |cons a u=>
   have⟨j,z,m⟩:=y u;have⟨_,_,rfl,e,t⟩:=a.inv;cases t with
   |cons g d=>
    cases d with
    |cons c f=>
     cases f
     rename_i L q
     erw[⟨(k,q)::j,.cons ⟨_,rfl,?_⟩ z,.cons c m⟩];rw[e];cases k<;>cases g<;>rfl
def Ir{K:X4}{H:Hp}:∀{l:List (Key×MV)} {j:List (Key×V)} {c:List (Key×MV)} {u:List (Key×V)},RKs K H l j->RKs K H c u->(c.map (·.1)).Nodup->
  RKs K H (l.foldl (λc z=>putM c z.1 z.2) c) (j.foldl (λc z=>putK c z.1 z.2) u)/\((l.foldl (λc z=>putM c z.1 z.2) c).map (·.1)).Nodup
 :=by
 intro l j c u q
 induction q generalizing c u with
 |nil=>erw[λh w=>⟨h,w⟩]
 |cons r _ y=>
  intro h w;have⟨a,b⟩:=Ic r w h;erw[y a b]
noncomputable def bAll(j:List MV)(M:MH)(Q:QM):Prop:=match j with
 |[.ref a]=>∃bs:List Bool,M a=wc (.lst (bs.map MV.bl))/\Q (.bl (bs.all id)) M
 |_=>False
def RMs.bls_of{K:X4}{H:Hp}{bs:List Bool}{j:List V}(h:RMs K H (bs.map MV.bl) j):j=bs.map V.bl:=h.map_of λ_ _ x=>by cases x;rfl
def wBi(f:BI)(j:List MV)(M:MH)(Q:QM):Prop:=match f with
 |.len=>bLen j M Q
 |.isinst=>bIsi j M Q
 |.max=>bMax j M Q
 |.min=>bMin j M Q
 |.sum=>False
 |.abs=>False
 |.int=>bInt j M Q
 |.list=>bLst j M Q
 |.tuple=>bTup j M Q
 |.dict=>bDic j M Q
 |.sorted=>False
 |.dictL=>bDcl j M Q
 |.all=>bAll j M Q
def _lT:MonW bLen:=by
 intro y M Q z j h;unfold bLen at h ⊢;split at h
 .erw[j _ _ h]
 .erw[j _ _ h]
 .erw[⟨h.1,j _ _ h.2⟩]
 .rcases h with⟨l,u,w⟩|⟨l,u,w⟩
  .erw[.inl ⟨l,u,j _ _ w⟩]
  .erw[.inr ⟨l,u,j _ _ w⟩]
 .erw[h.elim]
def Iu(f:BI):MonW (wBi f):=by
 intro j M Q y w h;cases f
 .erw[_lT w h]
 .have h:bIsi j M Q:=h;show bIsi j M y;unfold bIsi at h ⊢;split at h
  .have⟨T,l,u,g⟩:=h;erw[⟨T,l,u,w _ _ g⟩]
  .have⟨T,l,u,g,d⟩:=h;erw[⟨T,l,u,g,w _ _ d⟩]
  .erw[h.elim]
 .have h:bMax j M Q:=h;show bMax j M y;unfold bMax at h ⊢;split at h
  .erw[w _ _ h]
  .erw[h.elim]
 .have h:bMin j M Q:=h;show bMin j M y;unfold bMin at h ⊢;split at h
  .erw[w _ _ h]
  .erw[h.elim]
 .erw[Y7 h]
 .erw[Y7 h]
 .have h:bInt j M Q:=h;show bInt j M y;unfold bInt at h ⊢;split at h
  .erw[w _ _ h]
  .erw[h.elim]
 .have h:bLst j M Q:=h;show bLst j M y;unfold bLst at h ⊢;split at h
  .erw[λp z=>w _ _ (h p z)]
  .have⟨m,l,u⟩:=h;erw[⟨m,l,λp z=>w _ _ (u p z)⟩]
  .erw[h.elim]
 .have h:bTup j M Q:=h;show bTup j M y;unfold bTup at h ⊢;split at h
  .have⟨m,l,u⟩:=h;erw[⟨m,l,w _ _ u⟩]
  .erw[h.elim]
 .have h:bDic j M Q:=h;show bDic j M y;unfold bDic at h ⊢;split at h
  .have⟨m,l,u⟩:=h;erw[⟨m,l,λp z=>w _ _ (u p z)⟩]
  .have⟨m,l,u⟩:=h;erw[⟨m,l,λp z=>w _ _ (u p z)⟩]
  .erw[h.elim]
 .erw[Y7 h]
 .have h:bDcl j M Q:=h;show bDcl j M y;unfold bDcl at h ⊢;split at h
  .have⟨c,l,u⟩:=h;erw[⟨c,l,λp z=>w _ _ (u p z)⟩]
  .erw[h.elim]
 .have h:bAll j M Q:=h;show bAll j M y;unfold bAll at h ⊢;split at h
  .have⟨bs,l,u⟩:=h;erw[⟨bs,l,w _ _ u⟩]
  .erw[h.elim]
noncomputable def BI.val:BI->X0
 |.len=>.builtin "len"|.isinst=>.builtin "isinstance"|.max=>.builtin "max"|.min=>.builtin "min"|.sum=>.builtin "sum"|.abs=>.builtin "abs"
 |.int=>.type "int"|.list=>.type "list"|.tuple=>.type "tuple"|.dict=>.type "dict"|.sorted=>.builtin "sorted"|.dictL=>.type "dict"|.all=>.builtin "all"
section
variable{X:Cx}
def RMs.one{K:X4}(r:RMs K H [m] vs):∃v,vs=[v]/\RM K H m v:=by
 have⟨_,_,rfl,a,b⟩:=r.inv;cases b;erw[⟨_,rfl,a⟩]
def RMs.two{K:X4}(r:RMs K H [m,n] vs):∃v w,vs=[v,w]/\RM K H m v/\RM K H n w:=by
 have⟨_,_,rfl,a,b⟩:=r.inv;have⟨w,rfl,c⟩:=b.one;erw[⟨_,_,rfl,a,c⟩]
def _d7:YM X (.type "dict") (fun l H Q=>∃a j,l=[.ref a]/\H a=wc (.dK j)/\∀p,H p=we->Q (.ref p) (upd H p (.dK j))):=by
 intro g s d H l c Q I r h;have⟨a,j,rfl,w,q⟩:=h;have⟨u,rfl,y⟩:=_N r;cases y;erw[Tp I (.inl w) λp f z m=>⟨.ref p,_,m,rfl,q p z⟩]
def _my(P:X.calm=wf)(f:BI):YM X f.val (liW X.K (wBi f)):=by
 intro y s m H R g Q I r h;have⟨L,M,c,j,h⟩:=h;cases f with
 |len=>
  have h:bLen L M (Dn X.K H Q):=h;unfold bLen at h;split at h
  .have⟨v,rfl,a⟩:=c.one;have⟨_,_,rfl,l,u⟩:=a.inv;erw[Dx y s m H _ g Q I r ⟨_,_,rfl,.inr (SqT.of l),by rw[<-u.length];erw[h _ _ (Kp.refl _) (.int _) j]⟩]
  .have⟨v,rfl,a⟩:=c.one;have⟨_,_,rfl,l,u⟩:=a.inv;erw[Dx y s m H _ g Q I r ⟨_,_,rfl,.inl l.sq,by rw[<-u.length];erw[h _ _ (Kp.refl _) (.int _) j]⟩]
  .have⟨v,rfl,a⟩:=c.one;obtain rfl:=a.inv;erw[T8 y s m H _ g Q I r ⟨_,rfl,h.1,h.2 _ _ (Kp.refl _) (.int _) j⟩]
  .have⟨v,rfl,a⟩:=c.one;obtain rfl:=a.inv;rcases h with⟨R,l,h⟩|⟨U,l,h⟩
   .have⟨N,e,u⟩:=j.lst l;erw[Dx y s m H _ g Q I r ⟨_,_,rfl,.inl (SqL.of e),by rw[<-u.length];erw[h _ _ (Kp.refl _) (.int _) j]⟩]
   .have⟨N,e,u,_⟩:=j.dic l;erw[Tu y s m H _ g Q I r ⟨_,_,rfl,e,by rw[<-u.length];erw[h _ _ (Kp.refl _) (.int _) j]⟩]
  .erw[h.elim]
 |isinst=>
  have h:bIsi L M (Dn X.K H Q):=h;unfold bIsi at h;split at h
  .have⟨v,w,rfl,a,b⟩:=c.two;obtain rfl:=b.inv;have⟨T,l,O,W⟩:=h;erw[Tx y s m H _ g Q I r ⟨_,_,_,_,rfl,Ip j a l,DG _ _ _ O,W _ _ (Kp.refl _) (.bl _) j⟩]
  .have⟨v,w,rfl,a,b⟩:=c.two;have⟨T,l,O,W,B⟩:=h;have⟨_,_,rfl,C,D⟩:=b.inv;cases D with
   |cons u E=>
    cases E with
    |cons F G=>
     cases G;cases u;cases F;erw[_d6 y s m H _ g Q I r ⟨_,_,_,_,_,_,_,rfl,C,Ip j a l,DG _ _ _ O,DG _ _ _ W,B _ _ (Kp.refl _) (.bl _) j⟩]
  .erw[h.elim]
 |max=>
  have h:bMax L M (Dn X.K H Q):=h;unfold bMax at h;split at h
  .have⟨v,w,rfl,a,b⟩:=c.two;obtain rfl:=a.inv;obtain rfl:=b.inv;erw[Sb P y s m H _ g Q I r ⟨_,_,rfl,h _ _ (Kp.refl _) (.int _) j⟩]
  .erw[h.elim]
 |min=>
  have h:bMin L M (Dn X.K H Q):=h;unfold bMin at h;split at h
  .have⟨v,w,rfl,a,b⟩:=c.two;obtain rfl:=a.inv;obtain rfl:=b.inv;erw[Sc P y s m H _ g Q I r ⟨_,_,rfl,h _ _ (Kp.refl _) (.int _) j⟩]
  .erw[h.elim]
 |sum=>erw[Y7 h]
 |abs=>erw[Y7 h]
 |int=>
  have h:bInt L M (Dn X.K H Q):=h;unfold bInt at h;split at h
  .have⟨v,rfl,a⟩:=c.one;obtain rfl:=a.inv;erw[Sd y s m H _ g Q I r (.inr ⟨_,rfl,h _ _ (Kp.refl _) (.int _) j⟩)]
  .erw[h.elim]
 |list=>
  have h:bLst L M (Dn X.K H Q):=h;unfold bLst at h;split at h
  .have⟨v,rfl,a⟩:=c.one;have⟨_,_,rfl,l,u⟩:=a.inv;erw[Hf y s m H _ g Q I r ⟨_,_,rfl,.inr (SqT.of l),λp d=>?_⟩];have k:=λz=>Kp.new d (.lst z);erw[h p (j.free d) _ _ (k _) (.ref p) (j.put (k _) (u.mono (k _)))]
  .have⟨v,rfl,a⟩:=c.one;obtain rfl:=a.inv;have⟨R,l,h⟩:=h;have⟨N,e,u⟩:=j.lst l;erw[Hf y s m H _ g Q I r ⟨_,_,rfl,.inl (SqL.of e),λp d=>?_⟩];have k:=Kp.new d (.lst N);erw[h p (j.free d) _ _ k (.ref p) (j.put k (u.mono k))]
  .erw[h.elim]
 |tuple=>
  have h:bTup L M (Dn X.K H Q):=h;unfold bTup at h;split at h
  .have⟨v,rfl,a⟩:=c.one;obtain rfl:=a.inv;have⟨R,l,h⟩:=h;have⟨N,e,u⟩:=j.lst l;erw[T9 y s m H _ g Q I r ⟨_,_,rfl,.inl ⟨SqL.of e,λp d=>?_⟩⟩];have k:=Kp.new d (.tup N);erw[h _ _ k (.tup _M (u.mono k)) (j.kept d _)]
  .erw[h.elim]
 |dict=>
  have h:bDic L M (Dn X.K H Q):=h;unfold bDic at h;split at h
  .have⟨v,rfl,a⟩:=c.one;obtain rfl:=a.inv;have⟨U,l,h⟩:=h;have⟨N,e,u,J⟩:=j.dic l;erw[_d7 y s m H _ g Q I r ⟨_,_,rfl,e,λp d=>?_⟩];have k:=Kp.new d (.dK N);erw[h p (j.free d) _ _ k (.ref p) (j.put k ⟨u.mono k,J⟩)]
  .have⟨v,rfl,a⟩:=c.one;have⟨S,rfl,O⟩:=h;have⟨_,_,rfl,e,u⟩:=a.inv;have⟨q,pv,Y⟩:=Iq u;erw[HS P y s m H _ g Q I r ⟨_,q,_,rfl,.inr e,pv,λp d=>?_⟩];have k:=Kp.new d (.dK (Wa q));have⟨Z,A⟩:=Ir Y (.nil:RKs X.K H [] []) (by simp)
   erw[O p (j.free d) _ _ k (.ref p) (j.put k ⟨Z.mono k,A⟩)]
  .erw[h.elim]
 |sorted=>erw[Y7 h]
 |dictL=>
  have h:bDcl L M (Dn X.K H Q):=h;unfold bDcl at h;split at h
  .have⟨v,rfl,a⟩:=c.one;obtain rfl:=a.inv;have⟨S,l,O⟩:=h;have⟨N,e,u⟩:=j.lst l;have⟨q,pv,Y⟩:=Iq u;erw[HS P y s m H _ g Q I r ⟨_,q,N,rfl,.inl e,pv,λp d=>?_⟩];have k:=Kp.new d (.dK (Wa q));have⟨Z,A⟩:=Ir Y (.nil:RKs X.K H [] []) (by simp)
   erw[O p (j.free d) _ _ k (.ref p) (j.put k ⟨Z.mono k,A⟩)]
  .erw[h.elim]
 |all=>
  have h:bAll L M (Dn X.K H Q):=h;unfold bAll at h;split at h
  .have⟨v,rfl,a⟩:=c.one;obtain rfl:=a.inv;have⟨bs,l,O⟩:=h;have⟨N,e,u⟩:=j.lst l;have:=u.bls_of;subst this;erw[_i7 P y s m H _ g Q I r ⟨_,bs,rfl,SqL.of e,O _ _ (Kp.refl _) (.bl _) j⟩]
  .erw[h.elim]
end
theorem RMs.strs{K:X4}:∀j:List Str,RMs K H (j.map MV.str) (j.map V.str)
 |[]=>.nil
 |n::r=>.cons (.str n) (RMs.strs r)
def RMs.strs_of{K:X4}{H:Hp}{j:List Str}{l:List V}(h:RMs K H (j.map MV.str) l):l=j.map V.str:=h.map_of λ_ _ x=>by cases x;rfl
theorem Iv{K:X4}(f:Nat->Int):∀l:List Nat,RMs K H (l.map λi=>MV.int (f i)) (l.map λi=>V.int (f i))
 |[]=>.nil
 |_::r=>.cons (.int _) (Iv f r)
def _gy{K:X4}(n:Nat):RMs K H ((Xq n).map λi=>MV.int (i:Nat)) ((Xq n).map λi=>V.int (i:Nat)):=Iv (λi=>(i:Int)) _
inductive B2 where|ssrt|lset|tset|lrng
  deriving DecidableEq
noncomputable def B2.out:B2->String
 |.ssrt=>"sorted"
 |.lset=>"len"
 |.tset=>"len"
 |.lrng=>"list"
noncomputable def B2.inn:B2->String
 |.ssrt=>"set"
 |.lset=>"set"
 |.tset=>"set"
 |.lrng=>"range"
noncomputable def B2.outV:B2->X0
 |.ssrt=>.builtin "sorted"
 |.lset=>.builtin "len"
 |.tset=>.builtin "len"
 |.lrng=>.type "list"
def wB2(f:B2)(v:MV)(M:MH)(Q:QM):Prop:=match f with
 |.ssrt=>∃(a:Addr) (j N:List Str),v=.ref a/\M a=wc (.lst (j.map MV.str))/\j.length+1<scanBound/\(∀z∈j,z∈N)/\N.length<64/\
   ∀p (l:List Str),M p=we->l.Nodup->(∀y,y∈l↔y∈j)->sortedS l=wf->Q (.ref p) (updM M p (.lst (l.map MV.str)))
 |.lset=>False
 |.tset=>False
 |.lrng=>∃n:Nat,v=.int n/\n<=1000000/\∀p,M p=we->Q (.ref p) (updM M p (.lst ((Xq n).map λi=>MV.int (i:Nat))))
def Iw(f:B2):Mon1 (wB2 f):=by
 intro v M Q O w h;cases f with
 |ssrt=>
  have⟨a,y,N,j,l,u,z,m,g⟩:=h;erw[⟨a,y,N,j,l,u,z,m,λp d c q r e=>w _ _ (g p d c q r e)⟩]
 |lset=>erw[Y7 h]
 |tset=>erw[Y7 h]
 |lrng=>
  have⟨n,j,l,u⟩:=h;erw[⟨n,j,l,λp L=>w _ _ (u p L)⟩]
section
variable{X:Cx}
def _mz(g:X.calm=wf)(f:B2):WZ X f.outV (.type f.inn) (li1 X.K (wB2 f)):=by
 intro d s c H x u Q I r h;have⟨m,M,q,j,h⟩:=h;cases f with
 |ssrt=>
  have⟨a,L,N,rfl,w,y,O,P,R⟩:=h;obtain rfl:=q.inv;have⟨Z,e,T⟩:=j.lst w;have:=T.strs_of;subst this;erw[_i0 g d s c H _ u Q I r ⟨_,L,N,rfl,SqL.of e,y,O,P,λp z l U W Y=>?_⟩];have k:=Kp.new l (.lst (z.map V.str));erw[R p z (j.free l) U W Y _ _ k (.ref p) (j.put k (RMs.strs z))]
 |lset=>erw[Y7 h]
 |tset=>erw[Y7 h]
 |lrng=>
  have⟨n,rfl,w,y⟩:=h;obtain rfl:=q.inv;erw[_i4 g d s c H _ u Q I r ⟨n,rfl,w,λp l=>?_⟩];have k:=Kp.new l (.lst ((Xq n).map λi=>V.int (i:Nat)));erw[y p (j.free l) _ _ k (.ref p) (j.put k (_gy n))]
end
inductive MT where|append|extend|remove
  deriving DecidableEq
def wMt(m:MT)(a:Addr)(w:List MV)(M:MH)(Q:QM):Prop:=∃j,M a=wc (.lst j)/\match m,w with
 |.append,[y]=>j.length<sizeLine/\Q .non (updM M a (.lst (j++[y])))
 |.extend,[.ref b]=>∃l,M b=wc (.lst l)/\j.length+l.length<=sizeLine/\Q .non (updM M a (.lst (j++l)))
 |.remove,[.str z]=>∃u:List Str,j=u.map MV.str/\z∈u/\Q .non (updM M a (.lst ((u.erase z).map MV.str)))
 |_,_=>False
def wMl(m:MT)(x:MV)(j:List MV)(M:MH)(Q:QM):Prop:=match x with
 |.ref a=>wMt m a j M Q
 |_=>False
noncomputable def wMd(m:MT)(x:MV)(j:List MV)(M:MH)(Q:QM):Prop:=match m with
 |_=>False
noncomputable def MT.isL:MT->Bool
 |_=>wf
noncomputable def MT.ty:MT->String
 |_=>"list"
noncomputable def mtOk(m:MT)(x:MV)(M:MH):Prop:=match m with
 |_=>∃a j,x=.ref a/\M a=wc (.lst j)
def wMts(m:MT)(x:MV)(j:List MV)(M:MH)(Q:QM):Prop:=match m with
 |m=>wMl m x j M Q
def Ix(h:m.isL=wf):wMts m x vs M Q=wMl m x vs M Q:=by cases m<;>first|rfl|cases h
def _om(j:∀m l,Q m l->Q' m l)(h:wMl m a vs M Q):wMl m a vs M Q':=by
 cases a<;>try erw[h.elim]
 have⟨u,w,h⟩:=h;erw[⟨u,w,?_⟩];split at h
 .erw[⟨h.1,j _ _ h.2⟩]
 .have⟨y,a,b,c⟩:=h;erw[⟨y,a,b,j _ _ c⟩]
 .have⟨z,a,b,c⟩:=h;erw[⟨z,a,b,j _ _ c⟩]
 .erw[h.elim]
def DH{m:MT}{a:MV}{j:List MV}{M:MH}{Q l:QM}(w:∀m u,Q m u->l m u)(h:wMts m a j M Q):wMts m a j M l:=by
 cases e:m.isL
 .cases m<;>cases e
 .rw[Ix e]at h ⊢;erw[_om w h]
noncomputable def MT.id:MT->String
 |.append=>"list.append"|.extend=>"list.extend"|.remove=>"list.remove"
def liM(K:X4)(w:MV->List MV->MH->QM->Prop):V->List V->Hp->VK->Prop:=λx u H Q=>∃j l M,RM K H j x/\RMs K H l u/\RH K M H/\w j l M (Dn K H Q)
section
variable{X:Cx}
def _lO(A:X.A.units+1<cLine)(m:MT):MtR X m.id (liM X.K (wMl m)):=by
 intro z s g H x B v d Q I q r h;have⟨C,D,M,R,p,l,h⟩:=h;cases R<;>try erw[h.elim]
 have⟨E,T,h⟩:=h;have⟨N,e,y⟩:=l.lst T;have j:∀o,Kp H (upd H _ o):=λo=>Kp.upd e rfl o;split at h
 .have⟨w,rfl,L⟩:=p.one;erw[Hj z s g H _ _ v d Q I q r ⟨_,N,w,rfl,rfl,e,by rw[<-y.length];erw[h.1],h.2 _ _ (j _) .non (l.put (j _) ((y.append (.cons L .nil)).mono (j _)))⟩]
 .have⟨w,rfl,L⟩:=p.one;obtain rfl:=L.inv;have⟨O,a,b,c⟩:=h;have⟨U,W,P⟩:=l.lst a;erw[Te z s g H _ _ v d Q I q r ⟨_,_,N,U,rfl,rfl,e,W,by rw[<-y.length,<-P.length];erw[b],c _ _ (j _) .non (l.put (j _) ((y.append P).mono (j _)))⟩]
 .have⟨O,rfl,Y,f⟩:=h;have⟨u,rfl,Z⟩:=p.one;obtain rfl:=Z.inv;obtain rfl:=y.strs_of;erw[_lN z s g H _ _ v d Q I q r ⟨_,O,_,rfl,rfl,e,Y,f _ _ (j _) .non (l.put (j _) ((RMs.strs _).mono (j _)))⟩]
 .erw[h.elim]
def Iy(j:X.A.units+1<cLine)(m:MT):MtR X m.id (liM X.K (wMts m)):=by
 intro l s u H x w v y Q I z g h;have⟨d,c,M,f,q,r,h⟩:=h;cases e:m.isL
 .cases m<;>cases e
 .rw[Ix e]at h;erw[_lO j m l s u H x w v y Q I z g ⟨d,c,M,f,q,r,h⟩]
end
def wPut(o i v:MV)(M:MH)(Q:MH->Prop):Prop:=match o with
 |.ref a=>(∃u k j,M a=wc (.lst u)/\i=.int k/\ixN u.length k=wc j/\Q (updM M a (.lst (u.set j v))))\/∃l w,M a=wc (.dic l)/\keyM i=wc w/\l.length<sizeLine/\Q (updM M a (.dic (putM l w v)))
 |_=>False
def Iz{o i v:MV}{M:MH}{Q m:MH->Prop}(g:∀d,Q d->m d)(h:wPut o i v M Q):wPut o i v M m:=by
 cases o<;>try erw[h.elim]
 rcases h with⟨c,k,j,l,u,w,y⟩|⟨z,f,l,u,w,y⟩
 .erw[.inl ⟨c,k,j,l,u,w,g _ y⟩]
 .erw[.inr ⟨z,f,l,u,w,g _ y⟩]
def DnH(K:X4)(H:Hp)(Q:Hp->Prop):MH->Prop:=λM=>∀j,Kp H j->RH K M j->Q j
def IA(K:X4):TSet:=λo i v H Q=>∃j l mv M,RM K H j o/\RM K H l i/\RM K H mv v/\RH K M H/\wPut j l mv M (DnH K H Q)
section
variable{X:Cx}
def _kS(O:X.A.units+1<cLine):PSet X (IA X.K):=by
 intro P s R H o i v f T u Q I q r p h;have⟨D,E,mv,M,U,L,N,w,h⟩:=h;cases U<;>try erw[h.elim]
 rcases h with⟨F,k,j,z,rfl,m,g⟩|⟨W,d,z,Y,m,g⟩
 .obtain rfl:=L.inv;have⟨y,e,l⟩:=w.lst z;have k:=Kp.upd e rfl (.lst (y.set j v));erw[T5 P s R H _ _ v f T u Q I q r p ⟨_,y,_,j,rfl,rfl,e,by rw[<-l.length];erw[m],g _ k (w.put k ((l.set N j).mono k))⟩]
 .have⟨y,e,l,Z⟩:=w.dic z;have A:=A5 Y L;subst A;obtain rfl:f=XB _:=q;have k:=Kp.upd e rfl (.dK (putK y d v));have⟨B,c⟩:=Ic (k:=d) N Z l;erw[Tj O I (DPut.k (k:=d) e (by rw[<-l.length];erw[m])) r p λG C=>⟨_,C,g _ k (w.put k ⟨B.mono k,c⟩)⟩]
end
end L2
namespace L2
set_option genInjectivity false
set_option genCtorIdx false
open PySem PySem.Spec PyProof.Rows
mutual
inductive ITg where|nm (i:Nat)|tup (ts:ITgs)
inductive ITgs where|nil|cons (t:ITg)(ts:ITgs)
end
mutual
inductive IE where
 |var (i:Nat)
 |int (i:Int)|str (x:Str)|bl (b:Bool)|non
 |glb (x:Str)(i:Int)
 |ty (c:Ty7)
 |bin (op:UH)(a b:IE)
 |neg (a:IE)
 |not (a:IE)
 |cmp (op:CmpOp)(a b:IE)
 |chn (op op':CmpOp)(a b c:IE)
 |and (a b:IE)
 |or (a b:IE)
 |ife (c a b:IE)
 |tup (es:IEs)
 |lst (es:IEs)
 |dic
 |ix (a b:IE)
 |sl (a:IE)(lo hi:IO)
 |call (j:Nat)(e:IE)(es:IEs)
 |bi (f:BI)(e:IE)(es:IEs)
 |b2 (f:B2)(e:IE)
 |mt (m:MT)(o:IE)(es:IEs)
 |comp (own:List Str)(fr:List Nat)(src:ISr)(tg:ITg)(test:IO)(elt:IE)
 |fld (c:Str)(o:IE)(f:Str)
 |mcall (j:Nat)(c m:Str)(o:IE)(es:IEs)
 |make (j:Nat)(c:Str)(e:IE)(es:IEs)
 |disp (ps:IPs)
 |mxd (e:IE)
 |st3 (e:IE)
inductive IPs where|nil|cons (k v:IE)(r:IPs)
inductive IEs where|nil|cons (e:IE)(es:IEs)
inductive IO where|none|some (e:IE)
inductive ISr where|seq (e:IE)|rng (e:IE)
end
def wSt3(v:MV)(M:MH)(Q:QM):Prop:=∃(a:Addr) (j:List MV),v=.ref a/\M a=wc (.lst j)/\∀p,M p=we->Q (.ref p) (updM M p (.lst (st3 j)))
def _lP(j:∀v M,Q v M->Q' v M)(h:wSt3 v M Q):wSt3 v M Q':=by
 have⟨a,l,u,w,y⟩:=h;erw[⟨a,l,u,w,λp z=>j _ _ (y p z)⟩]
noncomputable def wMxd(v:MV)(M:MH)(Q:QM):Prop:=∃(a:Addr) (j:List Int),v=.ref a/\M a=wc (.lst (j.map MV.int))/\∀m,(j=[]/\m=0\/m∈j/\∀i∈j,i<=m)->Q (.int m) M
def _lR(j:∀v M,Q v M->Q' v M)(h:wMxd v M Q):wMxd v M Q':=by
 have⟨a,l,u,w,y⟩:=h;erw[⟨a,l,u,w,λm z=>j _ _ (y m z)⟩]
inductive Src where|tup (xs:List MV)|lst (a:Addr)(xs:List MV)|rng (lo:Int)(n:Nat)|dic (a:Addr)(o:Obj)(kvs:List (Key×MV))|str (x:Str)
def kM:Key->MV
 |.inl i=>.int i
 |.inr x=>.str x
def Src.items:Src->List MV
 |.tup xs=>xs
 |.lst _ xs=>xs
 |.rng lo n=>(Xq n).map λi=>.int (lo+(i:Nat))
 |.dic _ _ kvs=>kvs.map λp=>kM p.1
 |.str x=>x.cps.toList.map λc=>.str ⟨#[c]⟩
def Src.ok(M:MH):Src->Prop
 |.lst a xs=>M a=wc (.lst xs)
 |.dic a o kvs=>M a=wc (.fdic o kvs)
 |_=>True
def Src.okF(M:MH):Src->Prop
 |.lst a xs=>M a=wc (.lst xs)
 |.dic _ _ _=>False
 |_=>True
def Src.okT(M:MH):Src->Prop
 |.dic a o kvs=>M a=wc (.fdic o kvs)
 |_=>True
def Src.thaw(M:MH):Src->MH
 |.dic a _ kvs=>updM M a (.dic kvs)
 |_=>M
noncomputable def Src.len:Src->Nat
 |.tup xs=>xs.length
 |.lst _ xs=>xs.length
 |.rng _ n=>n
 |.dic _ _ kvs=>kvs.length
 |.str x=>x.cps.size
def Src.items_len(S:Src):S.items.length=S.len:=by cases S<;>simp[Src.items,Src.len]
abbrev SpM:=List MV->MH->QM->Prop
abbrev TSm:=Sm->MH->(Src->MH->Prop)->Prop
mutual
def wTg:ITg->MV->Sm->(Sm->Prop)->Prop
 |.nm i,v,σ,Q=>Q (σ.set i (wc v))
 |.tup ts,v,σ,Q=>∃xs,v=.tup xs/\wTgs ts xs σ Q
def wTgs:ITgs->List MV->Sm->(Sm->Prop)->Prop
 |.nil,xs,σ,Q=>xs=[]/\Q σ
 |.cons t ts,xs,σ,Q=>∃v r,xs=v::r/\wTg t v σ λj=>wTgs ts r j Q
end
noncomputable def sCm(own:List Str)(fr:List Nat)(j:Sm):Sm:=own.map (λ_=>we)++fr.map (λi=>j.getD i we)
noncomputable def onV(o:Option (Option MV))(k:MV->Prop):Prop:=match o with
 |wc (wc v)=>k v
 |_=>False
def _of{k:MV->Prop}:onV o k=∃v,o=wc (wc v)/\k v:=by
 erw[propext ⟨λh=>?_,λj=>by have⟨v,e,h⟩:=j;subst e;erw[h]⟩]
 match o,h with
 |wc (wc v),h=>erw[⟨v,rfl,h⟩]
noncomputable def onB(x:MV)(k:Bool->Prop):Prop:=match x with
 |.bl c=>k c
 |_=>False
def We{k:Bool->Prop}:onB x k=∃c,x=.bl c/\k c:=by
 erw[propext ⟨λh=>?_,λj=>by have⟨v,e,h⟩:=j;subst e;erw[h]⟩]
 cases x<;>first|erw[⟨_,rfl,h⟩]|erw[h.elim]
noncomputable def onF(o:Option (Str×SpM))(k:SpM->Prop):Prop:=match o with
 |wc p=>k p.2
 |we=>False
def _og{k:SpM->Prop}:onF o k=∃f j,o=wc (f,j)/\k j:=by
 erw[propext ⟨λh=>?_,λl=>by have⟨f,v,e,h⟩:=l;subst e;erw[h]⟩]
 match o,h with
 |wc (f,j),h=>erw[⟨f,j,rfl,h⟩]
mutual
def wE(Φ:List (Str×SpM)):IE->TEm
 |.var i,σ,M,Q=>onV σ[i]? λv=>Q v M
 |.int i,_,M,Q=>Q (.int i) M
 |.str x,_,M,Q=>Q (.str x) M
 |.bl b,_,M,Q=>Q (.bl b) M
 |.non,_,M,Q=>Q .non M
 |.glb _ i,_,M,Q=>Q (.int i) M
 |.ty c,_,M,Q=>Q (.ty c) M
 |.bin op a b,σ,M,Q=>wE Φ a σ M λx M1=>wE Φ b σ M1 λy M2=>wBin op x y M2 Q
 |.neg a,σ,M,Q=>wE Φ a σ M λx M1=>∃i,x=.int i/\Q (.int (-i)) M1
 |.not a,σ,M,Q=>wE Φ a σ M λx M1=>onB x λb=>Q (.bl (!b)) M1
 |.cmp op a b,σ,M,Q=>wE Φ a σ M λx M1=>wE Φ b σ M1 λy M2=>wCmp op x y M2 Q
 |.chn op op' a b c,σ,M,Q=>wE Φ a σ M λx M1=>wE Φ b σ M1 λy M2=>wCmp op x y M2 λz d=>onB z λk=>(if k=wf then wE Φ c σ d λw N=>wCmp op' y w N Q else Q (.bl wg) d)
 |.and a b,σ,M,Q=>wE Φ a σ M λx M1=>onB x λc=>(if c=wf then wE Φ b σ M1 Q else Q (.bl wg) M1)
 |.or a b,σ,M,Q=>wE Φ a σ M λx M1=>onB x λc=>(if c=wf then Q (.bl wf) M1 else wE Φ b σ M1 Q)
 |.ife c a b,σ,M,Q=>wE Φ c σ M λx M1=>onB x λk=>(if k=wf then wE Φ a σ M1 Q else wE Φ b σ M1 Q)
 |.tup es,σ,M,Q=>wEs Φ es σ M λvs M1=>vs.length<=sizeLine/\Q (.tup vs) M1
 |.lst es,σ,M,Q=>wEs Φ es σ M λvs M1=>vs.length<=sizeLine/\∀p,M1 p=we->Q (.ref p) (updM M1 p (.lst vs))
 |.dic,_,M,Q=>∀p,M p=we->Q (.ref p) (updM M p (.dic []))
 |.ix a b,σ,M,Q=>wE Φ a σ M λx M1=>wE Φ b σ M1 λy M2=>wIx x y M2 Q
 |.sl a lo hi,σ,M,Q=>wE Φ a σ M λx M1=>wO Φ lo σ M1 λl M2=>wO Φ hi σ M2 λh d=>wSl x l h d Q
 |.call j e es,σ,M,Q=>wE Φ e σ M λv M1=>wEs Φ es σ M1 λvs M2=>onF Φ[j]? λsp=>sp (v::vs) M2 Q
 |.bi f e es,σ,M,Q=>wE Φ e σ M λv M1=>wEs Φ es σ M1 λvs M2=>wBi f (v::vs) M2 Q
 |.b2 f e,σ,M,Q=>wE Φ e σ M λv M1=>wB2 f v M1 Q
 |.mxd e,σ,M,Q=>wE Φ e σ M λv M1=>wMxd v M1 Q
 |.st3 e,σ,M,Q=>wE Φ e σ M λv M1=>wSt3 v M1 Q
 |.mt m o es,σ,M,Q=>wE Φ o σ M λx M1=>mtOk m x M1/\wEs Φ es σ M1 λvs M2=>wMts m x vs M2 Q
 |.comp own fr src tg test elt,σ,M,Q=>wSr Φ src σ M λS M1=>S.len<sizeLine/\∀D,M1 D=we->∃J:Nat->List MV->MH->Prop,J 0 [] (updM M1 D (.lst []))/\
   (∀i g M2,J i g M2->M2 D=wc (.lst g)/\g.length<=i/\S.ok M2)/\
   (∀i x g M2,S.items[i]?=wc x->J i g M2->wTg tg x (sCm own fr σ) λL=>wI Φ test L M2 λb N=>
    if b=wf then wE Φ elt L N λy O=>O D=wc (.lst g)/\J (i+1) (g++[y]) (updM O D (.lst (g++[y])))else J (i+1) g N)/\
   ∀g M2,J S.len g M2->Q (.ref D) (S.thaw M2)
 |.fld c o f,σ,M,Q=>wE Φ o σ M λx M1=>∃a fs v,x=.ref a/\M1 a=wc (.ins c fs)/\valM fs f=wc v/\Q v M1
 |.mcall j c m o es,σ,M,Q=>wE Φ o σ M λx M1=>∃a fs,x=.ref a/\M1 a=wc (.ins c fs)/\valM fs m=we/\wEs Φ es σ M1 λvs M2=>∃f sp,Φ[j]?=wc (f,sp)/\sp (.ref a::vs) M2 Q
 |.make j c e es,σ,M,Q=>wE Φ e σ M λv M1=>wEs Φ es σ M1 λvs M2=>∃f sp,Φ[j]?=wc (f,sp)/\∀p,M2 p=we->sp (.ref p::v::vs) (updM M2 p (.ins c [])) λu d=>u=.non/\Q (.ref p) d
 |.disp ps,σ,M,Q=>∀p,M p=we->wPs Φ ps σ (updM M p (.dic [])) λl M2=>M2 p=wc (.dic [])/\l.length<=15/\Q (.ref p) (updM M2 p (.dic (U2 l)))
def wPs(Φ:List (Str×SpM)):IPs->Sm->MH->(List (Key×MV)->MH->Prop)->Prop
 |.nil,_,M,Q=>Q [] M
 |.cons k v r,σ,M,Q=>wE Φ k σ M λx M1=>∃P,keyM x=wc P/\wE Φ v σ M1 λy M2=>wPs Φ r σ M2 λl d=>Q ((P,y)::l) d
def wEs(Φ:List (Str×SpM)):IEs->TAm
 |.nil,_,M,Q=>Q [] M
 |.cons e es,σ,M,Q=>wE Φ e σ M λv M1=>wEs Φ es σ M1 λvs M2=>Q (v::vs) M2
def wO(Φ:List (Str×SpM)):IO->Sm->MH->(Option Int->MH->Prop)->Prop
 |.none,_,M,Q=>Q we M
 |.some e,σ,M,Q=>wE Φ e σ M λv M1=>∃i,v=.int i/\Q (wc i) M1
def wI(Φ:List (Str×SpM)):IO->Sm->MH->(Bool->MH->Prop)->Prop
 |.none,_,M,Q=>Q wf M
 |.some e,σ,M,Q=>wE Φ e σ M λv M1=>∃b,v=.bl b/\Q b M1
def wSr(Φ:List (Str×SpM)):ISr->TSm
 |.seq e,σ,M,Q=>wE Φ e σ M λv M1=>(∃xs,(v=.tup xs\/v=.frl xs)/\Q (.tup xs) M1)\/(∃a xs,v=.ref a/\M1 a=wc (.lst xs)/\Q (.lst a xs) M1)\/(∃a q,v=.ref a/\M1 a=wc (.dic q)/\∀o,Q (.dic a o q) (updM M1 a (.fdic o q)))\/∃z,v=.str z/\Q (.str z) M1
 |.rng e,σ,M,Q=>wE Φ e σ M λv M1=>∃j,v=.int j/\ -(2^62)<=j/\j<2^62/\Q (.rng 0 j.toNat) M1
end
section
variable{Φ:List (Str×SpM)}{σ:Sm}{M:MH}{Q:QM}
def IB{i:Nat}:wE Φ (.var i) σ M Q=∃v,σ[i]?=wc (wc v)/\Q v M:=_of
def DI{a:IE}:wE Φ (.not a) σ M Q=wE Φ a σ M λx M1=>∃b,x=.bl b/\Q (.bl (!b)) M1:=congrArg (wE Φ a σ M) (funext λ_=>funext λ_=>We)
def IC:wE Φ (.chn op op' a b c) σ M Q=wE Φ a σ M λx M1=>wE Φ b σ M1 λy M2=>wCmp op x y M2 λz j=>∃k,z=.bl k/\(if k=wf then wE Φ c σ j λw l=>wCmp op' y w l Q else Q (.bl wg) j):=congrArg (wE Φ a σ M) (funext λ_=>funext λ_=>congrArg (wE Φ b σ _) (funext λ_=>funext λ_=>congrArg (wCmp op _ _ _) (funext λ_=>funext λ_=>We)))
def DJ{a b:IE}:wE Φ (.and a b) σ M Q=wE Φ a σ M λx M1=>∃c,x=.bl c/\(if c=wf then wE Φ b σ M1 Q else Q (.bl wg) M1):=congrArg (wE Φ a σ M) (funext λ_=>funext λ_=>We)
def x_or{a b:IE}:wE Φ (.or a b) σ M Q=wE Φ a σ M λx M1=>∃c,x=.bl c/\(if c=wf then Q (.bl wf) M1 else wE Φ b σ M1 Q):=congrArg (wE Φ a σ M) (funext λ_=>funext λ_=>We)
def ID{a b c:IE}:wE Φ (.ife c a b) σ M Q=wE Φ c σ M λx M1=>∃k,x=.bl k/\(if k=wf then wE Φ a σ M1 Q else wE Φ b σ M1 Q):=congrArg (wE Φ c σ M) (funext λ_=>funext λ_=>We)
def IF{j:Nat}{e:IE}{l:IEs}:wE Φ (.call j e l) σ M Q=wE Φ e σ M λv M1=>wEs Φ l σ M1 λw M2=>∃f u,Φ[j]?=wc (f,u)/\u (v::w) M2 Q:=congrArg (wE Φ e σ M) (funext λ_=>funext λ_=>congrArg (wEs Φ l σ _) (funext λ_=>funext λ_=>_og))
end
mutual
theorem A7:∀(t:ITg){v:MV} {j:Sm} {Q l:Sm->Prop},(∀j,Q j->l j)->wTg t v j Q->wTg t v j l
 |.nm i,v,j,Q,l,hq,h=>by erw[hq _ h]
 |.tup ts,v,j,Q,l,hq,h=>by
  have⟨xs,e,h⟩:=h;erw[⟨xs,e,mon_tgs ts hq h⟩]
theorem mon_tgs:∀(t:ITgs){v:List MV} {j:Sm} {Q l:Sm->Prop},(∀j,Q j->l j)->wTgs t v j Q->wTgs t v j l
 |.nil,v,j,Q,l,hq,h=>by erw[⟨h.1,hq _ h.2⟩]
 |.cons t ts,v,j,Q,l,hq,h=>by
  have⟨x,r,e,h⟩:=h;erw[⟨x,r,e,A7 t (λu h'=>mon_tgs ts hq h') h⟩]
end
def YU{c:Prop} [Decidable c] {A B j l:Prop}(u:A->j)(w:B->l)(h:if c then A else B):if c then j else l:=by
 split at h
 .rw[if_pos (by assumption)];erw[u h]
 .rw[if_neg (by assumption)];erw[w h]
mutual
theorem Xc{Φ:List (Str×SpM)}(u:∀(j:Nat)f sp,Φ[j]?=wc (f,sp)->MonW sp):∀e:IE,MonE (wE Φ e)
 |.var i,d,M,Q,q,hq,h=>by rw[IB]at h ⊢;have⟨v,e,h⟩:=h;erw[⟨v,e,hq _ _ h⟩]
 |.int _,d,M,Q,q,hq,h=>by erw[hq _ _ h]
 |.str _,d,M,Q,q,hq,h=>by erw[hq _ _ h]
 |.bl _,d,M,Q,q,hq,h=>by erw[hq _ _ h]
 |.non,d,M,Q,q,hq,h=>by erw[hq _ _ h]
 |.glb _ _,d,M,Q,q,hq,h=>by erw[hq _ _ h]
 |.ty _,d,M,Q,q,hq,h=>by erw[hq _ _ h]
 |.bin op a b,d,M,Q,q,hq,h=>by
  erw[Xc u a (λx M1 g=>Xc u b (λy M2 L=>HY op hq L) g) h]
 |.neg a,d,M,Q,q,hq,h=>by
  erw[Xc u a (λx M1 h'=>by have⟨i,e,g⟩:=h';erw[⟨i,e,hq _ _ g⟩]) h]
 |.not a,d,M,Q,q,hq,h=>by
  rw[DI]at h ⊢;erw[Xc u a (λx M1 h'=>by have⟨i,e,g⟩:=h';erw[⟨i,e,hq _ _ g⟩]) h]
 |.cmp op a b,d,M,Q,q,hq,h=>by
  erw[Xc u a (λx M1 g=>Xc u b (λy M2 L=>Wc op hq L) g) h]
 |.chn op op' a b c,d,M,Q,q,hq,h=>by
  rw[IC]at h ⊢;erw[Xc u a (λx M1 g=>Xc u b (λy M2 L=>Wc op (λz T h'=>by have⟨k,e,P⟩:=h';erw[⟨k,e,YU (Xc u c λw X U=>Wc op' hq U) (hq _ _) P⟩]) L) g) h]
 |.and a b,d,M,Q,q,hq,h=>by
  rw[DJ]at h ⊢;erw[Xc u a (λx M1 h'=>by have⟨c,e,g⟩:=h';erw[⟨c,e,YU (Xc u b hq) (hq _ _) g⟩]) h]
 |.or a b,d,M,Q,q,hq,h=>by
  rw[x_or]at h ⊢;erw[Xc u a (λx M1 h'=>by have⟨c,e,g⟩:=h';erw[⟨c,e,YU (hq _ _) (Xc u b hq) g⟩]) h]
 |.ife c a b,d,M,Q,q,hq,h=>by
  rw[ID]at h ⊢;erw[Xc u c (λx M1 h'=>by have⟨k,e,g⟩:=h';erw[⟨k,e,YU (Xc u a hq) (Xc u b hq) g⟩]) h]
 |.tup es,d,M,Q,q,hq,h=>by
  erw[mon_es u es (λvs M1 h'=>by have⟨e,g⟩:=h';erw[⟨e,hq _ _ g⟩]) h]
 |.lst es,d,M,Q,q,hq,h=>by
  erw[mon_es u es (λvs M1 h'=>by have⟨e,g⟩:=h';erw[⟨e,λp O=>hq _ _ (g p O)⟩]) h]
 |.dic,d,M,Q,q,hq,h=>by
  erw[λp O=>hq _ _ (h p O)]
 |.ix a b,d,M,Q,q,hq,h=>by
  erw[Xc u a (λx M1 g=>Xc u b (λy M2 L=>Il hq L) g) h]
 |.sl a lo hi,d,M,Q,q,hq,h=>by
  erw[Xc u a (λx M1 g=>mon_o u lo (λy M2 L=>mon_o u hi (λz T P=>Io hq P) L) g) h]
 |.call j e es,d,M,Q,q,hq,h=>by
  rw[IF]at h ⊢;erw[Xc u e (λx M1 g=>mon_es u es (λy M2 h'=>by have⟨f,sp,e,L⟩:=h';erw[⟨f,sp,e,u _ _ _ e hq L⟩]) g) h]
 |.bi f e es,d,M,Q,q,hq,h=>by
  erw[Xc u e (λx M1 g=>mon_es u es (λy M2 L=>Iu f hq L) g) h]
 |.b2 f e,d,M,Q,q,hq,h=>by
  erw[Xc u e (λx M1 g=>Iw f hq g) h]
 |.mxd e,d,M,Q,q,hq,h=>by
  erw[Xc u e (λx M1 g=>_lR hq g) h]
 |.st3 e,d,M,Q,q,hq,h=>by
  erw[Xc u e (λx M1 g=>_lP hq g) h]
 |.mt m o es,d,M,Q,q,hq,h=>by
  erw[Xc u o (λx M1 h'=>by have⟨W,g⟩:=h';erw[⟨W,mon_es u es (λy M2 L=>DH hq L) g⟩]) h]
 |.comp own fr src tg test elt,d,M,Q,q,hq,h=>by
  erw[mon_sr u src (λS M1 h'=>by have⟨Y,g⟩:=h';erw[⟨Y,λD Z=>by
   have⟨J,A,B,C,E⟩:=g D Z;erw[⟨J,A,B,C,λF M2 G=>hq _ _ (E F M2 G)⟩]⟩]) h]
 |.fld c o f,d,M,Q,q,hq,h=>by
  erw[Xc u o (λx M1 h'=>by have⟨a,fs,v,e,N,R,g⟩:=h';erw[⟨a,fs,v,e,N,R,hq _ _ g⟩]) h]
 |.mcall j c m o es,d,M,Q,q,hq,h=>by
  erw[Xc u o (λx M1 h'=>by have⟨a,fs,e,N,R,g⟩:=h';erw[⟨a,fs,e,N,R,mon_es u es (λy M2 h'=>by have⟨f,sp,e,L⟩:=h';erw[⟨f,sp,e,u _ _ _ e hq L⟩]) g⟩]) h]
 |.make j c e es,d,M,Q,q,hq,h=>by
  erw[Xc u e (λx M1 g=>mon_es u es (λy M2 h'=>by have⟨f,sp,e,L⟩:=h';erw[⟨f,sp,e,λp O=>u _ _ _ e (λm M' z=>⟨z.1,hq _ _ z.2⟩) (L p O)⟩]) g) h]
 |.disp ps,d,M,Q,q,hq,h=>by
  erw[λp O=>mon_ps u ps (λl M2 h'=>by have⟨e,N,g⟩:=h';erw[⟨e,N,hq _ _ g⟩]) (h p O)]
theorem mon_ps(u:∀(j:Nat)f sp,Φ[j]?=wc (f,sp)->MonW sp):∀(e:IPs){d M} {Q q:List (Key×MV)->MH->Prop},(∀m M',Q m M'->q m M')->wPs Φ e d M Q->wPs Φ e d M q
 |.nil,d,M,Q,q,hq,h=>by erw[hq _ _ h]
 |.cons k v r,d,M,Q,q,hq,h=>by
  erw[Xc u k (λx M1 h'=>by have⟨I,e,g⟩:=h';erw[⟨I,e,Xc u v (λy M2 L=>mon_ps u r (λl T P=>hq _ _ P) L) g⟩]) h]
theorem mon_es{Φ:List (Str×SpM)}(u:∀(j:Nat)f sp,Φ[j]?=wc (f,sp)->MonW sp):∀e:IEs,MonA (wEs Φ e)
 |.nil,d,M,Q,q,hq,h=>by erw[hq _ _ h]
 |.cons e es,d,M,Q,q,hq,h=>by
  erw[Xc u e (λx M1 g=>mon_es u es (λy M2 L=>hq _ _ L) g) h]
theorem mon_o{Φ:List (Str×SpM)}(u:∀(j:Nat)f sp,Φ[j]?=wc (f,sp)->MonW sp):∀(e:IO){d M} {Q q:Option Int->MH->Prop},(∀m M',Q m M'->q m M')->wO Φ e d M Q->wO Φ e d M q
 |.none,d,M,Q,q,hq,h=>by erw[hq _ _ h]
 |.some e,d,M,Q,q,hq,h=>by
  erw[Xc u e (λx M1 h'=>by have⟨i,e,g⟩:=h';erw[⟨i,e,hq _ _ g⟩]) h]
theorem mon_i(u:∀(j:Nat)f sp,Φ[j]?=wc (f,sp)->MonW sp):∀(e:IO){d M} {Q q:Bool->MH->Prop},(∀m M',Q m M'->q m M')->wI Φ e d M Q->wI Φ e d M q
 |.none,d,M,Q,q,hq,h=>by erw[hq _ _ h]
 |.some e,d,M,Q,q,hq,h=>by
  erw[Xc u e (λx M1 h'=>by have⟨i,e,g⟩:=h';erw[⟨i,e,hq _ _ g⟩]) h]
theorem mon_sr{Φ:List (Str×SpM)}(u:∀(j:Nat)f sp,Φ[j]?=wc (f,sp)->MonW sp):∀(e:ISr){d M} {Q q:Src->MH->Prop},(∀m M',Q m M'->q m M')->wSr Φ e d M Q->wSr Φ e d M q
 |.seq e,d,M,Q,q,hq,h=>by
  erw[Xc u e (λx M1 g=>by
   rcases g with⟨xs,e,g⟩|⟨a,xs,e,N,g⟩|⟨a,xs,e,N,g⟩|⟨z,e,g⟩
   .erw[.inl ⟨xs,e,hq _ _ g⟩]
   .erw[.inr (.inl ⟨a,xs,e,N,hq _ _ g⟩)]
   .erw[.inr (.inr (.inl ⟨a,xs,e,N,λo=>hq _ _ (g o)⟩))]
   .erw[.inr (.inr (.inr ⟨z,e,hq _ _ g⟩))]) h]
 |.rng e,d,M,Q,q,hq,h=>by
  erw[Xc u e (λx M1 h'=>by have⟨j,e,a,b,g⟩:=h';erw[⟨j,e,a,b,hq _ _ g⟩]) h]
end
end L2
namespace L2
open PySem PySem.Spec PyProof.Rows
structure GI where
 bl:List Str
 gl:List (Str×Int)
 fns:List Str
 mts:List (Nat×Str×Str):=[]
 mks:List (Nat×Str):=[]
 cls:List (Str×Str):=[]
noncomputable def visB(j:Scope)(x:Str):Bool:=match j.names.lookup x with
 |wc .local=>wf|wc .cell=>wf|wc .free=>wf|_=>wg
noncomputable def locB(j:Scope)(x:Str):Bool:=match j.names.lookup x with
 |wc .local=>wf|wc .cell=>wf|_=>wg
noncomputable def glB(j:Scope)(x:Str):Bool:=decide (j.names.lookup x=wc .globalImplicit)&& !(x==("__debug__":Str))&&decide (x≠"__name__")
noncomputable def Wf(j l:Scope):Scope:={j with names:=j.names.map fun(n,k)=>if(k==.free&&l.kind==.function&&l.names.lookup n==wc .cell)then(n,.cell)else(n,k)}
noncomputable def BI.name:BI->String
 |.len=>"len"|.isinst=>"isinstance"|.max=>"max"|.min=>"min"|.sum=>"sum"|.abs=>"abs"|.int=>"int"|.list=>"list"|.tuple=>"tuple"|.dict=>"dict"|.sorted=>"sorted"|.dictL=>"dict"|.all=>"all"
noncomputable def MT.name:MT->String
 |.append=>"append"|.extend=>"extend"|.remove=>"remove"
noncomputable def A8:Expr->Bool
 |.Slice ..=>wg|_=>wf
noncomputable def A9:Expr->Bool
 |.Set ..=>wg|_=>wf
noncomputable def tok:IE->Bool
 |.ife ..=>wg
 |.not a=>tok a
 |.and a b=>tok a&&tok b
 |.or a b=>tok a&&tok b
 |_=>wf
noncomputable def YV:Expr->Option Str|.Name x _=>wc x|_=>we
noncomputable def US:Expr->Option Const|.Constant c _ _=>wc c|_=>we
noncomputable def BQ:Expr->Option (Expr×UH×Expr)|.BinOp l o r _=>wc (l,o,r)|_=>we
noncomputable def asUn:Expr->Option (UnaryOp×Expr)|.UnaryOp o x _=>wc (o,x)|_=>we
noncomputable def Aa:Expr->Option (Expr×List CmpOp×List Expr)|.Compare l o r _=>wc (l,o,r)|_=>we
noncomputable def Ac:Expr->Option (BoolOp×List Expr×Pos)|.BoolOp o vs p=>wc (o,vs,p)|_=>we
noncomputable def asIf:Expr->Option (Expr×Expr×Expr)|.IfExp t x y _=>wc (t,x,y)|_=>we
noncomputable def Wg:Expr->Option (List Expr)|.Tuple xs _ _=>wc xs|_=>we
noncomputable def BR:Expr->Option (List Expr)|.List xs _=>wc xs|_=>we
noncomputable def DK:Expr->Option (List (Option Expr)×List Expr)|.Dict ks vs _=>wc (ks,vs)|_=>we
noncomputable def Wh:Expr->Option (Expr×Expr)|.Subscript x y _=>wc (x,y)|_=>we
noncomputable def asSl:Expr->Option (Option Expr×Option Expr×Option Expr)|.Slice l u s _=>wc (l,u,s)|_=>we
noncomputable def Zr:Expr->Option (Expr×List Expr×List Za×Pos)|.Call f xs ks p=>wc (f,xs,ks,p)|_=>we
noncomputable def Vs:Expr->Option (Expr×Str×Pos)|.Attribute o n p=>wc (o,n,p)|_=>we
noncomputable def asLC:Expr->Option (Expr×List Comprehension×Scope)|.ListComp e gs sc _=>wc (e,gs,sc)|_=>we
noncomputable def the1{j:Type}:List j->Option j|[x]=>wc x|_=>we
noncomputable def the2{j:Type}:List j->Option (j×j)|[x,y]=>wc (x,y)|_=>we
noncomputable def hd1{j:Type}:List j->Option (j×List j)|x::r=>wc (x,r)|_=>we
noncomputable def hd2{j:Type}:List j->Option (j×j×List j)|x::y::r=>wc (x,y,r)|_=>we
noncomputable def non0{j:Type}:List j->Bool|[]=>wf|_=>wg
def isDf(k:Za):Bool:=decide (k.arg=wc ("default":Str))&&(US k.value).any fun c=>decide (c=.int 0)
def nos{j:Type}{x:j}{C:Prop}(h:we=wc x):C:=nomatch h
def nob{C:Prop}(h:wg=wf):C:=nomatch h
def Xf{j:Type}{o:Option j}{p:j->Bool}(h:o.any p=wf):∃x,o=wc x/\p x=wf:=by
 cases o with
 |none=>cases h
 |some x=>erw[⟨x,rfl,h⟩]
section
variable{e:Expr}
def _h{x:Str}(h:YV e=wc x):∃p,e=.Name x p:=by revert h;cases e<;>first|erw[nos]|(intro h;cases h;erw[⟨_,rfl⟩])
def Wi{x:Const}(h:US e=wc x):∃k p,e=.Constant x k p:=by revert h;cases e<;>first|erw[nos]|(intro h;cases h;erw[⟨_,_,rfl⟩])
def IG{x:Expr×UH×Expr}(h:BQ e=wc x):∃p,e=.BinOp x.1 x.2.1 x.2.2 p:=by revert h;cases e<;>first|erw[nos]|(intro h;cases h;erw[⟨_,rfl⟩])
def DL{x:UnaryOp×Expr}(h:asUn e=wc x):∃p,e=.UnaryOp x.1 x.2 p:=by revert h;cases e<;>first|erw[nos]|(intro h;cases h;erw[⟨_,rfl⟩])
def DN{x:Expr×List CmpOp×List Expr}(h:Aa e=wc x):∃p,e=.Compare x.1 x.2.1 x.2.2 p:=by revert h;cases e<;>first|erw[nos]|(intro h;cases h;erw[⟨_,rfl⟩])
def DO{x:BoolOp×List Expr×Pos}(h:Ac e=wc x):e=.BoolOp x.1 x.2.1 x.2.2:=by revert h;cases e<;>first|erw[nos]|(intro h;cases h;rfl)
def IH{x:Expr×Expr×Expr}(h:asIf e=wc x):∃p,e=.IfExp x.1 x.2.1 x.2.2 p:=by revert h;cases e<;>first|erw[nos]|(intro h;cases h;erw[⟨_,rfl⟩])
def BS{x:List Expr}(h:Wg e=wc x):∃k p,e=.Tuple x k p:=by revert h;cases e<;>first|erw[nos]|(intro h;cases h;erw[⟨_,_,rfl⟩])
def II{x:List Expr}(h:BR e=wc x):∃p,e=.List x p:=by revert h;cases e<;>first|erw[nos]|(intro h;cases h;erw[⟨_,rfl⟩])
def _jG{x:List (Option Expr)×List Expr}(h:DK e=wc x):∃p,e=.Dict x.1 x.2 p:=by revert h;cases e<;>first|erw[nos]|(intro h;cases h;erw[⟨_,rfl⟩])
def BU{x:Expr×Expr}(h:Wh e=wc x):∃p,e=.Subscript x.1 x.2 p:=by revert h;cases e<;>first|erw[nos]|(intro h;cases h;erw[⟨_,rfl⟩])
def _mG{x:Option Expr×Option Expr×Option Expr}(h:asSl e=wc x):∃p,e=.Slice x.1 x.2.1 x.2.2 p:=by revert h;cases e<;>first|erw[nos]|(intro h;cases h;erw[⟨_,rfl⟩])
def U3{x:Expr×List Expr×List Za×Pos}(h:Zr e=wc x):e=.Call x.1 x.2.1 x.2.2.1 x.2.2.2:=by revert h;cases e<;>first|erw[nos]|(intro h;cases h;rfl)
def Ad{x:Expr×Str×Pos}(h:Vs e=wc x):e=.Attribute x.1 x.2.1 x.2.2:=by revert h;cases e<;>first|erw[nos]|(intro h;cases h;rfl)
def IJ{x:Expr×List Comprehension×Scope}(h:asLC e=wc x):∃p,e=.ListComp x.1 x.2.1 x.2.2 p:=by revert h;cases e<;>first|erw[nos]|(intro h;cases h;erw[⟨_,rfl⟩])
def _i{j:Type}{l:List j}{x:j}(h:the1 l=wc x):l=[x]:=by
 match l,h with
 |[_],h=>cases h;rfl
def IK{j:Type}{l:List j}{x:j×j}(h:the2 l=wc x):l=[x.1,x.2]:=by
 match l,h with
 |[_,_],h=>cases h;rfl
def Uw{j:Type}{l:List j}{x:j×List j}(h:hd1 l=wc x):l=x.1::x.2:=by
 match l,h with
 |_::_,h=>cases h;rfl
def IL{j:Type}{l:List j}{x:j×j×List j}(h:hd2 l=wc x):l=x.1::x.2.1::x.2.2:=by
 match l,h with
 |_::_::_,h=>cases h;rfl
def YE{j:Type}{l:List j}(h:non0 l=wf):l=[]:=by
 match l,h with
 |[],_=>rfl
end
def YF(e:Expr):Bool:=(YV e).isSome||(US e).isSome||(BQ e).isSome||(asUn e).isSome||(Aa e).isSome||(Ac e).isSome||(asIf e).isSome||(Wg e).isSome||(BR e).isSome||(DK e).isSome||(Wh e).isSome||(Zr e).isSome||(asLC e).isSome||(Vs e).isSome
mutual
def Zs(j:Scope)(N:List Str)(lim:Nat)(all:Bool):ITg->Expr->Bool
 |.nm i,e=>(YV e).any λx=>decide (N[i]?=wc x)&&decide (i<lim)&&(if all then locB j x else decide (j.names.lookup x=wc .local))
 |.tup ts,e=>(Wg e).any λes=>chkTgs j N lim all ts es
def chkTgs(j:Scope)(N:List Str)(lim:Nat)(all:Bool):ITgs->List Expr->Bool
 |.nil,l=>non0 l
 |.cons t ts,l=>(hd1 l).any λq=>Zs j N lim all t q.1&&chkTgs j N lim all ts q.2
end
mutual
def chkE(G:GI):IE->Scope->List Str->Expr->Bool
 |.var i,sc,N,e=>(YV e).any fun x=>decide (N[i]?=wc x)&&visB sc x&& !(x==("__debug__":Str))&& !(x==("__classdict__":Str))
 |.int i,_,_,e=>(US e).any λc=>decide (c=.int i)
 |.str x,_,_,e=>(US e).any λc=>decide (c=.str x)
 |.bl b,_,_,e=>(US e).any λc=>decide (c=.bool b)
 |.non,_,_,e=>(US e).any λc=>decide (c=.none)
 |.glb x i,sc,_,e=>(YV e).any λy=>decide (x=y)&&decide (G.gl.lookup x=wc i)&&glB sc x
 |.ty c,sc,_,e=>(YV e).any λy=>decide (y=(c.name:Str))&&decide (c≠.none)&&G.bl.contains y&&glB sc y
 |.bin op a b,sc,N,e=>(BQ e).any λq=>decide (op=q.2.1)&&chkE G a sc N q.1&&chkE G b sc N q.2.2
 |.neg a,sc,N,e=>(asUn e).any λq=>decide (q.1=.USub)&&chkE G a sc N q.2
 |.not a,sc,N,e=>(asUn e).any λq=>decide (q.1=.Not)&&chkE G a sc N q.2
 |.cmp op a b,sc,N,e=>(Aa e).any λq=>(the1 q.2.1).any λo=>(the1 q.2.2).any λr=>decide (op=o)&&chkE G a sc N q.1&&chkE G b sc N r&& !behindInMarks op r
 |.chn op op' a b c,sc,N,e=>(Aa e).any λq=>(the2 q.2.1).any λo=>(the2 q.2.2).any λr=>decide (op=o.1)&&decide (op'=o.2)&&chkE G a sc N q.1&&chkE G b sc N r.1&&chkE G c sc N r.2&& !lastMarks [op,op'] [r.1,r.2]
 |.and a b,sc,N,e=>(Ac e).any λq=>(hd2 q.2.1).any λv=>decide (q.1=.And)&&chkE G a sc N v.1&&chkE G b sc N (if non0 v.2.2 then v.2.1 else .BoolOp .And (v.2.1::v.2.2) q.2.2)
 |.or a b,sc,N,e=>(Ac e).any λq=>(hd2 q.2.1).any λv=>decide (q.1=.Or)&&chkE G a sc N v.1&&chkE G b sc N (if non0 v.2.2 then v.2.1 else .BoolOp .Or (v.2.1::v.2.2) q.2.2)
 |.ife c a b,sc,N,e=>(asIf e).any λq=>tok c&&chkE G c sc N q.1&&chkE G a sc N q.2.1&&chkE G b sc N q.2.2
 |.tup es,sc,N,e=>(Wg e).any λxs=>chkEs G es sc N xs
 |.lst es,sc,N,e=>(BR e).any λxs=>chkEs G es sc N xs
 |.dic,_,_,_=>wg
 |.ix a b,sc,N,e=>(Wh e).any λq=>chkE G a sc N q.1&&chkE G b sc N q.2&&A8 q.2
 |.sl a lo hi,sc,N,e=>(Wh e).any λq=>(asSl q.2).any λs=>chkE G a sc N q.1&&chkO G lo sc N s.1&&chkO G hi sc N s.2.1&& !s.2.2.isSome
 |.call j f es,sc,N,e=>(Zr e).any λq=>(YV q.1).any λg=>(hd1 q.2.1).any λx=>non0 q.2.2.1&&decide (G.fns[j]?=wc g)&&glB sc g&&chkE G f sc N x.1&&chkEs G es sc N x.2
 |.bi f a es,sc,N,e=>(Zr e).any λq=>(YV q.1).any λg=>(hd1 q.2.1).any λx=>non0 q.2.2.1&&decide (g=(f.name:Str))&&G.bl.contains g&&glB sc g&&chkE G a sc N x.1&&chkEs G es sc N x.2
 |.b2 f a,sc,N,e=>(Zr e).any λq=>(YV q.1).any λg=>(the1 q.2.1).any λy=>(Zr y).any λr=>(YV r.1).any λk=>(the1 r.2.1).any λx=>non0 q.2.2.1&&non0 r.2.2.1&&decide (g=(f.out:Str))&&decide (k=(f.inn:Str))&&G.bl.contains g&&G.bl.contains k&&glB sc g&&glB sc k&&chkE G a sc N x
 |.st3 a,_,_,_=>wg
 |.mxd a,sc,N,e=>(Zr e).any fun q=>(YV q.1).any fun g=>(the1 q.2.1).any fun x=>(the1 q.2.2.1).any fun k=>decide (g=("max":Str))&&isDf k&&G.bl.contains g&&glB sc g&&chkE G a sc N x
 |.mt m o es,sc,N,e=>(Zr e).any λq=>(Vs q.1).any λa=>non0 q.2.2.1&&decide (a.2.1=(m.name:Str))&&(a.2.2.endLine==q.2.2.2.line)&&chkE G o sc N a.1&&chkEs G es sc N q.2.1&&decide (q.2.1.length<20)
 |.comp own fr src tg test elt,sc,N,e=>(asLC e).any λq=>(the1 q.2.1).any λg=>W8 sc q.2.2 N own fr&&A9 g.iter&&decide (nC own fr N).Nodup&&chkSr G src sc N g.iter&&Zs (Wf q.2.2 sc) (nC own fr N) own.length wg tg g.target&&
   chkI G test (Wf q.2.2 sc) (nC own fr N) g.ifs&&chkE G elt (Wf q.2.2 sc) (nC own fr N) q.1&&decide (g.is_async=0)
 |.fld c o f,sc,N,e=>(Vs e).any λa=>decide (a.2.1=f)&&G.cls.contains (c,f)&&chkE G o sc N a.1
 |.mcall j c m o es,sc,N,e=>(Zr e).any λq=>(Vs q.1).any λa=>non0 q.2.2.1&&decide (a.2.1=m)&&G.mts.contains (j,c,m)&&chkE G o sc N a.1&&chkEs G es sc N q.2.1&&(a.2.2.endLine==q.2.2.2.line)&&decide (q.2.1.length<20)
 |.make j c a es,sc,N,e=>(Zr e).any λq=>(YV q.1).any λg=>(hd1 q.2.1).any λx=>non0 q.2.2.1&&decide (g=c)&&G.mks.contains (j,c)&&glB sc g&&chkE G a sc N x.1&&chkEs G es sc N x.2
 |.disp ps,_,_,_=>wg
def Ae(G:GI):IPs->Scope->List Str->List (Option Expr)->List Expr->Bool
 |.nil,_,_,l,r=>non0 l&&non0 r
 |.cons k v ps,sc,N,l,r=>(hd1 l).any λq=>(hd1 r).any λs=>q.1.any λx=>chkE G k sc N x&&chkE G v sc N s.1&&Ae G ps sc N q.2 s.2
def chkEs(G:GI):IEs->Scope->List Str->List Expr->Bool
 |.nil,_,_,l=>non0 l
 |.cons e es,sc,N,l=>(hd1 l).any λq=>chkE G e sc N q.1&&chkEs G es sc N q.2
def chkO(G:GI):IO->Scope->List Str->Option Expr->Bool
 |.none,_,_,o=>!o.isSome
 |.some e,sc,N,o=>o.any λx=>chkE G e sc N x
def chkI(G:GI):IO->Scope->List Str->List Expr->Bool
 |.none,_,_,l=>non0 l
 |.some e,sc,N,l=>(the1 l).any λx=>tok e&&chkE G e sc N x
def chkSr(G:GI):ISr->Scope->List Str->Expr->Bool
 |.seq a,sc,N,e=>chkE G a sc N e
 |.rng a,sc,N,e=>(Zr e).any fun q=>(YV q.1).any fun f=>(the1 q.2.1).any fun x=>non0 q.2.2.1&&decide (f=("range":Str))&&G.bl.contains f&&glB sc f&&chkE G a sc N x
end
def liSp(K:X4)(l:SpM):Sp:=λu H Q _=>∃j M,RMs K H j u/\RH K M H/\l j M (Dn K H Q)
structure Cok (X:Cx)(G:GI)(Φ:List (Str×SpM)):Prop where
 room:X.A.units+70<cLine
 calm:X.calm=wf
 nox:X.xe=λ_ _=>False
 blk:X.env.blockKind=.function
 nd:X.N.Nodup
 bls:∀x,G.bl.contains x=wf->X.mg x=we
 gls:∀x i,G.gl.lookup x=wc i->∃tk,X.mg x=wc (.int i tk)
 fnn:∀(j:Nat)f,G.fns[j]?=wc f->∃sp,Φ[j]?=wc (f,sp)
 mon:∀(j:Nat)f sp,Φ[j]?=wc (f,sp)->MonW sp
 fns:∀(j:Nat)f sp,G.fns[j]?=wc f->Φ[j]?=wc (f,sp)->∃k fa fd ps,Room k X.A/\FnOk X.prog X.w X.K X.mg X.base CX0 k fa fd ps (liSp X.K sp)/\X.mg f=wc (.ref fa)/\Zq X.K (.ref fa)=wf/\Binds X.K fd ps []
 mts:∀(j:Nat)c m,G.mts.contains (j,c,m)=wf->∃f sp,Φ[j]?=wc (f,sp)/\∃k C fa fd ps,Room k X.A/\FnOk X.prog X.w X.K X.mg X.base CX0 k fa fd ps (liSp X.K sp)/\XC X.K Xp c=wc (wc (.ref C))/\Cls X.K C/\Meth X.K C m fa/\Binds X.K fd ps []
 mks:∀(j:Nat)c,G.mks.contains (j,c)=wf->∃f sp,Φ[j]?=wc (f,sp)/\∃k C fa fd ps,Room (k+1) X.A/\FnOk X.prog X.w X.K X.mg X.base CX0 k fa fd ps (liSp X.K sp)/\XC X.K Xp c=wc (wc (.ref C))/\X.mg c=wc (.ref C)/\Mk X.K C fa/\Binds X.K fd ps []
 cls:∀c f,G.cls.contains (c,f)=wf->∃C,XC X.K Xp c=wc (wc (.ref C))/\Cls X.K C/\NoAttr X.K C f
section
variable{X:Cx}{G:GI}{Φ:List (Str×SpM)}
def _mY{j:Scope}{x:Str}(h:visB j x=wf):Vis j x:=by
 unfold visB at h;unfold Vis;cases e:j.names.lookup x with
 |none=>rw[e]at h;cases h
 |some k=>rw[e]at h;cases k<;>first|erw[.inl rfl]|erw[.inr (.inl rfl)]|erw[.inr (.inr rfl)]|cases h
def BV{j:Scope}{x:Str}(h:locB j x=wf):Loc j x:=by
 unfold locB at h;unfold Loc;cases e:j.names.lookup x with
 |none=>rw[e]at h;cases h
 |some k=>rw[e]at h;cases k<;>first|erw[.inl rfl]|erw[.inr rfl]|cases h
def Ux{x:Str}(h:glB X.env.scope x=wf):Gl X x/\(x==("__debug__":Str))=wg/\x≠"__name__":=by
 unfold glB at h;simp only[XQ,decide_eq_true_eq,Bool.not_eq_true']at h;erw[⟨h.1.1,h.1.2,h.2⟩]
def _mB(f:BI):YI (f.name:Str)=wc f.val:=by cases f<;>(show YI _=wc _;decide+kernel)
def _mA{c:Ty7}(h:c≠.none):YI (c.name:Str)=wc (.type c.name):=by cases c<;>first|erw[absurd rfl h]|decide+kernel
def boot_range:YI ("range":Str)=wc (.type "range"):=by decide+kernel
def _fK:∀{j:IE} {z:Scope} {N:List Str} {e:Expr},chkE G j z N e=wf->YF e=wf:=by
 intro j z N e h;have go:∀{m:Type} {o:Option m} {p:m->Bool},o.any p=wf->(∀x,o=wc x->YF e=wf)->YF e=wf:=λh g=>by have⟨x,e,_⟩:=Xf h;erw[g x e]
 have d:∀x,YV e=wc x->YF e=wf:=λx h=>by have⟨p,rfl⟩:=_h h;rfl
 have c:∀x,US e=wc x->YF e=wf:=λx h=>by have⟨k,p,rfl⟩:=Wi h;rfl
 have f:∀x,BQ e=wc x->YF e=wf:=λx h=>by have⟨p,rfl⟩:=IG h;rfl
 have q:∀x,asUn e=wc x->YF e=wf:=λx h=>by have⟨p,rfl⟩:=DL h;rfl
 have r:∀x,Aa e=wc x->YF e=wf:=λx h=>by have⟨p,rfl⟩:=DN h;rfl
 have L:∀x,Ac e=wc x->YF e=wf:=λx h=>by obtain rfl:=DO h;rfl
 have O:∀x,asIf e=wc x->YF e=wf:=λx h=>by have⟨p,rfl⟩:=IH h;rfl
 have P:∀x,Wg e=wc x->YF e=wf:=λx h=>by have⟨k,p,rfl⟩:=BS h;rfl
 have R:∀x,BR e=wc x->YF e=wf:=λx h=>by have⟨p,rfl⟩:=II h;rfl
 have T:∀x,DK e=wc x->YF e=wf:=λx h=>by have⟨p,rfl⟩:=_jG h;rfl
 have l:∀x,Wh e=wc x->YF e=wf:=λx h=>by have⟨p,rfl⟩:=BU h;rfl
 have u:∀x,Zr e=wc x->YF e=wf:=λx h=>by obtain rfl:=U3 h;rfl
 have w:∀x,asLC e=wc x->YF e=wf:=λx h=>by have⟨p,rfl⟩:=IJ h;rfl
 have y:∀x,Vs e=wc x->YF e=wf:=λx h=>by obtain rfl:=Ad h;rfl
 cases j<;>first|erw[nob h]|erw[go h d]|erw[go h c]|erw[go h f]|erw[go h q]|erw[go h r]|erw[go h L]|erw[go h O]|erw[go h P]|erw[go h R]|erw[go h T]|erw[go h l]|erw[go h u]|erw[go h w]|erw[go h y]
def Yt:∀{u:IE} {w:Scope} {N:List Str} {e:Expr} {l:List Expr} {j:Env},chkE G u w N e=wf->Xx (e::l) j=(wg,eval e j)::Xx l j:=by
 intro u w N e l j h;cases e<;>first|rfl|cases _fK h
theorem Uy:∀{w:IEs} {y:Scope} {N:List Str} {u:List Expr} {j:Env} {l:Pos},chkEs G w y N u=wf->(Xx u j).all (λx=>!x.1)=wf
 |.nil,y,N,u,_,_,h=>by
  cases YE h
  rfl
 |.cons e u,y,N,xs,j,l,h=>by
  replace h:=Xf h;have⟨q,m,z⟩:=h;cases Uw m;rw[XQ]at z;rw[Yt z.1,Vf];erw[Uy (l:=l) z.2]
def _j8:∀{j:IE} {l:Scope} {N:List Str} {x:Str} {u p:Pos} {w:List Za},chkE G j l N (.Call (.Name x u) [] w p)=wf->False:=by
 intro j l N x u p w h;revert h;cases j<;>erw[nob]
set_option tactic.hygienic true in
def Af{u:IE}{w:Scope}{N:List Str}{o:Expr}{nm:Str}{j:Env}(h:chkE G u w N o=wf):UI o nm j (eval o j)=eval o j:=by
 cases o<;>try rfl
 rename_i y l m z
 cases y<;>try rfl
 cases l with
 |cons a r=>rfl
 |nil=>erw[(_j8 h).elim]
def UT{j:Pos}{l:List (Bool×Sem X0)}(h:l.all (λx=>!x.1)=wf):(Y0 j l).all (λx=>!x.1)=wf/\(Y0 j l).any (·.1)=wg:=by
 induction l with
 |nil=>erw[⟨rfl,rfl⟩]
 |cons a r y=>
  rw[Vf,XQ]at h;have⟨u,w⟩:=y h.2;have e:a.1=wg:=by simpa using h.1
  unfold Y0 at u w ⊢;rw[Xt,Vf,ZW,u,w];have⟨b,t⟩:=a;cases e;erw[⟨rfl,rfl⟩]
end
def tCW2(own:List Str)(fr:List Nat)(g:TG)(e:TT)(L:TE)(z:St)(O:Hp)(Q:VK)(J:It)(D:Addr):Prop:=∃W:Nat->Nat->List V->Hp->Prop,
 (∃m,W 0 m [] (upd O D (.lst [])))/\∀i m d l,W i m d l->
  ((J.stop i l/\Q (.ref D) l)\/(J.go i l/\∃N:List V->Hp->Prop,(∀u c,N u c->∃f,f<m/\W (i+1) f u c)/\∀x q,J.yld i l x q->g x (sC own fr z) q λj P=>Keep (sC own fr z) j/\e j P λb r=>
   if b=wf then L j r λy p=>∃w,p D=wc (.lst w)/\w.length<sizeLine/\N (w++[y]) (upd p D (.lst (w++[y])))else N d r))
def DP(own:List Str)(fr:List Nat)(u:TI)(g:TG)(w:TT)(y:TE):TE:=λj H Q=>u j H λJ l=>∀D,l D=we->tCW2 own fr g w y j l Q J D
section
variable{X:Cx}{pq:List (Addr×Obj)}{σ:St}{H1:Hp}{s2:X2}{tg elt iter:Expr}{ifs:List Expr}{scope:Scope}{pos:Pos}{own:List Str}{fr:List Nat}{g:TG}{tt:TT}{te:TE}
def IM{J:It}{j:List Addr}{it:Addr}{H:Nat->Heap->Prop}{RR:X0->Addr->Result->X2->Prop}{Q:VK}{E:X0->X2->Prop}(hc:X.calm=wf)(ok:CompOk X.env.scope scope X.N fr)
  (hg:∀C j f L,PG (cxC X scope own fr C j f L) tg g)(ht:∀C j f L,PTs (cxC X scope own fr C j f L) ifs tt)(he:∀C j f L,PE (cxC X scope own fr C j f L) elt te)
  (I2:Inv X pq σ H1 s2)(T:Turn X.prog X.w X.K tg J j it H)(st:H 0 s2.heap)(A:∀b∈j,FpOk X pq H1 b)
  (h:∀D,H1 D=we->tCW2 own fr g tt te σ H1 Q J D)
  (hRR:∀D C w s',Inv X pq σ w s'->(∃m,s'.heap.Ns C m)->w C=we->C≠X.env.locals->X.s₀.heap.objs.size<=C->(∀x c,X.env.cells.lookup x=wc c->c≠C)->(∀p∈X.pn++pq,p.1≠C)->Q (.ref D) w->RR (.ref D) C (.ok .next) s'):
  X3 (X8 X.prog X.w) X.A (newList []) (λacc f=>X3 (X8 X.prog X.w) X.A (newFunctionEnv scope X.env.globals (clOf X.env.cells scope.names []) [] X.env.qual we .none (wc X.env)) (λF R=>
   YJ (X8 X.prog X.w) X.A (.compStart (.ListComp elt [⟨tg,iter,ifs,0⟩] scope pos) 0 (.ref it) acc {F with scope:=relabel scope X.env}) (RR acc F.locals) R) E f) E s2:=by
 have hD:H1 s2.heap.objs.size=we:=I2.hok.fresh (X9 _);have⟨W,⟨m0,w0⟩,step⟩:=h _ hD;erw[ZU (wpAny_newFunctionEnv ok.nocell (by intro y hy;simp at hy) (λh4 s a=>?_) ok.kind)]
 dsimp only at s a ⊢;have I3:Inv X pq σ (upd H1 s2.heap.objs.size (.lst [])) {s2 with heap:=s2.heap.push {cls:=.type "list",dict:=we,data:=.seq ([]:List X0).toArray},toks:=s2.toks}:=
  I2.laid (λb u e=>Xu _ e) (X9 _) ⟨YB _,[],0,.nil,XO _ rfl⟩
 have fpo:∀b∈j,∃o,s2.heap.get? b=wc o:=λb l=>by have⟨o,e,_⟩:=T.obj 0 _ st b l;erw[⟨o,e⟩]
 have fpD:∀b∈j,b≠s2.heap.objs.size:=λb l=>by have⟨o,e⟩:=fpo b l;erw[XG (Xw e)]
 have hf3:∀b∈j,FpOk X pq (upd H1 s2.heap.objs.size (.lst [])) b:=λb l=>⟨by rw[XE (fpD b l)];erw[(A b l).1],(A b l).2⟩
 generalize hs3:({s2 with heap:=s2.heap.push {cls:=.type "list",dict:=we,data:=.seq ([]:List X0).toArray},toks:=s2.toks}:X2)=s3 at*;have e3:s2.heap.push {cls:=.type "list",dict:=we,data:=.seq ([]:List X0).toArray}=s3.heap:=by rw[<-hs3]
 rw[e3]at s a ⊢;have kp:∀b o,s3.heap.get? b=wc o->h4.get? b=wc o:=λb o e=>(a.2 b (XG (Xw e))).trans (Xu _ e);have G:∀b∈j,∃o,s3.heap.get? b=wc o:=λb l=>let⟨o,e⟩:=fpo b l;⟨o,by rw[<-e3];erw[Xu _ e]⟩
 have I4:=TC (own:=own) (scope:=scope) (fr:=fr) (tk:=s2.toks+0) ok I3 rfl hf3 G s kp;have st4:H 0 h4:=T.keep _ _ _ st λb l o e=>kp b o (by rw[<-e3];erw[Xu _ e])
 have fpC:∀b∈j,b≠s3.heap.objs.size:=λb l=>by have⟨o,e⟩:=G b l;erw[XG (Xw e)]
 have U:∀{w:Hp},(∀b∈j,w b=we)->∀b∈j,FpOk (cxC X scope own fr s3.heap.objs.size j s3 (upd H1 s2.heap.objs.size (.lst []))) pq w b:=λhn b l=>by
  erw[⟨hn b l,fpC b l,λz=>?_,.inl l,λx c e=>?_,(A b l).2.2.2.2.2⟩]
  .rcases Xj.mp (I3.stkSub b z)with z|z
   .erw[(A b l).2.1 z]
   .erw[(A b l).2.2.1 z]
  .erw[(A b l).2.2.2.2.1 x c ((WW _ _ _ _ _ e).elim (λz=>by simp at z) id)]
 have I:YJ (X8 X.prog X.w) X.A (.compLoop (.ListComp elt [⟨tg,iter,ifs,0⟩] scope pos) 0 (.ref it) (.ref s2.heap.objs.size) (compEnvC scope (clOf X.env.cells scope.names []) s3.heap.objs.size X.env))
   (RR (.ref s2.heap.objs.size) s3.heap.objs.size) {s3 with heap:=h4,toks:=s2.toks+0}:=by
  erw[Tz (λn s'=>∃i B w,Inv (cxC X scope own fr s3.heap.objs.size j s3 (upd H1 s2.heap.objs.size (.lst []))) pq (sC own fr σ) w s'/\H i s'.heap/\(∀b∈j,w b=we)/\W i n B w) ?_ m0
   ⟨0,[],_,I4,st4,λb l=>(hf3 b l).1,w0⟩]
  rintro n s5 ⟨i,B,H5,I5,st5,fr5,w5⟩;have way:=step i n B H5 w5;rcases way with⟨stop,q⟩|⟨go,N,hN,turn⟩
  .erw[thn (T.done (cxC X scope own fr s3.heap.objs.size j s3 (upd H1 s2.heap.objs.size (.lst []))) rfl rfl rfl hc i pq s5 _ H5 _ I5 (U fr5) st5 stop) λr s6 Y=>?_];have⟨hr,I6⟩:=Y;subst hr;have J6:Inv X pq σ H5 s6:=I3.call' I6.os I6.base I6.hok I6.bare λb l=>⟨(A b l).2.2.2.1,(A b l).2.1,(A b l).2.2.2.2.1,(A b l).2.2.2.2.2⟩;have⟨m6,ns6,_⟩:=I6.loc;erw[hRR _ _ H5 s6 J6 ⟨m6,ns6⟩ I6.free (Bc I3.lt) I3.sz (λx c e=>?_) (λp hp=>?_) q]
   .have⟨v,z⟩:=I3.cell x c e;erw[XG z.lt]
   .erw[XG (Xw (I3.pin p hp).1)]
  .erw[thn (T.item (cxC X scope own fr s3.heap.objs.size j s3 (upd H1 s2.heap.objs.size (.lst []))) rfl rfl rfl hc i pq s5 _ H5 _ I5 (U fr5) st5 go) λr s6 Y=>?_];have⟨u,hr,h6⟩:=Y;subst hr;erw[thn h6 λ_ s7 Y=>?_];have⟨x,H7,I7,r7,y7,st7,fr7⟩:=Y;have I7':=I7.pinned (U fr7) (T.obj _ _ st7);erw[thn (hg _ _ _ _ _ s7 _ H7 x u _ I7' r7 (turn x H7 y7)) λ_ s8 Y=>?_];have⟨O,H8,I8,kp8,q8⟩:=Y;have again:∀{Z:Hp} {P:X2},Inv (cxC X scope own fr s3.heap.objs.size j s3 (upd H1 s2.heap.objs.size (.lst []))) (pq++W3 j s7.heap) O Z P->∀{ys'},(∃m',m'<n/\W (i+1) m' ys' Z)->
     ∃m,m<n/\∃i B w,Inv (cxC X scope own fr s3.heap.objs.size j s3 (upd H1 s2.heap.objs.size (.lst []))) pq (sC own fr σ) w P/\H i P.heap/\(∀b∈j,w b=we)/\W i m B w:=fun{Z P} M {ys'} ⟨m',hm,w9⟩=>by
    erw[⟨m',hm,i+1,ys',Z,(M.unpinned).weak kp8.1 kp8.2,T.keep _ _ _ st7 λb l o e=>(M.pin (b,o) (ZB _ (ZB _ (BE l e)))).1,λb l=>?_,w9⟩];have⟨o,e,d⟩:=T.obj _ _ st7 b l;erw[(M.pin (b,o) (ZB _ (ZB _ (BE l e)))).2.1]
   have fin:∀{ok:Bool} {P:X2} {Z:Hp},Inv (cxC X scope own fr s3.heap.objs.size j s3 (upd H1 s2.heap.objs.size (.lst []))) (pq++W3 j s7.heap) O Z P->
     (if ok=wf then te O Z λy H6=>∃zs,H6 s2.heap.objs.size=wc (.lst zs)/\zs.length<sizeLine/\N (zs++[y]) (upd H6 s2.heap.objs.size (.lst (zs++[y])))else N B Z)->
     (if ok=wf then X3 (X8 X.prog X.w) X.A (eval elt (compEnvC scope (clOf X.env.cells scope.names []) s3.heap.objs.size X.env)) (λx R=>
      X3 (X8 X.prog X.w) X.A (call (.builtin "list.append") [.ref s2.heap.objs.size,x]) (fun _ S=>∃m,m<n/\∃i B w,Inv (cxC X scope own fr s3.heap.objs.size j s3 (upd H1 s2.heap.objs.size (.lst []))) pq (sC own fr σ) w S/\H i S.heap/\(∀b∈j,w b=we)/\W i m B w) (fun _ _=>False) R) (fun _ _=>False) P
      else∃m,m<n/\∃i B w,Inv (cxC X scope own fr s3.heap.objs.size j s3 (upd H1 s2.heap.objs.size (.lst []))) pq (sC own fr σ) w P/\H i P.heap/\(∀b∈j,w b=we)/\W i m B w):=fun{ok P Z} M q9=>by
    cases ok with
    |false=>
     rw[if_neg XD]at q9 ⊢;erw[again M (hN _ _ q9)]
    |true=>
     rw[if_pos rfl]at q9 ⊢;erw[thn (he _ _ _ _ _ P O Z _ M q9) λv s10 Y=>?_];have⟨y,H10,I10,r10,zs,hl10,hz5,w10⟩:=Y;erw[thn (Hj (X:=cxC X scope own fr s3.heap.objs.size j s3 (upd H1 s2.heap.objs.size (.lst []))) _ s10 O H10 (.ref s2.heap.objs.size) [y] (.ref s2.heap.objs.size) [v] (λ_ w=>w=upd H10 s2.heap.objs.size (.lst (zs++[y]))) I10 rfl (.cons r10 .nil) ⟨_,zs,y,rfl,rfl,hl10,hz5,rfl⟩) λ_ s11 Y=>?_];have⟨_,H11,I11,_,e11⟩:=Y;subst e11;erw[again I11 (hN _ _ w10)]
   rcases ht s3.heap.objs.size j s3 (upd H1 s2.heap.objs.size (.lst []))with⟨e,et⟩|⟨c,e,hcT⟩
   .subst e et;erw[wpAny_tests_nil (fin (ok:=wf) I8 q8)]
   .subst e;erw[wpAny_tests_one (thn (hcT _ s8 O H8 _ I8 q8) λb P ⟨Z,M,q9⟩=>fin M q9)]
 subst hs3;erw[codeAny_compStart_list I (T.self _ 0 _ _ _ st4 I)]
def _iY(own:List Str)(fr:List Nat){c:TI}(hx:∀e s,¬X.xe e s)(f:X.calm=wf)(ok:W8 X.env.scope scope X.N own fr=wf)(r:PI X tg iter c)
  (p:∀C w j l,PG (cxC X scope own fr C w j l) tg g)(L:∀C w j l,PTs (cxC X scope own fr C w j l) ifs tt)(N:∀C w j l,PE (cxC X scope own fr C w j l) elt te)
  (O:∀x,AE iter X.env x=pure x:=by intro _;rfl):
  PE X (.ListComp elt [⟨tg,iter,ifs,0⟩] scope pos) (DP own fr c g tt te):=by
 have u:=W9 ok;intro pq s σ H Q I h;rw[eval_ListComp];erw[wpAny_comprehension_free (use:=we) (cl:=clOf X.env.cells scope.names []) rfl O (Hu λy P U=>I.ok.has y.1 (u.has y P U)) u.kind u.names (thn (r pq s σ H _ I h) λv s1 W=>thn W λY s2 Z=>?_)];have⟨it,w,tn,J,H2,e,A,T,z,B,R⟩:=Z;subst e;erw[IM (RR:=λd C=>compPost (X8 X.prog X.w) X.A X.xe we (EP X pq σ Q) d C) (Q:=Q) f u p L N A T z B R ?_];rintro D C E F G ⟨m,M⟩ S i n a c5 q;erw[⟨m,M,λh' sb=>⟨.ref D,E,?_,rfl,q⟩⟩];erw[G.turned (g:=F.toks) (λb o hb e=>(sb.2 b hb).trans e) S i (.inr n) a c5]
def _dt(own:List Str)(fr:List Nat){i:Nat}{y:Str}{c d:Pos}{F:TI}(S:X.N.Nodup)(n:X.N[i]?=wc y)(p:Loc X.env.scope y)(hx:∀e s,¬X.xe e s)(hc:X.calm=wf)(ok:W8 X.env.scope scope X.N own fr=wf)(L:PI X tg iter F)
  (hg:∀C f j l,PG (cxC X scope own fr C f j l) tg g)(ht:∀C f j l,PTs (cxC X scope own fr C f j l) ifs tt)(he:∀C f j l,PE (cxC X scope own fr C f j l) elt te)
  (N:ZS (.ListComp elt [⟨tg,iter,ifs,0⟩] scope pos) (wc (.Name y c)) d.line X.env=pure wf:=by rfl)(hs:∀x,AE iter X.env x=pure x:=by intro _;rfl)
  (hf:X.fn y=wf\/X.env.scope.names.lookup y=wc .local:=by first|erw[.inl rfl]|erw[.inr rfl]|assumption):
  PS X (.Assign [.Name y c] (.ListComp elt [⟨tg,iter,ifs,0⟩] scope pos) d) (tAsg (DP own fr F g tt te) (BD i)):=by
 have w:=W9 ok;intro pq s σ H D I h;rw[exec_Assign_Name_used _ _ _ _ N];erw[X1 (wpAny_standAt (X1 ?_))];show X3 _ X.A (do let _<- comprehension (.ListComp elt [⟨tg,iter,ifs,0⟩] scope pos) scope X.env _ (newList []) wg (eval iter X.env) (wc (assign (.Name y c) X.env))) _ _ s
 erw[X1 (ZR (wpAny_comprehension_free (use:=wc (assign (.Name y c) X.env)) (cl:=clOf X.env.cells scope.names []) (Q:=λ_ r=>SP X pq D .next r) rfl hs (Hu λy p hk=>I.ok.has y.1 (w.has y p hk)) w.kind w.names
  (thn (L pq s σ H _ I h) λv s1 h1=>thn h1 λitv s2 h2=>?_)) (λ_ r hq=>Xa (Xa hq)) λ_ _ e=>e)]
 have⟨it,f,tn,J,H2,e,I2,T,O,f2,R⟩:=h2;subst e;erw[IM (RR:=λP C=>compPost (X8 X.prog X.w) X.A X.xe (wc (assign (.Name y c) X.env)) (λ_ r=>SP X pq D .next r) P C) (Q:=λv U=>D.nx (σ.set i (wc v)) U) hc w hg ht he I2 T O f2 R ?_];rintro E C U r I' ⟨m,ns⟩ c1 G c3 M c5 q;show X3 _ X.A (assign (.Name y c) X.env (.ref E)) _ _ _;erw[wpAny_assign_Name (Gu I' S n p (v:=.ref E) (u:=.ref E) rfl (λW Y Z=>?_) hf)];have⟨a,Z,ha⟩:=Z;have A:C≠a:=by
  rcases ha with z|z
  .rw[z];erw[G]
  .erw[λe=>M _ _ z e.symm]
 erw[⟨m,ns.sameBut Z A,λh' B=>⟨_,U,?_,q⟩⟩];erw[Y.turned (g:=W.toks) (λb o hb e=>(B.2 b hb).trans e) c1 G (.inr c3) M c5]
end
def hide{G:Prop}(h:∀j:Prop,(G->j)->j):G:=h G id
section
variable{G:GI}{sc:Scope}{N:List Str}{e:Expr}
def Xg{a b:Bool}(h:(a&&b)=wf):a=wf/\b=wf:=by rwa [XQ]at h
def XI{p:Prop} [Decidable p] (h:decide p=wf):p:=of_decide_eq_true h
def not_of{b:Bool}(h:(!b)=wf):b=wg:=by cases b with|false=>rfl|true=>cases h
def _m2{i:Nat}(h:chkE G (.var i) sc N e=wf):∃x p,e=.Name x p/\N[i]?=wc x/\visB sc x=wf/\(x==("__debug__":Str))=wg/\(x==("__classdict__":Str))=wg:=by
 erw[hide λ_ k=>?_];replace h:=Xf h;have⟨x,j,h⟩:=h;have⟨p,rfl⟩:=_h j;replace h:=Xg h;have⟨h,l⟩:=h;replace h:=Xg h;have⟨h,u⟩:=h;replace h:=Xg h;have⟨w,y⟩:=h;erw[k ⟨x,p,rfl,XI w,y,not_of u,not_of l⟩]
def _mb{i:Int}(h:chkE G (.int i) sc N e=wf):∃k p,e=.Constant (.int i) k p:=by
 replace h:=Xf h;have⟨x,j,h⟩:=h;have⟨k,p,rfl⟩:=Wi j;erw[⟨k,p,by rw[XI h]⟩]
def _m4{i:Str}(h:chkE G (.str i) sc N e=wf):∃k p,e=.Constant (.str i) k p:=by
 replace h:=Xf h;have⟨x,j,h⟩:=h;have⟨k,p,rfl⟩:=Wi j;erw[⟨k,p,by rw[XI h]⟩]
def _oJ{i:Bool}(h:chkE G (.bl i) sc N e=wf):∃k p,e=.Constant (.bool i) k p:=by
 replace h:=Xf h;have⟨x,j,h⟩:=h;have⟨k,p,rfl⟩:=Wi j;erw[⟨k,p,by rw[XI h]⟩]
def _m7(h:chkE G .non sc N e=wf):∃k p,e=.Constant .none k p:=by
 replace h:=Xf h;have⟨x,j,h⟩:=h;have⟨k,p,rfl⟩:=Wi j;erw[⟨k,p,by rw[XI h]⟩]
def _md{x:Str}{i:Int}(h:chkE G (.glb x i) sc N e=wf):∃p,e=.Name x p/\G.gl.lookup x=wc i/\glB sc x=wf:=by
 erw[hide λ_ k=>?_];replace h:=Xf h;have⟨y,j,h⟩:=h;have⟨p,rfl⟩:=_h j;replace h:=Xg h;have⟨h,l⟩:=h;replace h:=Xg h;have⟨u,w⟩:=h;obtain rfl:=XI u;erw[k ⟨p,rfl,XI w,l⟩]
def _oE{c:Ty7}(h:chkE G (.ty c) sc N e=wf):∃p,e=.Name (c.name:Str) p/\c≠.none/\G.bl.contains (c.name:Str)=wf/\glB sc (c.name:Str)=wf:=by
 erw[hide λ_ k=>?_];replace h:=Xf h;have⟨y,j,h⟩:=h;have⟨p,rfl⟩:=_h j;replace h:=Xg h;have⟨h,l⟩:=h;replace h:=Xg h;have⟨h,u⟩:=h;replace h:=Xg h;have⟨w,z⟩:=h;obtain rfl:=XI w;erw[k ⟨p,rfl,XI z,u,l⟩]
def _mh{j:UH}{a b:IE}(h:chkE G (.bin j a b) sc N e=wf):∃l r p,e=.BinOp l j r p/\chkE G a sc N l=wf/\chkE G b sc N r=wf:=by
 erw[hide λ_ k=>?_];replace h:=Xf h;have⟨⟨l,o,r⟩,u,h⟩:=h;have⟨p,rfl⟩:=IG u;replace h:=Xg h;have⟨h,w⟩:=h;replace h:=Xg h;have⟨y,z⟩:=h;obtain rfl:=XI y;erw[k ⟨l,r,p,rfl,z,w⟩]
def _m8{a:IE}(h:chkE G (.neg a) sc N e=wf):∃l p,e=.UnaryOp .USub l p/\chkE G a sc N l=wf:=by
 erw[hide λ_ k=>?_];replace h:=Xf h;have⟨⟨o,l⟩,j,h⟩:=h;have⟨p,rfl⟩:=DL j;replace h:=Xg h;have⟨u,w⟩:=h;obtain rfl:=XI u;erw[k ⟨l,p,rfl,w⟩]
def _m6{a:IE}(h:chkE G (.not a) sc N e=wf):∃l p,e=.UnaryOp .Not l p/\chkE G a sc N l=wf:=by
 erw[hide λ_ k=>?_];replace h:=Xf h;have⟨⟨o,l⟩,j,h⟩:=h;have⟨p,rfl⟩:=DL j;replace h:=Xg h;have⟨u,w⟩:=h;obtain rfl:=XI u;erw[k ⟨l,p,rfl,w⟩]
def _mf{j:CmpOp}{a b:IE}(h:chkE G (.cmp j a b) sc N e=wf):∃l r p,e=.Compare l [j] [r] p/\chkE G a sc N l=wf/\chkE G b sc N r=wf/\behindInMarks j r=wg:=by
 erw[hide λ_ k=>?_];replace h:=Xf h;have⟨⟨l,os,c⟩,u,h⟩:=h;have⟨p,rfl⟩:=DN u;replace h:=Xf h;have⟨o,w,h⟩:=h;replace h:=Xf h;have⟨r,y,h⟩:=h;obtain rfl:=_i w;obtain rfl:=_i y;replace h:=Xg h;have⟨h,z⟩:=h;replace h:=Xg h;have⟨h,m⟩:=h;replace h:=Xg h;have⟨g,d⟩:=h;obtain rfl:=XI g;erw[k ⟨l,r,p,rfl,d,m,not_of z⟩]
def _mg{u j:CmpOp}{a b c:IE}(h:chkE G (.chn u j a b c) sc N e=wf):∃l m r p,e=.Compare l [u,j] [m,r] p/\chkE G a sc N l=wf/\chkE G b sc N m=wf/\chkE G c sc N r=wf/\lastMarks [u,j] [m,r]=wg:=by
 erw[hide λ_ k=>?_];replace h:=Xf h;have⟨⟨l,os,P⟩,w,h⟩:=h;have⟨p,rfl⟩:=DN w;replace h:=Xf h;have⟨⟨o,R⟩,y,h⟩:=h;replace h:=Xf h;have⟨⟨m,r⟩,z,h⟩:=h;obtain rfl:=IK y;obtain rfl:=IK z;replace h:=Xg h;have⟨h,g⟩:=h;replace h:=Xg h;have⟨h,d⟩:=h;replace h:=Xg h;have⟨h,f⟩:=h;replace h:=Xg h;have⟨h,q⟩:=h;replace h:=Xg h;have⟨L,O⟩:=h;obtain rfl:=XI L;obtain rfl:=XI O;erw[k ⟨l,m,r,p,rfl,q,f,d,not_of g⟩]
def _mi{a b:IE}(h:chkE G (.and a b) sc N e=wf):∃l r rest p,e=.BoolOp .And (l::r::rest) p/\chkE G a sc N l=wf/\((rest=[]/\chkE G b sc N r=wf)\/chkE G b sc N (.BoolOp .And (r::rest) p)=wf):=by
 replace h:=Xf h;have⟨⟨o,z,p⟩,w,h⟩:=h;obtain rfl:=DO w;replace h:=Xf h;have⟨⟨l,r,rest⟩,j,h⟩:=h;obtain rfl:=IL j;replace h:=Xg h;have⟨h,u⟩:=h;replace h:=Xg h;have⟨j,y⟩:=h;obtain rfl:=XI j;erw[⟨l,r,rest,p,rfl,y,?_⟩];cases rest with
 |nil=>erw[.inl ⟨rfl,u⟩]
 |cons _ _=>erw[.inr u]
def _oG{a b:IE}(h:chkE G (.or a b) sc N e=wf):∃l r rest p,e=.BoolOp .Or (l::r::rest) p/\chkE G a sc N l=wf/\((rest=[]/\chkE G b sc N r=wf)\/chkE G b sc N (.BoolOp .Or (r::rest) p)=wf):=by
 replace h:=Xf h;have⟨⟨o,z,p⟩,w,h⟩:=h;obtain rfl:=DO w;replace h:=Xf h;have⟨⟨l,r,rest⟩,j,h⟩:=h;obtain rfl:=IL j;replace h:=Xg h;have⟨h,u⟩:=h;replace h:=Xg h;have⟨j,y⟩:=h;obtain rfl:=XI j;erw[⟨l,r,rest,p,rfl,y,?_⟩];cases rest with
 |nil=>erw[.inl ⟨rfl,u⟩]
 |cons _ _=>erw[.inr u]
def _mc{a b c:IE}(h:chkE G (.ife c a b) sc N e=wf):∃t x y p,e=.IfExp t x y p/\tok c=wf/\chkE G c sc N t=wf/\chkE G a sc N x=wf/\chkE G b sc N y=wf:=by
 erw[hide λ_ k=>?_];replace h:=Xf h;have⟨⟨t,x,y⟩,j,h⟩:=h;have⟨p,rfl⟩:=IH j;replace h:=Xg h;have⟨h,l⟩:=h;replace h:=Xg h;have⟨h,u⟩:=h;replace h:=Xg h;have⟨w,z⟩:=h;erw[k ⟨t,x,y,p,rfl,w,z,u,l⟩]
def _m3{l:IEs}(h:chkE G (.tup l) sc N e=wf):∃j k p,e=.Tuple j k p/\chkEs G l sc N j=wf:=by
 replace h:=Xf h;have⟨j,u,h⟩:=h;have⟨k,p,rfl⟩:=BS u;erw[⟨j,k,p,rfl,h⟩]
def _ma{l:IEs}(h:chkE G (.lst l) sc N e=wf):∃j p,e=.List j p/\chkEs G l sc N j=wf:=by
 replace h:=Xf h;have⟨j,u,h⟩:=h;have⟨p,rfl⟩:=II u;erw[⟨j,p,rfl,h⟩]
def _oI{a b:IE}(h:chkE G (.ix a b) sc N e=wf):∃x y p,e=.Subscript x y p/\chkE G a sc N x=wf/\chkE G b sc N y=wf/\A8 y=wf:=by
 erw[hide λ_ k=>?_];replace h:=Xf h;have⟨⟨x,y⟩,j,h⟩:=h;have⟨p,rfl⟩:=BU j;replace h:=Xg h;have⟨h,l⟩:=h;replace h:=Xg h;have⟨u,w⟩:=h;erw[k ⟨x,y,p,rfl,u,w,l⟩]
def _oF{a:IE}{lo w:IO}(h:chkE G (.sl a lo w) sc N e=wf):∃x l u p j,e=.Subscript x (.Slice l u we j) p/\chkE G a sc N x=wf/\chkO G lo sc N l=wf/\chkO G w sc N u=wf:=by
 replace h:=Xf h;have⟨⟨x,y⟩,z,h⟩:=h;have⟨p,rfl⟩:=BU z;replace h:=Xf h;have⟨⟨l,u,st⟩,m,h⟩:=h;have⟨j,rfl⟩:=_mG m;replace h:=Xg h;have⟨h,g⟩:=h;replace h:=Xg h;have⟨h,d⟩:=h;replace h:=Xg h;have⟨c,f⟩:=h;cases st with
 |some _=>cases g
 |none=>erw[⟨x,l,u,p,j,rfl,c,f,d⟩]
def _jk{j:Nat}{a:IE}{y:IEs}(h:chkE G (.call j a y) sc N e=wf):∃f p x u w,e=.Call (.Name f p) (x::u) [] w/\G.fns[j]?=wc f/\glB sc f=wf/\chkE G a sc N x=wf/\chkEs G y sc N u=wf:=by
 erw[hide λ_ k=>?_];replace h:=Xf h;have⟨⟨f,l,P,w⟩,z,h⟩:=h;obtain rfl:=U3 z;replace h:=Xf h;have⟨g,m,h⟩:=h;have⟨p,rfl⟩:=_h m;replace h:=Xf h;have⟨⟨x,u⟩,d,h⟩:=h;obtain rfl:=Uw d;replace h:=Xg h;have⟨h,c⟩:=h;replace h:=Xg h;have⟨h,q⟩:=h;replace h:=Xg h;have⟨h,r⟩:=h;replace h:=Xg h;have⟨L,O⟩:=h;obtain rfl:=YE L;erw[k ⟨g,p,x,u,w,rfl,XI O,r,q,c⟩]
def _oK{f:BI}{a:IE}{w:IEs}(h:chkE G (.bi f a w) sc N e=wf):∃p x j u,e=.Call (.Name (f.name:Str) p) (x::j) [] u/\G.bl.contains (f.name:Str)=wf/\glB sc (f.name:Str)=wf/\chkE G a sc N x=wf/\chkEs G w sc N j=wf:=by
 erw[hide λ_ k=>?_];replace h:=Xf h;have⟨⟨P,l,R,u⟩,y,h⟩:=h;obtain rfl:=U3 y;replace h:=Xf h;have⟨g,z,h⟩:=h;have⟨p,rfl⟩:=_h z;replace h:=Xf h;have⟨⟨x,j⟩,m,h⟩:=h;obtain rfl:=Uw m;replace h:=Xg h;have⟨h,d⟩:=h;replace h:=Xg h;have⟨h,c⟩:=h;replace h:=Xg h;have⟨h,q⟩:=h;replace h:=Xg h;have⟨h,r⟩:=h;replace h:=Xg h;have⟨L,O⟩:=h;obtain rfl:=YE L;obtain rfl:=XI O;erw[k ⟨p,x,j,u,rfl,r,q,c,d⟩]
def _oL{f:B2}{a:IE}(h:chkE G (.b2 f a) sc N e=wf):∃p u x w j,e=.Call (.Name (f.out:Str) p) [.Call (.Name (f.inn:Str) u) [x] [] j] [] w/\G.bl.contains (f.out:Str)=wf/\G.bl.contains (f.inn:Str)=wf/\glB sc (f.out:Str)=wf/\glB sc (f.inn:Str)=wf/\chkE G a sc N x=wf:=by
 erw[hide λ_ k=>?_];replace h:=Xf h;have⟨⟨C,l,D,w⟩,z,h⟩:=h;obtain rfl:=U3 z;replace h:=Xf h;have⟨g,m,h⟩:=h;have⟨p,rfl⟩:=_h m;replace h:=Xf h;have⟨y,d,h⟩:=h;obtain rfl:=_i d;replace h:=Xf h;have⟨⟨c,E,q,j⟩,r,h⟩:=h;obtain rfl:=U3 r;replace h:=Xf h;have⟨k,L,h⟩:=h;have⟨u,rfl⟩:=_h L;replace h:=Xf h;have⟨x,O,h⟩:=h;obtain rfl:=_i O;simp only[XQ]at h;have⟨⟨⟨⟨⟨⟨⟨⟨P,R⟩,T⟩,U⟩,W⟩,Y⟩,Z⟩,A⟩,B⟩:=h;obtain rfl:=YE P;obtain rfl:=YE R;obtain rfl:=XI T;obtain rfl:=XI U;erw[k ⟨p,u,x,w,j,rfl,W,Y,Z,A,B⟩]
def _m9{a:IE}(h:chkE G (.mxd a) sc N e=wf):∃p x j u w y,e=.Call (.Name ("max":Str) p) [x] [⟨wc ("default":Str),.Constant (.int 0) j u,w⟩] y/\G.bl.contains ("max":Str)=wf/\glB sc ("max":Str)=wf/\chkE G a sc N x=wf:=by
 erw[hide λ_ k=>?_];replace h:=Xf h;have⟨⟨W,l,Y,y⟩,z,h⟩:=h;obtain rfl:=U3 z;replace h:=Xf h;have⟨g,m,h⟩:=h;have⟨p,rfl⟩:=_h m;replace h:=Xf h;have⟨x,d,h⟩:=h;obtain rfl:=_i d;replace h:=Xf h;have⟨⟨Z,A,w⟩,f,h⟩:=h;obtain rfl:=_i f;simp only[isDf,XQ]at h;have⟨⟨⟨⟨q,r,L⟩,O⟩,P⟩,R⟩:=h;obtain rfl:=XI q;obtain rfl:=XI r;have⟨c,T,U⟩:=Xf L;obtain rfl:=XI U;have⟨j,u,rfl⟩:=Wi T;erw[k ⟨p,x,j,u,w,y,rfl,O,P,R⟩]
def _oH{m:MT}{o:IE}{y:IEs}(h:chkE G (.mt m o y) sc N e=wf):∃l u j w,e=.Call (.Attribute l (m.name:Str) u) j [] w/\(u.endLine==w.line)=wf/\chkE G o sc N l=wf/\chkEs G y sc N j=wf/\j.length<20:=by
 erw[hide λ_ k=>?_];replace h:=Xf h;have⟨⟨L,j,O,w⟩,z,h⟩:=h;obtain rfl:=U3 z;replace h:=Xf h;have⟨⟨l,P,u⟩,g,h⟩:=h;obtain rfl:=Ad g;replace h:=Xg h;have⟨h,d⟩:=h;replace h:=Xg h;have⟨h,c⟩:=h;replace h:=Xg h;have⟨h,f⟩:=h;replace h:=Xg h;have⟨h,q⟩:=h;replace h:=Xg h;have⟨r,p⟩:=h;obtain rfl:=YE r;obtain rfl:=XI p;erw[k ⟨l,u,j,w,rfl,q,f,c,XI d⟩]
def IN{own:List Str}{fr:List Nat}{w:ISr}{g:ITg}{u:IO}{y:IE}(h:chkE G (.comp own fr w g u y) sc N e=wf):∃x t z l j p,e=.ListComp x [⟨t,z,l,0⟩] j p/\W8 sc j N own fr=wf/\A9 z=wf/\
  (nC own fr N).Nodup/\chkSr G w sc N z=wf/\Zs (Wf j sc) (nC own fr N) own.length wg g t=wf/\chkI G u (Wf j sc) (nC own fr N) l=wf/\chkE G y (Wf j sc) (nC own fr N) x=wf:=by
 replace h:=Xf h;have⟨⟨x,R,j⟩,d,h⟩:=h;have⟨p,rfl⟩:=IJ d;replace h:=Xf h;have⟨⟨t,z,l,k⟩,m,h⟩:=h;obtain rfl:=_i m;replace h:=Xg h;have⟨h,c⟩:=h;replace h:=Xg h;have⟨h,f⟩:=h;replace h:=Xg h;have⟨h,q⟩:=h;replace h:=Xg h;have⟨h,r⟩:=h;replace h:=Xg h;have⟨h,L⟩:=h;replace h:=Xg h;have⟨h,O⟩:=h;replace h:=Xg h;have⟨m,P⟩:=h;obtain rfl:=XI c;erw[⟨x,t,z,l,j,p,rfl,m,P,XI O,L,r,q,f⟩]
def _me{c f:Str}{o:IE}(h:chkE G (.fld c o f) sc N e=wf):∃j p,e=.Attribute j f p/\G.cls.contains (c,f)=wf/\chkE G o sc N j=wf:=by
 erw[hide λ_ k=>?_];replace h:=Xf h;have⟨⟨j,z,p⟩,l,h⟩:=h;obtain rfl:=Ad l;replace h:=Xg h;have⟨h,u⟩:=h;replace h:=Xg h;have⟨w,y⟩:=h;obtain rfl:=XI w;erw[k ⟨j,p,rfl,y,u⟩]
def _hn{j:Nat}{c m:Str}{o:IE}{z:IEs}(h:chkE G (.mcall j c m o z) sc N e=wf):∃u w l y,e=.Call (.Attribute u m w) l [] y/\G.mts.contains (j,c,m)=wf/\chkE G o sc N u=wf/\chkEs G z sc N l=wf/\(w.endLine==y.line)=wf/\l.length<20:=by
 erw[hide λ_ k=>?_];replace h:=Xf h;have⟨⟨R,l,T,y⟩,g,h⟩:=h;obtain rfl:=U3 g;replace h:=Xf h;have⟨⟨u,U,w⟩,d,h⟩:=h;obtain rfl:=Ad d;simp only[XQ]at h;have⟨⟨⟨⟨⟨⟨f,q⟩,r⟩,p⟩,L⟩,O⟩,P⟩:=h;obtain rfl:=YE f;obtain rfl:=XI q;erw[k ⟨u,w,l,y,rfl,r,p,L,O,XI P⟩]
def _jj{j:Nat}{c:Str}{a:IE}{y:IEs}(h:chkE G (.make j c a y) sc N e=wf):∃p x u w,e=.Call (.Name c p) (x::u) [] w/\G.mks.contains (j,c)=wf/\glB sc c=wf/\chkE G a sc N x=wf/\chkEs G y sc N u=wf:=by
 erw[hide λ_ k=>?_];replace h:=Xf h;have⟨⟨R,l,T,w⟩,z,h⟩:=h;obtain rfl:=U3 z;replace h:=Xf h;have⟨g,m,h⟩:=h;have⟨p,rfl⟩:=_h m;replace h:=Xf h;have⟨⟨x,u⟩,d,h⟩:=h;obtain rfl:=Uw d;simp only[XQ]at h;have⟨⟨⟨⟨⟨f,q⟩,r⟩,L⟩,O⟩,P⟩:=h;obtain rfl:=YE f;obtain rfl:=XI q;erw[k ⟨p,x,u,w,rfl,r,L,O,P⟩]
def _fv{j:List (Option Expr)}{l:List Expr}(h:Ae G .nil sc N j l=wf):j=[]/\l=[]:=by
 replace h:=Xg h;erw[⟨YE h.1,YE h.2⟩]
def _dR{k v:IE}{u:IPs}{w:List (Option Expr)}{z:List Expr}(h:Ae G (.cons k v u) sc N w z=wf):∃x j y l,w=wc x::j/\z=y::l/\chkE G k sc N x=wf/\chkE G v sc N y=wf/\Ae G u sc N j l=wf:=by
 erw[hide λ_ k=>?_];replace h:=Xf h;have⟨⟨o,j⟩,g,h⟩:=h;replace h:=Xf h;have⟨⟨y,l⟩,d,h⟩:=h;replace h:=Xf h;have⟨x,m,h⟩:=h;replace h:=Xg h;have⟨h,c⟩:=h;replace h:=Xg h;have⟨f,q⟩:=h;dsimp only at m;subst m;erw[k ⟨x,j,y,l,Uw g,Uw d,f,q,c⟩]
def DQ{l:List Expr}(h:chkEs G .nil sc N l=wf):l=[]:=by
 erw[YE h]
def DR{a:IE}{u:IEs}{l:List Expr}(h:chkEs G (.cons a u) sc N l=wf):∃x j,l=x::j/\chkE G a sc N x=wf/\chkEs G u sc N j=wf:=by
 replace h:=Xf h;have⟨⟨x,j⟩,w,h⟩:=h;erw[⟨x,j,Uw w,Xg h⟩]
def _fx(h:chkO G .none sc N o=wf):o=we:=by
 cases o with
 |none=>rfl
 |some _=>cases h
def _fw{a:IE}{o:Option Expr}(h:chkO G (.some a) sc N o=wf):∃x,o=wc x/\chkE G a sc N x=wf:=by
 erw[Xf h]
def _fz{l:List Expr}(h:chkI G .none sc N l=wf):l=[]:=by
 erw[YE h]
def _fy{a:IE}{l:List Expr}(h:chkI G (.some a) sc N l=wf):∃x,l=[x]/\tok a=wf/\chkE G a sc N x=wf:=by
 replace h:=Xf h;have⟨x,j,h⟩:=h;erw[⟨x,_i j,Xg h⟩]
def _m5{a:IE}(h:chkSr G (.rng a) sc N e=wf):∃p x j,e=.Call (.Name ("range":Str) p) [x] [] j/\G.bl.contains ("range":Str)=wf/\glB sc ("range":Str)=wf/\chkE G a sc N x=wf:=by
 erw[hide λ_ k=>?_];replace h:=Xf h;have⟨⟨q,l,r,j⟩,u,h⟩:=h;obtain rfl:=U3 u;replace h:=Xf h;have⟨g,w,h⟩:=h;have⟨p,rfl⟩:=_h w;replace h:=Xf h;have⟨x,y,h⟩:=h;obtain rfl:=_i y;replace h:=Xg h;have⟨h,z⟩:=h;replace h:=Xg h;have⟨h,m⟩:=h;replace h:=Xg h;have⟨h,d⟩:=h;replace h:=Xg h;have⟨c,f⟩:=h;obtain rfl:=YE c;obtain rfl:=XI f;erw[k ⟨p,x,j,rfl,d,m,z⟩]
def DS{j:Nat}{all:Bool}{i:Nat}(h:Zs sc N j all (.nm i) e=wf):∃x p,e=.Name x p/\N[i]?=wc x/\i<j/\(if all then locB sc x else decide (sc.names.lookup x=wc .local))=wf:=by
 erw[hide λ_ k=>?_];replace h:=Xf h;have⟨x,l,h⟩:=h;have⟨p,rfl⟩:=_h l;replace h:=Xg h;have⟨h,u⟩:=h;replace h:=Xg h;have⟨w,y⟩:=h;erw[k ⟨x,p,rfl,XI w,XI y,u⟩]
def DT{j:Nat}{all:Bool}{u:ITgs}(h:Zs sc N j all (.tup u) e=wf):∃l k p,e=.Tuple l k p/\chkTgs sc N j all u l=wf:=by
 replace h:=Xf h;have⟨l,w,h⟩:=h;have⟨k,p,rfl⟩:=BS w;erw[⟨l,k,p,rfl,h⟩]
def _dQ{j:Nat}{all:Bool}{l:List Expr}(h:chkTgs sc N j all .nil l=wf):l=[]:=by
 erw[YE h]
def IP{j:Nat}{all:Bool}{t:ITg}{w:ITgs}{l:List Expr}(h:chkTgs sc N j all (.cons t w) l=wf):∃x u,l=x::u/\Zs sc N j all t x=wf/\chkTgs sc N j all w u=wf:=by
 replace h:=Xf h;have⟨⟨x,u⟩,y,h⟩:=h;erw[⟨x,u,Uw y,Xg h⟩]
end
def liT(K:X4)(t:TEm):TT:=λu H Q=>∃j M,RS K H j u/\RH K M H/\t j M (λm w=>∃b,m=.bl b/\∀l,Kp H l->RH K w l->Q b l)
def liO(K:X4)(t:Sm->MH->(Option Int->MH->Prop)->Prop):TO:=λu H Q=>∃j M,RS K H j u/\RH K M H/\t j M (λo w=>∀l,Kp H l->RH K w l->Q o l)
section
variable{K:X4}
def DU{t:TEm}(m:MonE t){u:St}{H:Hp}{Q:Bool->Hp->Prop}(h:liT K t u H Q):liE K t u H λx w=>∃c,x=.bl c/\Q c w:=by
 have⟨j,M,y,z,h⟩:=h;erw[⟨j,M,y,z,m (λx M1 g=>?_) h⟩];have⟨b,e,d⟩:=g;subst e;intro v f q r l;obtain rfl:=r.inv;erw[⟨b,rfl,d f q l⟩]
def IQ{t:TEm}(m:MonE t){l:Sm}{M:MH}{H w:Hp}{Q:Bool->Hp->Prop}(k:Kp H w)(h:t l M λx u=>∃b,x=.bl b/\∀j,Kp H j->RH K u j->Q b j):
  t l M λx u=>∃b,x=.bl b/\∀j,Kp w j->RH K u j->Q b j:=
 m (λx u y=>by have⟨b,e,q⟩:=y;erw[⟨b,e,λj z=>q j (k.trans z)⟩]) h
def _lX{t:TAm}(d:MonE te)(mt:MonA t)(h:liA K (λl M Q=>te l M λv M1=>t l M1 λu M2=>Q (v::u) M2) l H Q):W5 (liE K te) (liA K t) l H Q:=by
 have⟨j,M,z,c,h⟩:=h;erw[⟨j,M,z,c,d (λx M1 f=>?_) h⟩];intro v L m q w;erw[⟨j,M1,z.mono m,w,mt (λN M2 r=>?_) f⟩];intro u p g e y;erw[r (v::u) p (m.trans g) (.cons (q.mono g) e) y]
end
def DV(X:Cx)(H:Hp):Src->It->Prop
 |.tup xs,J=>(∃a j,H a=wc (.tup j)/\RMs X.K H xs j/\J=Itt X.K a)\/∃a j,FrL X.K H a j/\RMs X.K H xs j/\J=Itl X.K a
 |.lst a _,J=>J=Itl X.K a
 |.rng lo n,J=>J=Itr lo n
 |.dic a o _,J=>J=Itd a o/\∀l u,X.H₀ a≠wc (.frz l u)
 |.str x,J=>J=Its x
def DW{X:Cx}{z H:Hp}{M:MH}{S:Src}{J:It}(s:DV X z S J)(j:RH X.K M H)(ok:S.okT M):∃l,Thw X H l/\Kp H l/\RH X.K (S.thaw M) l:=by
 cases S with
 |tup w=>erw[⟨H,.inl rfl,Kp.refl _,j⟩]
 |lst a w=>erw[⟨H,.inl rfl,Kp.refl _,j⟩]
 |rng a w=>erw[⟨H,.inl rfl,Kp.refl _,j⟩]
 |str x=>erw[⟨H,.inl rfl,Kp.refl _,j⟩]
 |dic a o u=>
  have⟨y,e,r,m⟩:=j.fdic ok;have k:=Kp.upd e rfl (.dK y);erw[⟨_,.inr ⟨a,o,.dK y,e,trivial,s.2,rfl⟩,k,j.put k (o:=.dic u) ⟨r.mono k,m⟩⟩]
def IR{M:MH}{S:Src}(ok:S.ok M):S.okT M:=by
 cases S<;>first|trivial|erw[ok]
theorem IT{K:X4}{k:Key}:∀{m:List (Key×MV)} {j:List (Key×V)} {i:Nat},RKs K H m j->j[i]?=wc (k,v)->∃x,m[i]?=wc (k,x)/\RM K H x v
 |_,_,_,.nil,h=>by cases h
 |_,_,0,.cons r _,h=>by cases h;erw[⟨_,rfl,r⟩]
 |_,_,i+1,.cons _ t,h=>IT (i:=i) t h
def IU{X:Cx}{q H:Hp}{M:MH}{S:Src}{J:It}(s:DV X q S J)(k:Kp q H)(L:RH X.K M H)(ok:S.ok M):
  (∀i,i<S.len->J.go i H/\∀x u,J.yld i H x u->u=H/\∃m,S.items[i]?=wc m/\RM X.K H m x)/\∀i,S.len<=i->J.stop i H:=by
 have w:∀{a:Addr} {g:List MV} {l:List V},SqL X.K H a l->RMs X.K H g l->(∀i,i<g.length->(Itl X.K a).go i H/\∀x u,(Itl X.K a).yld i H x u->u=H/\∃m,g[i]?=wc m/\RM X.K H m x)/\∀i,g.length<=i->(Itl X.K a).stop i H:=by
  intro a g l d r;erw[⟨λi j=>⟨⟨l,_,d,X6 (by rw[<-r.length];erw[j])⟩,λx u y=>?_⟩,λi j=>⟨l,d,by rw[<-r.length];erw[j]⟩⟩]
  erw[⟨y.1,r.get' (y.2 l d)⟩]
 cases S with
 |tup g=>
  rcases s with⟨a,l,h,r,rfl⟩|⟨a,l,h,r,rfl⟩
  .have h:=SqT.of (K:=X.K) (k _ _ h rfl);have r:=r.mono k;erw[⟨λi j=>⟨⟨l,_,h,X6 (by rw[<-r.length];erw[j])⟩,λx u y=>?_⟩,λi j=>⟨l,h,by rw[<-r.length];erw[j]⟩⟩]
   erw[⟨y.1,r.get' (y.2 l h)⟩]
  .erw[w (FrL.sq ?_) (r.mono k)];rcases h with⟨o,h⟩|h
   .erw[.inl ⟨o,k _ _ h rfl⟩]
   .erw[.inr h]
 |lst a g=>
  cases s;have⟨l,h,r⟩:=L.lst ok;erw[w (SqL.of h) r]
 |rng lo n=>
  cases s;erw[⟨λi j=>⟨j,λx u y=>⟨y.1,.int (lo+(i:Nat)),?_,?_⟩⟩,λi j=>j⟩]
  .show((Xq n).map _)[i]?=_;rw[Xe,X6 (by simpa using(show i<n from j))]
   simp
  .rw[y.2];erw[.int _]
 |str z=>
  cases s;erw[⟨λi j=>⟨j,λx u y=>?_⟩,λi j=>j⟩];have⟨e,c,O,rfl⟩:=y;erw[⟨e,.str ⟨#[c]⟩,?_,.str _⟩];show(z.cps.toList.map _)[i]?=_;rw[Xe,FP,O]
  rfl
 |dic a o f=>
  have⟨rfl,_⟩:=s;have⟨l,e,r,T⟩:=L.fdic ok;erw[⟨λi j=>⟨⟨l,e,by rw[<-r.length];erw[j]⟩,λx u y=>?_⟩,λi j=>⟨l,e,by rw[<-r.length];erw[j]⟩⟩]
  have⟨rfl,y⟩:=y;have⟨N,v,P,rfl⟩:=y l e;have⟨x,R,_⟩:=IT r P;erw[⟨rfl,kM N,?_,?_⟩]
  .show(f.map λp=>kM p.1)[i]?=_;rw[Xe,R];rfl
  .cases N with
   |inl i=>erw[.int i]
   |inr x=>erw[.str x]
def liSr(X:Cx)(t:TSm):TI:=λu H R=>∃j M,RS X.K H j u/\RH X.K M H/\t j M (λS w=>∀J l,Kp H l->RH X.K w l->DV X l S J->R J l)
section
variable{X:Cx}{tg:Expr}
def PI.weak{t:TI}(h:PI X tg e t)(i:∀j H R,t' j H R->t j H R):PI X tg e t':=λl s j H R I q=>h l s j H R I (i _ _ _ q)
end
mutual
def gOf(K:X4):ITg->TG
 |.nm i=>BD i
 |.tup ts=>gTup K (ITgs.len ts) (gsOf K ts)
def gsOf(K:X4):ITgs->TGs
 |.nil=>gNil
 |.cons t ts=>GA (gOf K t) (gsOf K ts)
def ITgs.len:ITgs->Nat
 |.nil=>0
 |.cons _ ts=>ts.len+1
end
mutual
theorem sTg{X:Cx}{lim:Nat}{all:Bool}(hc:X.calm=wf)(u:X.N.Nodup)(y:all=wf->∀x,X.fn x=wf):∀(t:ITg){e:Expr},Zs X.env.scope X.N lim all t e=wf->PG X e (gOf X.K t)
 |.nm i,e,h=>by
  have⟨x,p,rfl,w,z,j⟩:=DS h;cases all with
  |true=>
   rw[if_pos rfl]at j;erw[Gz u w (BV j) (.inl (y rfl _))]
  |false=>
   rw[if_neg XD,decide_eq_true_eq]at j;erw[Gz u w (.inl j) (.inr j)]
 |.tup m,e,h=>by
  have⟨es,k,p,rfl,h⟩:=DT h;have⟨w,z,j⟩:=sTgs hc u y m h;erw[Rw hc w z j]
theorem sTgs{all:Bool}(hc:X.calm=wf)(u:X.N.Nodup)(y:all=wf->∀x,X.fn x=wf):∀(t:ITgs){es:List Expr},chkTgs X.env.scope X.N lim all t es=wf->PGs X es (gsOf X.K t)/\(ZT es X.env).length=t.len/\(ZT es X.env).findIdx? (·.1)=we
 |.nil,l,h=>by
  cases _dQ h;rw[gsOf,ITgs.len];erw[⟨Ru,rfl,rfl⟩]
 |.cons t m,l,h=>by
  have⟨e,es,rfl,g,c⟩:=IP h;have⟨w,z,j⟩:=sTgs hc u y m c;have f:=sTg hc u y t g;have d:ZT (e::es) X.env=(wg,assign e X.env)::ZT es X.env:=by
   cases t with
   |nm i=>have⟨x,p,rfl,_⟩:=DS g;rfl
   |tup m=>have⟨x,k,p,rfl,_⟩:=DT g;rfl
  rw[gsOf,ITgs.len];erw[⟨Rv f w (by rw[d];rfl),by rw[d,Yj,z],?_⟩]
  rw[d,List.findIdx?_cons,if_neg XD,j]
  rfl
end
theorem RMs.len_tgs{K:X4}:∀{u:ITgs} {w:List MV} {l:Sm} {P:Sm->Prop},wTgs u w l P->w.length=u.len
 |.nil,w,l,P,h=>by rw[h.1,ITgs.len];rfl
 |.cons t u,w,l,P,h=>by
  have⟨v,r,rfl,h⟩:=h;rw[Yj,ITgs.len];have z:∀(t:ITg){v:MV} {l:Sm},wTg t v l (λj=>wTgs u r j P)->∃j,wTgs u r j P:=by
   have y:(∀(t:ITg){v:MV} {l:Sm} {P:Sm->Prop},wTg t v l P->∃j,P j)/\(∀(t:ITgs){v:List MV} {l:Sm} {P:Sm->Prop},wTgs t v l P->∃j,P j):=by
    erw[⟨λt=>?_,λt=>?_⟩]
    .erw[ITg.rec (motive_1:=λt=>∀{v:MV} {l:Sm} {P:Sm->Prop},wTg t v l P->∃j,P j) (motive_2:=λt=>∀{v:List MV} {l:Sm} {P:Sm->Prop},wTgs t v l P->∃j,P j)
      (λi v l P h=>⟨_,h⟩) (λu m v l P h=>by have⟨w,_,h⟩:=h;erw[m h])
      (fun{v l P} h=>⟨_,h.2⟩) (λt u g d v l P h=>by have⟨x,r,_,h⟩:=h;have⟨j,h⟩:=g h;erw[d h]) t]
    .erw[ITgs.rec (motive_1:=λt=>∀{v:MV} {l:Sm} {P:Sm->Prop},wTg t v l P->∃j,P j) (motive_2:=λt=>∀{v:List MV} {l:Sm} {P:Sm->Prop},wTgs t v l P->∃j,P j)
      (λi v l P h=>⟨_,h⟩) (λu m v l P h=>by have⟨w,_,h⟩:=h;erw[m h])
      (fun{v l P} h=>⟨_,h.2⟩) (λt u g d v l P h=>by have⟨x,r,_,h⟩:=h;have⟨j,h⟩:=g h;erw[d h]) t]
   erw[λt {v l} h=>y.1 t h]
  have⟨j,c⟩:=z t h;rw[RMs.len_tgs (K:=K) c]
mutual
theorem BW{K:X4}{H:Hp}{lim:Nat}{m:Scope}{N:List Str}{all:Bool}{Ψ:St->Prop}(y:∀u i v,i<lim->Ψ u->Ψ (u.set i (wc v))):∀(t:ITg){e:Expr} {mv:MV} {v:V} {l:Sm} {u:St} {P:Sm->Prop} {Q:St->Hp->Prop},Zs m N lim all t e=wf->
  RM K H mv v->RS K H l u->Ψ u->wTg t mv l P->(∀j w,P j->RS K H j w->Ψ w->Q w H)->gOf K t v u H Q
 |.nm i,e,mv,v,l,u,P,Q,hc,r,rs,ps,h,hq=>by
  have⟨x,p,rfl,_,L,_⟩:=DS hc;erw[hq _ _ h (rs.set r i) (y _ _ _ L ps)]
 |.tup ts,e,mv,v,l,u,P,Q,hc,r,rs,ps,h,hq=>by
  have⟨es,k,p,rfl,hc⟩:=DT hc;have⟨xs,rfl,h⟩:=h;have⟨_,_,rfl,O,q⟩:=r.inv;erw[⟨_,_,rfl,SqT.of O,by rw[<-q.length];erw[RMs.len_tgs (K:=K) h],tgs_ok y ts hc q rs ps h hq⟩]
theorem tgs_ok{K:X4}{H:Hp}{lim:Nat}{m:Scope}{N:List Str}{all:Bool}{Ψ:St->Prop}(y:∀u i v,i<lim->Ψ u->Ψ (u.set i (wc v))):∀(t:ITgs){es:List Expr} {z:List MV} {vs:List V} {l:Sm} {u:St} {P:Sm->Prop} {Q:St->Hp->Prop},chkTgs m N lim all t es=wf->
  RMs K H z vs->RS K H l u->Ψ u->wTgs t z l P->(∀j w,P j->RS K H j w->Ψ w->Q w H)->gsOf K t vs u H Q
 |.nil,es,z,vs,l,u,P,Q,hc,r,rs,ps,h,hq=>by
  have⟨rfl,h⟩:=h;obtain rfl:=r.inv;rw[gsOf];erw[⟨rfl,hq _ _ h rs ps⟩]
 |.cons t ts,es,z,vs,l,u,P,Q,hc,r,rs,ps,h,hq=>by
  have⟨e,es,rfl,g,d⟩:=IP hc;have⟨x,U,rfl,h⟩:=h;have⟨_,_,rfl,R,T⟩:=r.inv;rw[gsOf];erw[⟨_,_,rfl,BW y t g R rs ps h λj w h' c f=>tgs_ok y ts d T c f h' hq⟩]
end
def _pj{K:X4}{own:List Str}{fr:List Nat}(w:RS K H σm σ):RS K H (sCm own fr σm) (sC own fr σ):=by
 erw[⟨by simp[sCm,sC],λi m e=>?_⟩]
 unfold sCm at e;unfold sC;by_cases hi:i<own.length
 .rw[ZA (by simpa using hi),Xe]at e
  cases q:own[i]? with
  |none=>rw[q]at e;cases e
  |some z=>rw[q]at e;cases e
 .rw[Zn (by simpa using hi),X5,Xe]at e
  rw[Zn (by simpa using hi),X5,Xe]
  cases q:fr[i - own.length]? with
  |none=>rw[q]at e;cases e
  |some j=>
   rw[q]at e;have l:σm.getD j we=wc m:=Y4 e;have y:σm[j]?=wc (wc m):=by
    rw[Y1]at l;cases u:σm[j]? with
    |none=>rw[u]at l;cases l
    |some o=>rw[u]at l;rw[show o=wc m from l]
   have⟨v,g,r⟩:=w.2 j m y;erw[⟨v,?_,r⟩];show wc (σ.getD j we)=_;rw[Y1,g]
   rfl
def _jh{own:List Str}{fr:List Nat}(l:i<own.length)(k:Keep (sC own fr σ) σ'):Keep (sC own fr σ) (σ'.set i (wc v)):=by
 erw[⟨by rw[ZV];erw[k.1],λj w h=>?_⟩]
 by_cases hij:i=j
 .subst hij;exfalso;unfold sC at h;rw[ZA (by simpa using l),Xe]at h
  cases q:own[i]? with
  |none=>rw[q]at h;cases h
  |some z=>rw[q]at h;cases h
 .rw[Vc,if_neg hij];erw[k.2 j w h]
def _iR{y:Expr}(h:A8 y=wf):Ha y:=by
 intro o i;cases y<;>first|rfl|cases h
def DX{j:Expr}(h:A9 j=wf)(l:Env):∀x,AE j l x=pure x:=by
 intro x;cases j<;>first|rfl|cases h
def Cok.comp(c:Cok X G Φ){own:List Str}{fr:List Nat}(j:scope.kind=.function)(l:(nC own fr X.N).Nodup):Cok (cxC X scope own fr C fp s₃ H₃) G Φ:=
 ⟨c.room,c.calm,rfl,(by show(if scope.kind.isAnnotationScope then Gp else scope.kind)=.function;rw[j];rfl),l,c.bls,c.gls,c.fnn,c.mon,c.fns,c.mts,c.mks,c.cls⟩
def ttOf(K:X4)(j:List (Str×SpM)):IO->TT
 |.none=>tAll
 |.some e=>liT K (wE j e)
def IV{X:Cx}{p:List (Str×SpM)}(L:∀(j:Nat)f sp,p[j]?=wc (f,sp)->MonW sp){own:List Str} {fr:List Nat} {O:ISr} {tg:ITg} {u:IO} {w:IE} {sc:Scope} {N:List Str} {t:Expr}
  (h5:Zs sc N own.length wg tg t=wf){σ:St} {H:Hp} {Q:VK} (hw:liE X.K (wE p (.comp own fr O tg u w)) σ H Q):DP own fr (liSr X (wSr p O)) (gOf X.K tg) (ttOf X.K p u) (liE X.K (wE p w)) σ H (λv P=>∃Y,Thw X P Y/\Q v Y):=by
 have⟨σm,M,rs,rh,hw⟩:=hw;erw[⟨σm,M,rs,rh,mon_sr L O (λS M1 R=>?_) hw⟩];have⟨hz,q⟩:=R;intro J H1 k1 Z A D hD;have⟨Jm,j0,j1,j2,j3⟩:=q D (Z.free hD);erw[⟨λi m ys Y=>m=S.len - i/\i<=S.len/\Kp H1 Y/\∃l M2,RH X.K M2 Y/\Jm i l M2,⟨S.len,rfl,YB _,Kp.new hD _,[],_,Z.put (Kp.new hD (.lst [])) (o:=.lst []) RMs.nil,j0⟩,?_⟩];rintro i m ys Y ⟨rfl,hi,B,l,M2,g,hj⟩;have⟨d1,d2,d3⟩:=j1 i l M2 hj;have⟨C,T⟩:=IU A B g d3;by_cases hlt:i<S.len
 .have⟨go,yld⟩:=C i hlt;erw[.inr ⟨go,λys' P=>Kp H1 P/\∃l U,RH X.K U P/\Jm (i+1) l U,λys' P R=>by have⟨a,E,U,b,c⟩:=R;erw[⟨S.len - (i+1),by lia,rfl,hlt,a,E,U,b,c⟩],λx H3 y=>?_⟩]
  have⟨e3,m,hm,rm⟩:=yld x H3 y;subst e3;have ht:=j2 i m l M2 hm hj;erw[BW (Ψ:=Keep (sC own fr σ)) (lim:=own.length) (λF i v hi k=>_jh hi k) tg h5 rm (_pj (rs.mono (k1.trans B))) ⟨rfl,λ_ _ h=>h⟩ ht λz F hP G keep=>⟨keep,?_⟩];have r:∀{I:MH} {s:Hp},Kp H3 s->RH X.K I s->(wE p w z I λy M5=>M5 D=wc (.lst l)/\Jm (i+1) (l++[y]) (updM M5 D (.lst (l++[y]))))->
    liE X.K (wE p w) F s λy H6=>∃W,H6 D=wc (.lst W)/\W.length<sizeLine/\Kp H1 (upd H6 D (.lst (W++[y])))/\∃l U,RH X.K U (upd H6 D (.lst (W++[y])))/\Jm (i+1) l U:=fun{I s} n d q=>by
   erw[⟨z,I,G.mono n,d,Xc L w (λy M5 R=>?_) q⟩];have⟨hd,hj'⟩:=R;intro v H6 k6 r6 rh6;have⟨W,e,rz⟩:=rh6.lst hd;have ku:=Kp.upd e rfl (.lst (W++[v]));erw[⟨W,e,by rw[<-rz.length];lia,B.trans (n.trans (k6.trans ku)),_,_,rh6.put ku (o:=.lst (l++[y])) ((rz.append (.cons r6 .nil)).mono ku),hj'⟩]
  cases u with
  |none=>
   rw[wI]at hP;rw[if_pos rfl]at hP;rw[ttOf];erw[TB ?_];dsimp only;rw[if_pos rfl];erw[r (Kp.refl _) g hP]
  |some e=>
   erw[⟨z,M2,G,g,Xc L e (λv I R=>by have⟨b,eb,q⟩:=R;erw[⟨b,eb,λs n d=>YU (λq=>r n d q) (λq=>⟨B.trans n,_,_,d,q⟩) q⟩]) hP⟩]
 .erw[.inl ⟨T i (by lia),?_⟩]
  have e:i=S.len:=by lia
  subst e;have⟨P,th,k3,rh3⟩:=DW A g (IR d3);erw[⟨P,th,j3 l M2 hj _ _ (k1.trans (B.trans k3)) (.ref D) rh3⟩]
def IW{K:X4}{r:List (Str×SpM)}(l:∀(j:Nat)f Y,r[j]?=wc (f,Y)->MonW Y){P g:CmpOp} {a b d:IE} {Z:St} {H:Hp} {Q:VK} (hw:liE K (wE r (.chn P g a b d)) Z H Q):
  Dr (li2 K (wCmp P)) (li2 K (wCmp g)) (liE K (wE r a)) (liE K (wE r b)) (liE K (wE r d)) Z H Q:=by
 have⟨c,M,R,C,hw⟩:=hw;rw[IC]at hw;erw[⟨c,M,R,C,Xc l a (λx M1 D=>?_) hw⟩];intro v n L E T;erw[⟨c,M1,R.mono L,T,Xc l b (λy M2 F=>?_) D⟩];intro u h N A U;erw[⟨x,y,M2,E.mono N,A,U,Wc P (λz G I=>?_) F⟩];have⟨k,e,J⟩:=I;subst e;intro z H3 O S p;obtain rfl:=S.inv;erw[⟨k,rfl,YU (λq=>?_) (λq=>?_) J⟩]
 .erw[⟨c,G,R.mono (L.trans (N.trans O)),p,Xc l d (λw X o=>?_) q⟩];intro w' H4 B s W;erw[⟨y,w,X,A.mono (O.trans B),s,W,Wc g (λm M' i=>i.on (L.trans (N.trans (O.trans B)))) o⟩]
 .erw[q _ _ (L.trans (N.trans O)) (.bl _) p]
def IX{o:Expr}{m:Str}{w l:Pos}{u:List Expr}{j:Env}(y:UI o m j (eval o j)=eval o j)(z:methodCallForm (u.length+([]:List Za).length) (Y0 l (Xx u j)) (Ua l (Ub [] j))=wf)(g:(w.endLine==l.line)=wf):
  eval (.Call (.Attribute o m w) u [] l) j=(do
   let ov<- eval o j
   standAt w.atName
   let(f,first)<- Z9 [ov] (getMethod ov m (do return(<- importBound o j).getD wf))
   callWith l f first (Y0 l (Xx u j)) (Ua l (Ub [] j))):=by
 rw[arm_eval_Call,y];unfold methodCall calleeOf methodCallPos;rw[z,g];simp only[if_true,Bi,Df,pure_bind]
def trOf(K:X4)(j:List (Str×SpM)):IPs->List (TE×TE)
 |.nil=>[]
 |.cons k v r=>(liE K (wE j k),liE K (wE j v))::trOf K j r
noncomputable def aob:IE->Bool
 |.and ..=>wf
 |.or ..=>wf
 |_=>wg
structure Snd (X:Cx)(Φ:List (Str×SpM))(ie:IE)(e:Expr):Prop where
 pe:PE X e (liE X.K (wE Φ ie))
 pt:tok ie=wf->PT X e (liT X.K (wE Φ ie))
 pw:tok ie=wf->aob ie=wf->PW X e (liT X.K (wE Φ ie))
def Snd.plain(c:Cok X G Φ)(l:PE X e (liE X.K (wE Φ ie)))(u:∀j,isTrue e X.env j=(do let v<- j;standAt e.pos;Z9 [v] (truthy v)))(w:aob ie=wg):Snd X Φ ie e:=
 ⟨l,λ_=>(Re l u).weak λy H Q h=>DU (t:=wE Φ ie) (Xc c.mon ie) h,λ_ h=>by rw[w]at h;cases h⟩
def _oY(f:BI):(∃n,f.val=.builtin n)\/∃n,f.val=.type n:=by cases f<;>first|erw[.inl ⟨_,rfl⟩]|erw[.inr ⟨_,rfl⟩]
def IY{G:GI}{b:IE}{j:Scope}{N:List Str}{l:BoolOp}{u:List Expr}{p:Pos}(h:chkE G b j N (.BoolOp l u p)=wf):aob b=wf:=by revert h;cases b<;>first|erw[λ_=>rfl]|erw[nob]
mutual
theorem sE{G:GI}{Φ:List (Str×SpM)}:∀(ie:IE){X:Cx} {e:Expr},Cok X G Φ->chkE G ie X.env.scope X.N e=wf->Snd X Φ ie e
 |.var i,X,e,c,h=>by
  have⟨x,p,rfl,U,O,Z,S⟩:=_m2 h;erw[.plain c ?_ (λ_=>rfl) rfl];erw[(Gx U (_mY O) Z S).weak λY H Q hw=>?_];have⟨L,M,T,W,hw⟩:=hw;rw[IB]at hw;have⟨v,e,q⟩:=hw;have⟨u,hu,r⟩:=T.2 i v e;erw[⟨u,hu,q _ _ (Kp.refl _) r W⟩]
 |.int i,X,e,c,h=>by
  have⟨k,p,rfl⟩:=_mb h;erw[.plain c ?_ (λ_=>rfl) rfl];erw[pe_int.weak λY H Q hw=>?_];have⟨L,M,T,W,hw⟩:=hw;erw[hw _ _ (Kp.refl _) (.int i) W]
 |.str i,X,e,c,h=>by
  have⟨k,p,rfl⟩:=_m4 h;erw[.plain c ?_ (λ_=>rfl) rfl];erw[pe_str.weak λY H Q hw=>?_];have⟨L,M,T,W,hw⟩:=hw;erw[hw _ _ (Kp.refl _) (.str i) W]
 |.bl i,X,e,c,h=>by
  have⟨k,p,rfl⟩:=_oJ h;erw[.plain c ?_ (λ_=>rfl) rfl];erw[pe_bl.weak λY H Q hw=>?_];have⟨L,M,T,W,hw⟩:=hw;erw[hw _ _ (Kp.refl _) (.bl i) W]
 |.non,X,e,c,h=>by
  have⟨k,p,rfl⟩:=_m7 h;erw[.plain c ?_ (λ_=>rfl) rfl];erw[pe_non.weak λY H Q hw=>?_];have⟨L,M,T,W,hw⟩:=hw;erw[hw _ _ (Kp.refl _) .non W]
 |.glb x i,X,e,c,h=>by
  have⟨p,rfl,U,O⟩:=_md h;have⟨g1,g2,g3⟩:=Ux O;have⟨tk,hm⟩:=c.gls x i U;erw[.plain c ?_ (λ_=>rfl) rfl];erw[(Rb (v:=.int i) g1 hm ⟨tk,rfl⟩ g2).weak λY H Q hw=>?_];have⟨L,M,T,W,hw⟩:=hw;erw[hw _ _ (Kp.refl _) (.int i) W]
 |.ty t,X,e,c,h=>by
  have⟨p,rfl,h0,U,O⟩:=_oE h;have⟨g1,g2,g3⟩:=Ux O;erw[.plain c ?_ (λ_=>rfl) rfl];erw[(Rc (v:=.ty t.name) g1 (c.bls _ U) (_mA h0) rfl g3 g2).weak λY H Q hw=>?_];have⟨L,M,T,W,hw⟩:=hw;erw[hw _ _ (Kp.refl _) (.ty t) W]
 |.bin op a b,X,e,c,h=>by
  have⟨l,r,p,rfl,U,O⟩:=_mh h;erw[.plain c ?_ (λ_=>rfl) rfl];erw[(RJ (_oc op) (sE a c U).pe (sE b c O).pe).weak λY H Q hw=>?_];have:wE Φ (.bin op a b)=λY M Q=>wE Φ a Y M λx M1=>wE Φ b Y M1 λy M2=>wBin op x y M2 Q:=rfl;rw[this]at hw;erw[DF (z:=wE Φ a) (g:=wE Φ b) (w:=wBin op) (Xc c.mon a) (Xc c.mon b) (HY op) hw]
 |.neg a,X,e,c,h=>by
  have⟨l,p,rfl,U⟩:=_m8 h;erw[.plain c ?_ (λ_=>rfl) rfl];erw[(RK RW (sE a c U).pe).weak λY H Q hw=>?_];have⟨L,M,T,W,hw⟩:=hw;erw[⟨L,M,T,W,Xc c.mon a (λx M1 h'=>?_) hw⟩];have⟨i,e,q⟩:=h';subst e;intro v B P A N;obtain rfl:=A.inv;erw[⟨i,rfl,q _ _ P (.int _) N⟩]
 |.not a,X,e,c,h=>by
  have⟨l,p,rfl,U⟩:=_m6 h;have ih:=sE a c U;erw[⟨(Rk ih.pe).weak λY H Q hw=>?_,λht=>(Rf (ih.pt ht)).weak λY H Q hw=>?_,λ_ z=>by cases z⟩]
  .have⟨L,M,T,W,hw⟩:=hw;rw[DI]at hw;erw[⟨L,M,T,W,Xc c.mon a (λx M1 h'=>?_) hw⟩];have⟨i,e,q⟩:=h';subst e;intro v B P A N;obtain rfl:=A.inv;erw[⟨i,rfl,q _ _ P (.bl _) N⟩]
  .have⟨L,M,T,W,hw⟩:=hw;rw[DI]at hw;erw[⟨L,M,T,W,Xc c.mon a (λx M1 ⟨i,e,b,e2,q⟩=>⟨i,e,λH' k rh'=>?_⟩) hw⟩];cases e2;erw[q H' k rh']
 |.cmp op a b,X,e,c,h=>by
  have⟨l,r,p,rfl,U,O,Z⟩:=_mf h;have rd:∀Y H Q,liE X.K (wE Φ (.cmp op a b)) Y H Q->tOp (li2 X.K (wCmp op)) (liE X.K (wE Φ a)) (liE X.K (wE Φ b)) Y H Q:=λY H Q hw=>by
   have:wE Φ (.cmp op a b)=λY M Q=>wE Φ a Y M λx M1=>wE Φ b Y M1 λy M2=>wCmp op x y M2 Q:=rfl;rw[this]at hw;erw[DF (z:=wE Φ a) (g:=wE Φ b) (w:=wCmp op) (Xc c.mon a) (Xc c.mon b) (Wc op) hw]
  erw[⟨(S6 (Wd c.room op) (sE a c U).pe (sE b c O).pe Z).weak rd,λ_=>(S7 (Wd c.room op) (sE a c U).pe (sE b c O).pe Z).weak λY H Q hw=>?_,λ_ z=>by cases z⟩]
  erw[rd Y H _ (DU (t:=wE Φ (.cmp op a b)) (Xc c.mon _) hw)]
 |.chn op op' a b d,X,e,c,h=>by
  have⟨l,m,r,p,rfl,U,O,Z,S⟩:=_mg h;erw[⟨(S8 (Wd c.room op) (Wd c.room op') (sE a c U).pe (sE b c O).pe (sE d c Z).pe S).weak λY H Q hw=>IW c.mon hw,
   λ_=>(S9 (Wd c.room op) (Wd c.room op') (sE a c U).pe (sE b c O).pe (sE d c Z).pe S).weak λY H Q hw=>?_,λ_ z=>by cases z⟩]
  erw[IW c.mon (DU (t:=wE Φ (.chn op op' a b d)) (Xc c.mon _) hw)]
 |.and a b,X,e,c,h=>by
  have⟨l,r,rest,p,rfl,U,O⟩:=_mi h;have ih:=sE a c U;have hb:PE X (.BoolOp .And (r::rest) p) (liE X.K (wE Φ b)):=by
   rcases O with⟨rfl,O⟩|O
   .erw[Gy (sE b c O).pe]
   .erw[(sE b c O).pe]
  have hw':tok (.and a b)=wf->PW X (.BoolOp .And (l::r::rest) p) (liT X.K (wE Φ (.and a b))):=λht=>by
   have ht:(tok a&&tok b)=wf:=ht;rw[XQ]at ht;have hb2:PW X (.BoolOp .And (r::rest) p) (liT X.K (wE Φ b)):=by
    rcases O with⟨rfl,O⟩|O
    .erw[pw_and1 ((sE b c O).pt ht.2)]
    .erw[(sE b c O).pw ht.2 ?_];erw[IY O]
   erw[(pw_and (ih.pt ht.1) hb2).weak λY H Q hw=>?_];have⟨L,M,T,W,hw⟩:=hw;rw[DJ]at hw;erw[⟨L,M,T,W,Xc c.mon a (λx M1 ⟨k,e,q⟩=>⟨k,e,λB P N=>?_⟩) hw⟩];erw[YU (λq=>⟨L,M1,T.mono P,N,IQ (t:=wE Φ b) (Xc c.mon b) P q⟩) (λq=>by have⟨b,e,q⟩:=q;erw[MV.noConfusion e λeb=>eb▸q B P N]) q]
  erw[⟨(Ri ih.pe hb).weak λY H Q hw=>?_,λht=>(hw' ht).pt,λht _=>hw' ht⟩];have⟨L,M,T,W,hw⟩:=hw;rw[DJ]at hw;erw[⟨L,M,T,W,Xc c.mon a (λx M1 h'=>?_) hw⟩];have⟨k,e,q⟩:=h';subst e;intro v B P A N;obtain rfl:=A.inv;erw[⟨k,rfl,YU (λq=>⟨L,M1,T.mono P,N,Xc c.mon b (λm M' J=>J.on P) q⟩) (λq=>q _ _ P (.bl _) N) q⟩]
 |.or a b,X,e,c,h=>by
  have⟨l,r,rest,p,rfl,U,O⟩:=_oG h;have ih:=sE a c U;have hb:PE X (.BoolOp .Or (r::rest) p) (liE X.K (wE Φ b)):=by
   rcases O with⟨rfl,O⟩|O
   .erw[Gy (sE b c O).pe]
   .erw[(sE b c O).pe]
  have hw':tok (.or a b)=wf->PW X (.BoolOp .Or (l::r::rest) p) (liT X.K (wE Φ (.or a b))):=λht=>by
   have ht:(tok a&&tok b)=wf:=ht;rw[XQ]at ht;have hb2:PW X (.BoolOp .Or (r::rest) p) (liT X.K (wE Φ b)):=by
    rcases O with⟨rfl,O⟩|O
    .erw[pw_or1 ((sE b c O).pt ht.2)]
    .erw[(sE b c O).pw ht.2 ?_];erw[IY O]
   erw[(pw_or (ih.pt ht.1) hb2).weak λY H Q hw=>?_];have⟨L,M,T,W,hw⟩:=hw;rw[x_or]at hw;erw[⟨L,M,T,W,Xc c.mon a (λx M1 ⟨k,e,q⟩=>⟨k,e,λB P N=>?_⟩) hw⟩];erw[YU (λq=>by have⟨b,e,q⟩:=q;erw[MV.noConfusion e λeb=>eb▸q B P N]) (λq=>⟨L,M1,T.mono P,N,IQ (t:=wE Φ b) (Xc c.mon b) P q⟩) q]
  erw[⟨(Rj ih.pe hb).weak λY H Q hw=>?_,λht=>(hw' ht).pt,λht _=>hw' ht⟩];have⟨L,M,T,W,hw⟩:=hw;rw[x_or]at hw;erw[⟨L,M,T,W,Xc c.mon a (λx M1 h'=>?_) hw⟩];have⟨k,e,q⟩:=h';subst e;intro v B P A N;obtain rfl:=A.inv;erw[⟨k,rfl,YU (λq=>q _ _ P (.bl _) N) (λq=>⟨L,M1,T.mono P,N,Xc c.mon b (λm M' J=>J.on P) q⟩) q⟩]
 |.ife d a b,X,e,c,h=>by
  have⟨t,x,y,p,rfl,h0,U,O,Z⟩:=_mc h;erw[⟨(Rm ((sE d c U).pt h0) (sE a c O).pe (sE b c Z).pe).weak λY H Q hw=>?_,λz=>(by cases z),λz _=>(by cases z)⟩]
  have⟨L,M,T,W,hw⟩:=hw;rw[ID]at hw;erw[⟨L,M,T,W,Xc c.mon d (λx M1 ⟨k,e,q⟩=>⟨k,e,λB P N=>?_⟩) hw⟩];erw[YU (λq=>⟨L,M1,T.mono P,N,Xc c.mon a (λm M' J=>J.on P) q⟩) (λq=>⟨L,M1,T.mono P,N,Xc c.mon b (λm M' J=>J.on P) q⟩) q]
 |.tup es,X,e,c,h=>by
  have⟨xs,k,p,rfl,U⟩:=_m3 h;erw[.plain c ?_ (λ_=>rfl) rfl];erw[(Sx (sA es c U)).weak λY H Q hw=>?_];have⟨L,M,T,W,hw⟩:=hw;erw[⟨L,M,T,W,mon_es c.mon es (λms M1 h'=>?_) hw⟩];have⟨hz,q⟩:=h';intro vs B P A N;erw[⟨by rw[<-A.length];erw[hz],λp hp=>?_⟩]
  have D:=Kp.new hp (.tup vs);erw[q _ _ (P.trans D) (.tup _M (A.mono D)) (N.kept hp _)]
 |.lst es,X,e,c,h=>by
  have⟨xs,p,rfl,U⟩:=_ma h;erw[.plain c ?_ (λ_=>rfl) rfl];erw[(Sy (sA es c U)).weak λY H Q hw=>?_];have⟨L,M,T,W,hw⟩:=hw;erw[⟨L,M,T,W,mon_es c.mon es (λms M1 h'=>?_) hw⟩];have⟨hz,q⟩:=h';intro vs B P A N;erw[⟨by rw[<-A.length];erw[hz],λp hp=>?_⟩]
  have D:=Kp.new hp (.lst vs);erw[q p (N.free hp) _ _ (P.trans D) (.ref p) (N.put D (A.mono D))]
 |.dic,X,e,c,h=>absurd h XD
 |.ix a b,X,e,c,h=>by
  have⟨l,r,p,rfl,U,O,Z⟩:=_oI h;erw[.plain c ?_ (λ_=>rfl) rfl];erw[(T0 (_oB (by have:=c.room;lia)) (sE a c U).pe (sE b c O).pe (_iR Z)).weak λY H Q hw=>?_]
  have:wE Φ (.ix a b)=λY M Q=>wE Φ a Y M λx M1=>wE Φ b Y M1 λy M2=>wIx x y M2 Q:=rfl;rw[this]at hw;erw[DF (z:=wE Φ a) (g:=wE Φ b) (w:=wIx) (Xc c.mon a) (Xc c.mon b) Il hw]
 |.sl a lo hi,X,e,c,h=>by
  have⟨x,l,u,p,p2,rfl,U,O,Z⟩:=_oF h;erw[.plain c ?_ (λ_=>rfl) rfl];erw[(SW _n7 (sE a c U).pe (sO lo c O) (sO hi c Z)).weak λY H Q hw=>?_];have⟨L,M,T,W,hw⟩:=hw;erw[⟨L,M,T,W,Xc c.mon a (λx M1 q1=>?_) hw⟩];intro v B P A N;erw[⟨L,M1,T.mono P,N,mon_o c.mon lo (λl M2 q2=>?_) q1⟩];intro H2 D rh2;erw[⟨L,M2,T.mono (P.trans D),rh2,mon_o c.mon hi (λu M3 q3=>?_) q2⟩];intro H3 k3 rh3;erw[⟨x,M3,A.mono (D.trans k3),rh3,Io (λm M' J=>J.on (P.trans (D.trans k3))) q3⟩]
 |.call j a es,X,e,c,h=>by
  have⟨f,p,x,xs,p2,rfl,U,O,Z,S⟩:=_jk h;have⟨g1,g2,g3⟩:=Ux O;have⟨sp,hj⟩:=c.fnn j f U;have⟨k,fa,fd,ps,hr,F,hm,hk,hb⟩:=c.fns j f sp U hj;have ha:PA X (x::xs) (W5 (liE X.K (wE Φ a)) (liA X.K (wEs Φ es))):=W6 (sE a c Z).pe (sA es c S) (Yt Z);erw[.plain c ?_ (λ_=>rfl) rfl];erw[(SC (E:=E0) F hr g1 hm hk hb .nil BH ha g2 (Yt Z) (UT (Uy (l:=p2) S)).2).weak λY H Q hw=>?_];have⟨L,M,T,W,hw⟩:=hw;rw[IF]at hw;erw[⟨L,M,T,W,Xc c.mon a (λv M1 q1=>?_) hw⟩];intro u B P A N;erw[⟨L,M1,T.mono P,N,mon_es c.mon es (λvs M2 h'=>?_) q1⟩];have⟨f',sp',e,q2⟩:=h';rw[hj]at e;cases e;intro us H2 D r2 rh2;erw[⟨v::vs,M2,?_,rh2,c.mon j f sp hj (λm M' J=>J.on (P.trans D)) q2⟩];rw[Z3];erw[.cons (A.mono D) r2]
 |.bi f a es,X,e,c,h=>by
  have⟨p,x,xs,p2,rfl,U,O,Z,S⟩:=_oK h;have⟨g1,g2,g3⟩:=Ux O;have ha:PA X (x::xs) (W5 (liE X.K (wE Φ a)) (liA X.K (wEs Φ es))):=W6 (sE a c Z).pe (sA es c S) (Yt Z);have hv:=_mB f;have hcall:=_my (X:=X) c.calm f;have hp:PE X (.Call (.Name (f.name:Str) p) (x::xs) [] p2) (tCB (liW X.K (wBi f)) (W5 (liE X.K (wE Φ a)) (liA X.K (wEs Φ es)))):=by
   rcases _oY f with⟨n,hf⟩|⟨n,hf⟩<;>rw[hf]at hv hcall
   .erw[SJ hcall g1 (c.bls _ U) hv ha g3 g2 (Yt Z) (UT (Uy (l:=p2) S)).2]
   .erw[SK hcall g1 (c.bls _ U) hv ha g3 g2 (Yt Z) (UT (Uy (l:=p2) S)).2]
  erw[.plain c ?_ (λ_=>rfl) rfl];erw[hp.weak λY H Q hw=>?_];have⟨L,M,T,W,hw⟩:=hw;erw[⟨L,M,T,W,Xc c.mon a (λv M1 q1=>?_) hw⟩];intro u B P A N;erw[⟨L,M1,T.mono P,N,mon_es c.mon es (λvs M2 q2=>?_) q1⟩];intro us H2 D r2 rh2;erw[⟨v::vs,M2,.cons (A.mono D) r2,rh2,Iu f (λm M' J=>J.on (P.trans D)) q2⟩]
 |.b2 f a,X,e,c,h=>by
  have⟨p,p',x,p2,p2',rfl,U,O,Z,S,h5⟩:=_oL h;have⟨g1,g2,g3⟩:=Ux Z;have⟨P,D,k3⟩:=Ux S;have hv:YI (f.out:Str)=wc f.outV:=by cases f<;>decide+kernel
  have hv':YI (f.inn:Str)=wc (.type f.inn):=by cases f<;>decide+kernel
  have hp:PE X (.Call (.Name (f.out:Str) p) [.Call (.Name (f.inn:Str) p') [x] [] p2'] [] p2) (λY H Q=>liE X.K (wE Φ a) Y H λv B=>li1 X.K (wB2 f) v B Q):=by
   have hc:=_mz (X:=X) c.calm f;cases f with
   |lrng=>erw[_gK (p:=p) (L:=p') (l:=p2) (j:=p2') hc g1 (c.bls _ U) hv P (c.bls _ O) hv' (sE a c h5).pe g3 g2 k3 D (Yt h5)]
   |ssrt=>erw[DC (p:=p) (L:=p') (l:=p2) (j:=p2') hc g1 (c.bls _ U) hv P (c.bls _ O) hv' (sE a c h5).pe g3 g2 k3 D (Yt h5)]
   |lset=>erw[DC (p:=p) (L:=p') (l:=p2) (j:=p2') hc g1 (c.bls _ U) hv P (c.bls _ O) hv' (sE a c h5).pe g3 g2 k3 D (Yt h5)]
   |tset=>erw[DC (p:=p) (L:=p') (l:=p2) (j:=p2') hc g1 (c.bls _ U) hv P (c.bls _ O) hv' (sE a c h5).pe g3 g2 k3 D (Yt h5)]
  erw[.plain c ?_ (λ_=>rfl) rfl];erw[hp.weak λY H Q hw=>?_];have⟨L,M,T,W,hw⟩:=hw;erw[⟨L,M,T,W,Xc c.mon a (λv M1 q1=>?_) hw⟩];intro u B P A N;erw[⟨v,M1,A,N,Iw f (λm M' J=>J.on P) q1⟩]
 |.st3 a,X,e,c,h=>absurd h XD
 |.mxd a,X,e,c,h=>by
  have⟨p,x,k0,p0,kp,p2,rfl,U,O,Z⟩:=_m9 h;have⟨g1,g2,g3⟩:=Ux O;erw[.plain c ?_ (λ_=>rfl) rfl];erw[(_o0 c.calm g1 (c.bls _ U) (sE a c Z).pe pe_int (Yt Z)).weak λY H Q hw=>?_];have⟨L,M,T,W,hw⟩:=hw;erw[⟨L,M,T,W,Xc c.mon a (λv M1 q1=>?_) hw⟩];intro u B P A N;have⟨b,ns,rfl,hb,q⟩:=q1;obtain rfl:=A.inv;have⟨vs,e,q1⟩:=N.lst hb;have:=q1.ints_of;subst this;erw[⟨_,ns,rfl,SqL.of e,λm hm=>q m hm _ _ P (.int _) N⟩]
 |.mt m o es,X,e,c,h=>by
  have⟨ob,ap,args,cp,rfl,U,O,Z,S⟩:=_oH h;have slot:PySem.Slot m.ty (m.name:Str) m.id/\typeOf (.builtin m.id)=pure (.type "method_descriptor"):=by
   cases m
   .erw[⟨PySem.F.slot_list_append,PySem.F.type_list_append⟩]
   .erw[⟨PySem.F.slot_list_extend,PySem.F.type_list_extend⟩]
   .erw[⟨PySem.F.slot_list_remove,PySem.F.type_list_remove⟩]
  have plain:PlainAttrs m.ty:=by
   cases m<;>first|erw[PySem.F.plainAttrs_list]|erw[PySem.F.plainAttrs_dict]|erw[PySem.F.plainAttrs_str]
  have hu1:X.A.units+1<cLine:=by have:=c.room;lia
  have tyL:∀{B:Hp} {M1:MH} {mx:MV} {v:V},RH X.K M1 B->RM X.K B mx v->mtOk m mx M1->tyV X.K m.ty v B:=by
   intro B M1 mx v W r hm;cases m
   all_goals
    have⟨a,xs,rfl,hm⟩:=hm;obtain rfl:=r.inv;have⟨vs,e,_⟩:=W.lst hm;erw[.inl ⟨rfl,vs,SqL.of e⟩]
  erw[.plain c ?_ (λ_=>rfl) rfl];cases args with
  |nil=>
   erw[(Ta plain slot.1 slot.2 (Iy hu1 m) (sE o c O).pe (Af O) U).weak λY H Q hw=>?_];have⟨L,M,T,W,hw⟩:=hw;erw[⟨L,M,T,W,Xc c.mon o (λv M1 h'=>?_) hw⟩];have⟨q0,q1⟩:=h';intro u B P A N;cases es with
   |cons _ _=>erw[absurd Z XD]
   |nil=>
    erw[⟨tyL N A q0,v,[],M1,A,.nil,N,DH (λm M' J=>J.on P) q1⟩]
  |cons x xs=>
   cases es with
   |nil=>cases DQ Z
   |cons a es=>
    have h3':=Z;have⟨x',xs',e',Z⟩:=DR Z;cases e';have ha:=sA (.cons a es) c h3';have hall:=UT (j:=cp) (Uy (j:=X.env) (l:=cp) h3');erw[(Tb plain slot.1 slot.2 (Iy hu1 m) (sE o c O).pe ha (Af O) ?_ U (Yt Z.1) (UT (Uy (l:=cp) Z.2)).2).weak λY H Q hw=>?_]
    .rw[hall.1];simp only[Bj,XQ,decide_eq_true_eq];erw[⟨rfl,?_⟩];simp at S ⊢;lia
    have⟨L,M,T,W,hw⟩:=hw;erw[⟨L,M,T,W,Xc c.mon o (λv M1 h'=>?_) hw⟩];have⟨q0,q1⟩:=h';intro u B P A N;erw[⟨tyL N A q0,L,M1,T.mono P,N,mon_es c.mon (.cons a es) (λvs M2 q2=>?_) q1⟩];intro us H2 D r2 rh2;erw[⟨v,vs,M2,A.mono D,r2,rh2,DH (λm M' J=>J.on (P.trans D)) q2⟩]
 |.comp own fr src tg test elt,X,e,c,h=>by
  have⟨x,t,it,ifs,scope,p,rfl,U,O,Z,S,h5,h6,h7⟩:=IN h;erw[.plain c ?_ (λ_=>rfl) rfl];erw[(_iY own fr (g:=gOf X.K tg) (te:=liE X.K (wE Φ elt)) (λe s h=>by rw[c.nox]at h;erw[h]) c.calm U (sSr src (tg:=t) c S) (λC fp s₃ H₃=>sTg (X:=cxC X scope own fr C fp s₃ H₃) (lim:=own.length) (all:=wg) c.calm Z (λz=>by cases z) tg h5) (tt:=ttOf X.K Φ test) (λC fp s₃ H₃=>sI (X:=cxC X scope own fr C fp s₃ H₃) test (c.comp (W9 U).kind Z) h6)
   (λC fp s₃ H₃=>(sE (X:=cxC X scope own fr C fp s₃ H₃) elt (c.comp (W9 U).kind Z) h7).pe) (DX O _)).thaw.weak λY H Q hw=>?_]
  erw[IV c.mon h5 hw]
 |.fld cn o f,X,e,c,h=>by
  have⟨ob,p,rfl,U,O⟩:=_me h;have⟨C,hC,cl,na⟩:=c.cls cn f U;erw[.plain c ?_ (λ_=>rfl) rfl];erw[(Sq (sE o c O).pe (Af O)).weak λY H Q hw=>?_];have⟨L,M,T,W,hw⟩:=hw;erw[⟨L,M,T,W,Xc c.mon o (λv M1 h'=>?_) hw⟩];have⟨a,fs,y,e,e2,e3,q⟩:=h';subst e;intro u B P A N;obtain rfl:=A.inv;have⟨C',dx,vs,g1,g2,g3⟩:=N.ins e2;rw[hC]at g2;cases g2;rcases DE (f:=f) g3 with⟨z1,z2⟩|⟨x',u',z1,z2,r'⟩
  .rw[e3]at z1;cases z1
  .rw[e3]at z1;cases z1;erw[⟨a,C,dx,vs,u',rfl,g1,cl,na,z2,q _ _ P r' N⟩]
 |.mcall j cn m o es,X,e,c,h=>by
  have⟨ob,ap,args,cp,rfl,U,O,Z,h8,h9⟩:=_hn h;have hform:methodCallForm (args.length+([]:List Za).length) (Y0 cp (Xx args X.env)) (Ua cp (Ub [] X.env))=wf:=by
   unfold methodCallForm;have e0:Ua cp (Ub [] X.env)=[]:=rfl;rw[(UT (Uy (l:=cp) Z)).1,e0];simp only[Bj,XQ,decide_eq_true_eq];erw[⟨rfl,?_⟩];simp at h9 ⊢;lia
  have⟨fn,sp,hj,k,C,fa,fd,ps,hr,F,hC,cl,hm,hb⟩:=c.mts j cn m U;erw[.plain c ?_ (λ_=>rfl) rfl];cases args with
  |nil=>
   erw[(SE (E:=E0) (sE o c O).pe cl hm F hr hb .nil BH (IX (Af O) hform h8)).weak λY H Q hw=>?_];have⟨L,M,T,W,hw⟩:=hw;erw[⟨L,M,T,W,Xc c.mon o (λv M1 h'=>?_) hw⟩];have⟨a,fs,e,e2,e3,q⟩:=h';subst e;intro u B P A N;obtain rfl:=A.inv;have⟨C',dx,vs,g1,g2,g3⟩:=N.ins e2;rw[hC]at g2;cases g2;have hn:vs.lookup m=we:=by
    rcases DE (f:=m) g3 with⟨_,z2⟩|⟨x',u',z1,_⟩
    .erw[z2]
    .rw[e3]at z1;cases z1
   cases es with
   |cons _ _=>erw[absurd Z XD]
   |nil=>
    have⟨f',sp',e4,q2⟩:=q;rw[hj]at e4;cases e4;erw[⟨a,dx,vs,rfl,g1,hn,[.ref a],M1,.cons (.ref a) .nil,N,c.mon j fn sp hj (λm M' J=>J.on P) q2⟩]
  |cons x xs=>
   cases es with
   |nil=>cases DQ Z
   |cons a0 es=>
    have h3':=Z;have⟨x',xs',e',S,h5⟩:=DR Z;cases e';erw[(SD (E:=E0) (sE o c O).pe cl hm F hr hb .nil BH (sA (.cons a0 es) c h3') (Yt S) (UT (Uy (l:=cp) h5)).2 (IX (Af O) hform h8)).weak λY H Q hw=>?_];have⟨L,M,T,W,hw⟩:=hw;erw[⟨L,M,T,W,Xc c.mon o (λv M1 h'=>?_) hw⟩];have⟨a,fs,e,e2,e3,q⟩:=h';subst e;intro u B P A N;obtain rfl:=A.inv;have⟨C',dx,vs,g1,g2,g3⟩:=N.ins e2;rw[hC]at g2;cases g2;have hn:vs.lookup m=we:=by
     rcases DE (f:=m) g3 with⟨_,z2⟩|⟨x',u',z1,_⟩
     .erw[z2]
     .rw[e3]at z1;cases z1
    erw[⟨a,dx,vs,rfl,g1,hn,L,M1,T.mono P,N,mon_es c.mon (.cons a0 es) (λws M2 h'=>?_) q⟩];have⟨f',sp',e4,q2⟩:=h';rw[hj]at e4;cases e4;intro us H2 D r2 rh2;erw[⟨.ref a::ws,M2,?_,rh2,c.mon j fn sp hj (λm M' J=>J.on (P.trans D)) q2⟩];rw[Z3];erw[.cons (.ref a) r2]
 |.make j cn a es,X,e,c,h=>by
  have⟨p,x,xs,p2,rfl,U,O,Z,S⟩:=_jj h;have⟨g1,g2,g3⟩:=Ux O;have⟨fn,sp,hj,k,C,fa,fd,ps,hr,F,hC,hm,mk,hb⟩:=c.mks j cn U;have ha:PA X (x::xs) (W5 (liE X.K (wE Φ a)) (liA X.K (wEs Φ es))):=W6 (sE a c Z).pe (sA es c S) (Yt Z);erw[.plain c ?_ (λ_=>rfl) rfl];erw[(SG (E:=E0) mk F hr g1 hm hb .nil BH ha g2 (Yt Z) (UT (Uy (l:=p2) S)).2).weak λY H Q hw=>?_];have⟨L,M,T,W,hw⟩:=hw;erw[⟨L,M,T,W,Xc c.mon a (λv M1 q1=>?_) hw⟩];intro u B P A N;erw[⟨L,M1,T.mono P,N,mon_es c.mon es (λvs M2 h'=>?_) q1⟩];have⟨f',sp',e,q2⟩:=h';rw[hj]at e;cases e;intro us H2 D r2 rh2;intro q dx J hdx ne;have kk:Kp H2 (upd (upd H2 dx (.own q)) q (.ins C dx [])):=(Kp.new hdx _).trans (Kp.new (by rw[XE ne.symm];erw[J]) _)
  erw[⟨.ref q::v::vs,updM M2 q (.ins cn []),?_,?_,c.mon j fn sp hj (λm M' ⟨z,hq'⟩=>?_) (q2 q (rh2.free J))⟩]
  .rw[Z3];erw[.cons (.ref q) (.cons ((A.mono D).mono kk) (r2.mono kk))]
  .have k3:=Kp.new (H:=H2) hdx (.own q);have rh3:RH X.K M2 (upd H2 dx (.own q)):=rh2.kept hdx _;erw[rh3.put (Kp.new (by rw[XE ne.symm];erw[J]) _) (o:=.ins cn []) ⟨hC,.nil⟩]
  .subst z;intro v' H' k' r' rh';obtain rfl:=r'.inv;erw[⟨rfl,hq' _ _ ((P.trans D).trans (kk.trans k')) (.ref q) rh'⟩]
 |.disp ps,X,e,c,h=>absurd h XD
theorem sP:∀(ps:IPs){X:Cx} {pos:Pos} {ks:List (Option Expr)} {vs:List Expr},Cok X G Φ->Ae G ps X.env.scope X.N ks vs=wf->PPs X pos ks vs (trOf X.K Φ ps)
 |.nil,X,pos,ks,vs,c,h=>by
  have⟨rfl,rfl⟩:=_fv h;erw[Tn]
 |.cons k v r,X,pos,ks,vs,c,h=>by
  have⟨x,ks',y,vs',rfl,rfl,U,O,Z⟩:=_dR h;erw[To (sE k c U).pe (sE v c O).pe (sP r c Z)]
theorem sA{G:GI}{Φ:List (Str×SpM)}:∀(ies:IEs){X:Cx} {es:List Expr},Cok X G Φ->chkEs G ies X.env.scope X.N es=wf->PA X es (liA X.K (wEs Φ ies))
 |.nil,X,es,c,h=>by
  cases es with
  |cons _ _=>cases DQ h
  |nil=>
   erw[pa_nil.weak λY H Q hw=>?_];have⟨L,M,T,W,hw⟩:=hw;erw[hw _ _ (Kp.refl _) .nil W]
 |.cons a as,X,es,c,h=>by
  cases es with
  |nil=>cases h
  |cons x xs=>
   have⟨x',xs',e',h⟩:=DR h;cases e';erw[(W6 (sE a c h.1).pe (sA as c h.2) (Yt h.1)).weak λY H Q hw=>?_];have:wEs Φ (.cons a as)=λY M Q=>wE Φ a Y M λv M1=>wEs Φ as Y M1 λvs M2=>Q (v::vs) M2:=rfl;rw[this]at hw;erw[_lX (te:=wE Φ a) (t:=wEs Φ as) (Xc c.mon a) (mon_es c.mon as) hw]
theorem sO{G:GI}{Φ:List (Str×SpM)}:∀(io:IO){X:Cx} {e:Option Expr},Cok X G Φ->chkO G io X.env.scope X.N e=wf->PO X e (liO X.K (wO Φ io))
 |.none,X,e,c,h=>by
  cases e with
  |some _=>cases _fx h
  |none=>
   intro pq s Y H Q I hw;erw[SU pq s Y H Q I ?_];have⟨L,M,T,W,hw⟩:=hw;erw[hw _ (Kp.refl _) W]
 |.some a,X,e,c,h=>by
  cases e with
  |none=>erw[absurd h XD]
  |some x=>
   have⟨x',e',h⟩:=_fw h;cases e';intro pq s Y H Q I hw;erw[SV (sE a c h).pe pq s Y H Q I ?_];have⟨L,M,T,W,hw⟩:=hw;erw[⟨L,M,T,W,Xc c.mon a (λv M1 h'=>?_) hw⟩];have⟨i,e,q⟩:=h';subst e;intro u B P A N;obtain rfl:=A.inv;erw[⟨i,rfl,q B P N⟩]
theorem sI{G:GI}{Φ:List (Str×SpM)}:∀(io:IO){X:Cx} {es:List Expr},Cok X G Φ->chkI G io X.env.scope X.N es=wf->PTs X es (ttOf X.K Φ io)
 |.none,X,es,c,h=>by
  cases es with
  |cons _ _=>cases _fz h
  |nil=>erw[.inl ⟨rfl,rfl⟩]
 |.some a,X,es,c,h=>by
  have⟨x,rfl,U,O⟩:=_fy h;erw[.inr ⟨x,rfl,(sE a c O).pt U⟩]
theorem sSr{G:GI}{Φ:List (Str×SpM)}:∀(s:ISr){X:Cx} {tg e:Expr},Cok X G Φ->chkSr G s X.env.scope X.N e=wf->PI X tg e (liSr X (wSr Φ s))
 |.seq a,X,tg,e,c,h=>by
  erw[(_ll (sE a c h).pe).weak λY H R hw=>?_];have⟨L,M,T,W,hw⟩:=hw;erw[⟨L,M,T,W,Xc c.mon a (λv M1 q=>?_) hw⟩];intro u B P A N;rcases q with⟨xs,e,q⟩|⟨b,xs,e,hb,q⟩|⟨b,kvs,e,hb,q⟩|⟨z,e,q⟩
  .rcases e with e|e
   .subst e;have⟨_,_,rfl,U,q1⟩:=A.inv;erw[.inl ⟨_,rfl,.inr (.inl ⟨_,SqT.of U,q _ _ P N (.inl ⟨_,_,U,q1,rfl⟩)⟩)⟩]
   .subst e;have⟨_,_,rfl,U,q1⟩:=A.inv;erw[.inl ⟨_,rfl,.inl ⟨_,U.sq,q _ _ P N (.inr ⟨_,_,U,q1,rfl⟩)⟩⟩]
  .subst e;obtain rfl:=A.inv;have⟨vs,e2,_⟩:=N.lst hb;erw[.inl ⟨_,rfl,.inl ⟨_,SqL.of e2,q _ _ P N rfl⟩⟩]
  .subst e;obtain rfl:=A.inv;have⟨vs,e2,r2,nd⟩:=N.dic hb;erw[.inl ⟨_,rfl,.inr (.inr ⟨vs,e2,λo nf=>?_⟩)⟩];have k:=Kp.upd e2 rfl (.frz o (.dK vs));erw[q o _ _ (P.trans k) (N.put k (o:=.fdic o kvs) ⟨rfl,r2.mono k,nd⟩) ⟨rfl,nf⟩]
  .subst e;obtain rfl:=A.inv;erw[.inr ⟨z,rfl,q _ _ P N rfl⟩]
 |.rng a,X,tg,e,c,h=>by
  have⟨p,x,p2,rfl,O,Z,S⟩:=_m5 h;erw[(RF (Ux Z).1 (c.bls _ O) (W6 (sE a c S).pe pa_nil (Yt S)) (Yt S)).weak λY H R hw=>?_];have⟨L,M,T,W,hw⟩:=hw;erw[⟨L,M,T,W,Xc c.mon a (λv M1 h'=>?_) hw⟩];have⟨j,e,q1,q2,q⟩:=h';subst e;intro u B P A N;obtain rfl:=A.inv;erw[⟨j,rfl,q1,q2,q _ _ P N rfl⟩]
end
end L2
namespace L2
set_option genInjectivity false
set_option genCtorIdx false
open PySem PySem.Spec PyProof.Rows
mutual
inductive IS where
 |pass|brk|cnt|never
 |ret (e:IE)|retN
 |set (i:Nat)(e:IE)
 |asg (t:ITgs)(e:IE)
 |put (o i e:IE)
 |fset (c:Str)(o:IE)(f:Str)(e:IE)
 |expr (e:IE)
 |ite (c:IE)(a b:ISs)
 |for_ (t:ITg)(s:ISr)(b:ISs)
 |while_ (c:IE)(b:ISs)
inductive ISs where|nil|cons (s:IS)(r:ISs)
end
structure EndM where
 nx:Sm->MH->Prop
 rt:QM
mutual
def wS(Φ:List (Str×SpM)):IS->EndM->Sm->MH->Prop
 |.pass,D,j,M=>D.nx j M
 |.brk,_,_,_=>False
 |.cnt,_,_,_=>False
 |.never,_,_,_=>False
 |.ret e,D,j,M=>wE Φ e j M D.rt
 |.retN,D,_,M=>D.rt .non M
 |.set i e,D,j,M=>wE Φ e j M λv M1=>D.nx (j.set i (wc v)) M1
 |.asg t e,D,j,M=>wE Φ e j M λv M1=>∃xs,v=.tup xs/\wTgs t xs j λl=>D.nx l M1
 |.put o i e,D,j,M=>wE Φ e j M λv M1=>wE Φ o j M1 λx M2=>wE Φ i j M2 λy z=>wPut x y v z λg=>D.nx j g
 |.fset c o f e,D,j,M=>wE Φ e j M λv M1=>wE Φ o j M1 λx M2=>∃a fs,x=.ref a/\M2 a=wc (.ins c fs)/\fs.length<1000/\D.nx j (updM M2 a (.ins c (putM fs f v)))
 |.expr e,D,j,M=>wE Φ e j M λ_ M1=>D.nx j M1
 |.ite c a b,D,j,M=>wE Φ c j M λx M1=>onB x λk=>(if k=wf then wSs Φ a D j M1 else wSs Φ b D j M1)
 |.for_ t s b,D,j,M=>wSr Φ s j M λS M1=>∃J:Nat->Sm->MH->Prop,J 0 j M1/\(∀i j M,J i j M->S.ok M)/\
   (∀i x j M,S.items[i]?=wc x->J i j M->wTg t x j λu=>wSs Φ b {nx:=J (i+1),rt:=λv M=>S.okT M/\D.rt v (S.thaw M)} u M)/\∀j M,J S.len j M->D.nx j (S.thaw M)
 |.while_ c b,D,j,M=>∃J:Nat->Sm->MH->Prop,(∃m,J m j M)/\∀m j M,J m j M->wE Φ c j M λx M1=>∃k,x=.bl k/\
   (if k=wf then wSs Φ b {nx:=λl M'=>∃w,w<m/\J w l M',rt:=D.rt} j M1 else D.nx j M1)
def wSs(Φ:List (Str×SpM)):ISs->EndM->Sm->MH->Prop
 |.nil,D,j,M=>D.nx j M
 |.cons s r,D,j,M=>wS Φ s {nx:=λj M=>wSs Φ r D j M,rt:=D.rt} j M
end
def IZ{j:List (Str×SpM)}{c:IE}{a b:ISs}{D:EndM}{l:Sm}{M:MH}:wS j (.ite c a b) D l M=wE j c l M λx M1=>∃k,x=.bl k/\(if k=wf then wSs j a D l M1 else wSs j b D l M1):=by
 show(wE j c l M λx M1=>onB x λk=>(if k=wf then wSs j a D l M1 else wSs j b D l M1))=_;simp only[We]
structure EndM.Le (D D':EndM):Prop where
 nx:∀σ M,D.nx σ M->D'.nx σ M
 rt:∀v M,D.rt v M->D'.rt v M
mutual
theorem DY{Φ:List (Str×SpM)}(u:∀(j:Nat)f sp,Φ[j]?=wc (f,sp)->MonW sp):∀(s:IS){D g:EndM} {w:Sm} {M:MH},D.Le g->wS Φ s D w M->wS Φ s g w M
 |.pass,D,g,w,M,l,h=>by erw[l.nx _ _ h]
 |.brk,D,g,w,M,l,h=>h.elim
 |.cnt,D,g,w,M,l,h=>h.elim
 |.never,D,g,w,M,l,h=>h.elim
 |.ret e,D,g,w,M,l,h=>by erw[Xc u e l.rt h]
 |.retN,D,g,w,M,l,h=>by erw[l.rt _ _ h]
 |.set i e,D,g,w,M,l,h=>by erw[Xc u e (λv M1 d=>l.nx _ _ d) h]
 |.asg t e,D,g,w,M,l,h=>by erw[Xc u e (λv M1 h'=>by have⟨xs,e,d⟩:=h';erw[⟨xs,e,mon_tgs t (λO q=>l.nx _ _ q) d⟩]) h]
 |.put o i e,D,g,w,M,l,h=>by
  erw[Xc u e (λv M1 d=>Xc u o (λx M2 q=>Xc u i (λy C P=>Iz (λE R=>l.nx _ _ R) P) q) d) h]
 |.fset c o f e,D,g,w,M,l,h=>by
  erw[Xc u e (λv M1 d=>Xc u o (λx M2 h'=>by have⟨a,fs,T,U,W,q⟩:=h';erw[⟨a,fs,T,U,W,l.nx _ _ q⟩]) d) h]
 |.expr e,D,g,w,M,l,h=>by erw[Xc u e (λv M1 d=>l.nx _ _ d) h]
 |.ite c a b,D,g,w,M,l,h=>by
  rw[IZ]at h ⊢;erw[Xc u c (λx M1 h'=>by have⟨k,e,d⟩:=h';erw[⟨k,e,YU (mon_ss u a l) (mon_ss u b l) d⟩]) h]
 |.for_ t s b,D,g,w,M,l,h=>by
  erw[mon_sr u s (λS M1 ⟨J,L,N,Y,Z⟩=>⟨J,L,N,λi x w M A p=>?_,λw M p=>l.nx _ _ (Z w M p)⟩) h];erw[A7 t (λB q=>by erw[mon_ss u b ?_ q];erw[⟨λ_ _ z=>z,λ_ _ z=>⟨z.1,l.rt _ _ z.2⟩⟩]) (Y i x w M A p)]
 |.while_ c b,D,g,w,M,l,h=>by
  have⟨J,L,N⟩:=h;erw[⟨J,L,λm w M p=>Xc u c (λx M1 ⟨k,e,d⟩=>⟨k,e,YU (λz=>by erw[mon_ss u b ?_ z];erw[⟨λ_ _ z=>z,l.rt⟩]) (l.nx _ _) d⟩) (N m w M p)⟩]
theorem mon_ss{Φ:List (Str×SpM)}(u:∀(j:Nat)f sp,Φ[j]?=wc (f,sp)->MonW sp):∀(s:ISs){D g:EndM} {w:Sm} {M:MH},D.Le g->wSs Φ s D w M->wSs Φ s g w M
 |.nil,D,g,w,M,l,h=>by erw[l.nx _ _ h]
 |.cons s r,D,g,w,M,l,h=>by
  erw[DY u s ?_ h];erw[⟨λw M d=>mon_ss u r l d,l.rt⟩]
end
def _oV{u:List (Str×SpM)}(w:∀(j:Nat)f y,u[j]?=wc (f,y)->MonW y){s:IS} {r:ISs} {D:EndM} {l:Sm} {M:MH} (P:Sm->MH->Prop)(m:wS u s {nx:=P,rt:=D.rt} l M)(g:∀l M,P l M->wSs u r D l M):wSs u (.cons s r) D l M:=by
 erw[DY w s ?_ m];erw[⟨g,λ_ _ z=>z⟩]
noncomputable def J0:Expr->Bool
 |.Tuple ..=>wg|_=>wf
noncomputable def Ag:Expr->Bool
 |.ListComp ..=>wg|.SetComp ..=>wg|.DictComp ..=>wg|_=>wf
noncomputable def J1:Stmt->Option (Option Expr)|.Return v _=>wc v|_=>we
noncomputable def Ah:Stmt->Option (List Expr×Expr)|.Assign ts v _=>wc (ts,v)|_=>we
noncomputable def asEx:Stmt->Option Expr|.Expr v _=>wc v|_=>we
noncomputable def J3:Stmt->Option (Expr×List Stmt×List Stmt)|.If t x y _=>wc (t,x,y)|_=>we
noncomputable def J4:Stmt->Option (Expr×Expr×List Stmt×List Stmt)|.For t i b r _=>wc (t,i,b,r)|_=>we
noncomputable def asWh:Stmt->Option (Expr×List Stmt×List Stmt)|.While t b r _=>wc (t,b,r)|_=>we
section
variable{e:Stmt}
def _jC{x:Option Expr}(h:J1 e=wc x):∃p,e=.Return x p:=by revert h;cases e<;>first|erw[nos]|(intro h;cases h;erw[⟨_,rfl⟩])
def BX{x:List Expr×Expr}(h:Ah e=wc x):∃p,e=.Assign x.1 x.2 p:=by revert h;cases e<;>first|erw[nos]|(intro h;cases h;erw[⟨_,rfl⟩])
def _mH{x:Expr}(h:asEx e=wc x):∃p,e=.Expr x p:=by revert h;cases e<;>first|erw[nos]|(intro h;cases h;erw[⟨_,rfl⟩])
def _jE{x:Expr×List Stmt×List Stmt}(h:J3 e=wc x):∃p,e=.If x.1 x.2.1 x.2.2 p:=by revert h;cases e<;>first|erw[nos]|(intro h;cases h;erw[⟨_,rfl⟩])
def _jF{x:Expr×Expr×List Stmt×List Stmt}(h:J4 e=wc x):∃p,e=.For x.1 x.2.1 x.2.2.1 x.2.2.2 p:=by revert h;cases e<;>first|erw[nos]|(intro h;cases h;erw[⟨_,rfl⟩])
def _mF{x:Expr×List Stmt×List Stmt}(h:asWh e=wc x):∃p,e=.While x.1 x.2.1 x.2.2 p:=by revert h;cases e<;>first|erw[nos]|(intro h;cases h;erw[⟨_,rfl⟩])
end
mutual
def chkS(G:GI)(j:Scope)(N:List Str):IS->Stmt->Bool
 |.pass,_=>wg
 |.brk,_=>wg
 |.cnt,_=>wg
 |.never,_=>wf
 |.ret e,s=>(J1 s).any λo=>o.any λx=>chkE G e j N x
 |.retN,_=>wg
 |.set i e,s=>(Ah s).any λq=>(the1 q.1).any λt=>(YV t).any λx=>decide (N[i]?=wc x)&&locB j x&&chkE G e j N q.2
 |.asg t e,s=>(Ah s).any λq=>(the1 q.1).any λg=>(Wg g).any λes=>chkTgs j N N.length wf t es&&chkE G e j N q.2&&J0 q.2
 |.put o i e,s=>(Ah s).any λq=>(the1 q.1).any λt=>(Wh t).any λa=>chkE G o j N a.1&&chkE G i j N a.2&&A8 a.2&&chkE G e j N q.2
 |.fset c o f e,s=>(Ah s).any λq=>(the1 q.1).any λt=>(Vs t).any λa=>decide (a.2.1=f)&&G.cls.contains (c,f)&&chkE G o j N a.1&&chkE G e j N q.2
 |.expr e,s=>(asEx s).any λv=>chkE G e j N v&&Ag v
 |.ite c a b,s=>(J3 s).any λq=>tok c&&chkE G c j N q.1&&chkSs G j N a q.2.1&&chkSs G j N b q.2.2
 |.for_ t r b,s=>(J4 s).any λq=>Zs j N N.length wf t q.1&&chkSr G r j N q.2.1&&A9 q.2.1&&chkSs G j N b q.2.2.1&&non0 q.2.2.2
 |.while_ c b,s=>(asWh s).any λq=>tok c&&chkE G c j N q.1&&chkSs G j N b q.2.1&&non0 q.2.2
def chkSs(G:GI)(j:Scope)(N:List Str):ISs->List Stmt->Bool
 |.nil,l=>non0 l
 |.cons s r,l=>(hd1 l).any λq=>chkS G j N s q.1&&chkSs G j N r q.2
end
def liD(K:X4)(H:Hp)(D:Ends):EndM where
 nx:=λl M=>∀u j,Kp H j->RS K j l u->RH K M j->D.nx u j
 rt:=Dn K H D.rt
theorem liD.on{K:X4}{H j:Hp}{D:Ends}(k:Kp H j):(liD K H D).Le (liD K j D):=
 ⟨λ_ _ h l u w=>h l u (k.trans w),λ_ _ h=>h.on k⟩
def liSt(K:X4)(t:EndM->Sm->MH->Prop):TS:=λD l H=>∃j M,RS K H j l/\RH K M H/\t (liD K H D) j M
def _g8{e:Expr}{x:Str}{p:Pos}{l:Nat}{j:Env}(h:Ag e=wf):ZS e (wc (.Name x p)) l j=pure wg:=by cases e<;>first|rfl|cases h
def _g7{e:Expr}{l:Nat}{j:Env}(h:Ag e=wf):ZS e we l j=pure wg:=by cases e<;>first|rfl|cases h
def _iz{e:Expr}{l:List Expr}{k:Nat}{p:Pos}{u:Nat}{j:Env}:ZS e (wc (.Tuple l k p)) u j=pure wg:=by cases e<;>rfl
def _iB{e a:Expr}{f:Str}{p:Pos}{l:Nat}{j:Env}:ZS e (wc (.Attribute a f p)) l j=pure wg:=by cases e<;>rfl
def _iA{e a b:Expr}{p:Pos}{l:Nat}{j:Env}:ZS e (wc (.Subscript a b p)) l j=pure wg:=by cases e<;>rfl
def _g9{l:Expr}{y:List Comprehension}{j:Scope}{u p:Pos}{x:Str}{z:Nat}{w:Env}:∃b:Bool,ZS (.ListComp l y j u) (wc (.Name x p)) z w=pure b:=⟨_,rfl⟩
def _mx{G:GI}{l:IE}{y:Scope}{N:List Str}{e:Expr}(h:chkE G l y N e=wf):Ag e=wf\/∃own fr u z j w,l=.comp own fr u z j w:=by
 revert h;cases e<;>first
  |erw[λ_=>.inl rfl]
  |(cases l<;>first
    |erw[nob]
    |erw[λ_=>.inr ⟨_,_,_,_,_,_,rfl⟩])
section
variable{G:GI}{sc:Scope}{N:List Str}{st:Stmt}
def _jm{e:IE}(h:chkS G sc N (.ret e) st=wf):∃x p,st=.Return (wc x) p/\chkE G e sc N x=wf:=by
 replace h:=Xf h;have⟨o,j,h⟩:=h;have⟨p,rfl⟩:=_jC j;replace h:=Xf h;have⟨x,rfl,h⟩:=h;erw[⟨x,p,rfl,h⟩]
def _jl{i:Nat}{e:IE}(h:chkS G sc N (.set i e) st=wf):∃x j v p,st=.Assign [.Name x j] v p/\N[i]?=wc x/\locB sc x=wf/\chkE G e sc N v=wf:=by
 replace h:=Xf h;have⟨⟨g,v⟩,l,h⟩:=h;have⟨p,rfl⟩:=BX l;replace h:=Xf h;have⟨t,u,h⟩:=h;obtain rfl:=_i u;replace h:=Xf h;have⟨x,w,h⟩:=h;have⟨j,rfl⟩:=_h w;replace h:=Xg h;have⟨h,y⟩:=h;replace h:=Xg h;have⟨z,m⟩:=h;erw[⟨x,j,v,p,rfl,XI z,m,y⟩]
def _jq{t:ITgs}{e:IE}(h:chkS G sc N (.asg t e) st=wf):∃j k pt v p,st=.Assign [.Tuple j k pt] v p/\chkTgs sc N N.length wf t j=wf/\chkE G e sc N v=wf/\J0 v=wf:=by
 replace h:=Xf h;have⟨⟨d,v⟩,l,h⟩:=h;have⟨p,rfl⟩:=BX l;replace h:=Xf h;have⟨g,u,h⟩:=h;obtain rfl:=_i u;replace h:=Xf h;have⟨j,w,h⟩:=h;have⟨k,pt,rfl⟩:=BS w;replace h:=Xg h;have⟨h,y⟩:=h;replace h:=Xg h;have⟨z,m⟩:=h;erw[⟨j,k,pt,v,p,rfl,z,m,y⟩]
def _jn{o i e:IE}(h:chkS G sc N (.put o i e) st=wf):∃a b pt v p,st=.Assign [.Subscript a b pt] v p/\chkE G o sc N a=wf/\chkE G i sc N b=wf/\A8 b=wf/\chkE G e sc N v=wf:=by
 replace h:=Xf h;have⟨⟨d,v⟩,j,h⟩:=h;have⟨p,rfl⟩:=BX j;replace h:=Xf h;have⟨g,l,h⟩:=h;obtain rfl:=_i l;replace h:=Xf h;have⟨⟨a,b⟩,u,h⟩:=h;have⟨pt,rfl⟩:=BU u;replace h:=Xg h;have⟨h,w⟩:=h;replace h:=Xg h;have⟨h,y⟩:=h;replace h:=Xg h;have⟨z,m⟩:=h;erw[⟨a,b,pt,v,p,rfl,z,m,y,w⟩]
def _hp{c f:Str}{o e:IE}(h:chkS G sc N (.fset c o f e) st=wf):∃a pt v p,st=.Assign [.Attribute a f pt] v p/\G.cls.contains (c,f)=wf/\chkE G o sc N a=wf/\chkE G e sc N v=wf:=by
 replace h:=Xf h;have⟨⟨d,v⟩,j,h⟩:=h;have⟨p,rfl⟩:=BX j;replace h:=Xf h;have⟨g,l,h⟩:=h;obtain rfl:=_i l;replace h:=Xf h;have⟨⟨a,q,pt⟩,u,h⟩:=h;obtain rfl:=Ad u;simp only[XQ]at h;have⟨⟨⟨w,y⟩,z⟩,m⟩:=h;obtain rfl:=XI w;erw[⟨a,pt,v,p,rfl,y,z,m⟩]
def _hq{e:IE}(h:chkS G sc N (.expr e) st=wf):∃v p,st=.Expr v p/\chkE G e sc N v=wf/\Ag v=wf:=by
 replace h:=Xf h;have⟨v,j,h⟩:=h;have⟨p,rfl⟩:=_mH j;erw[⟨v,p,rfl,Xg h⟩]
def _jo{c:IE}{a b:ISs}(h:chkS G sc N (.ite c a b) st=wf):∃t x y p,st=.If t x y p/\tok c=wf/\chkE G c sc N t=wf/\chkSs G sc N a x=wf/\chkSs G sc N b y=wf:=by
 replace h:=Xf h;have⟨⟨t,x,y⟩,j,h⟩:=h;have⟨p,rfl⟩:=_jE j;replace h:=Xg h;have⟨h,l⟩:=h;replace h:=Xg h;have⟨h,u⟩:=h;replace h:=Xg h;have⟨w,z⟩:=h;erw[⟨t,x,y,p,rfl,w,z,u,l⟩]
def _jp{t:ITg}{s:ISr}{b:ISs}(h:chkS G sc N (.for_ t s b) st=wf):∃u l j p,st=.For u l j [] p/\Zs sc N N.length wf t u=wf/\chkSr G s sc N l=wf/\A9 l=wf/\chkSs G sc N b j=wf:=by
 replace h:=Xf h;have⟨⟨u,l,j,w⟩,y,h⟩:=h;have⟨p,rfl⟩:=_jF y;replace h:=Xg h;have⟨h,z⟩:=h;replace h:=Xg h;have⟨h,m⟩:=h;replace h:=Xg h;have⟨h,g⟩:=h;replace h:=Xg h;have⟨d,c⟩:=h;obtain rfl:=YE z;erw[⟨u,l,j,p,rfl,d,c,g,m⟩]
def _fB{c:IE}{b:ISs}(h:chkS G sc N (.while_ c b) st=wf):∃t j p,st=.While t j [] p/\tok c=wf/\chkE G c sc N t=wf/\chkSs G sc N b j=wf:=by
 replace h:=Xf h;have⟨⟨l,j,u⟩,w,h⟩:=h;have⟨p,rfl⟩:=_mF w;replace h:=Xg h;have⟨h,y⟩:=h;replace h:=Xg h;have⟨h,z⟩:=h;replace h:=Xg h;have⟨m,g⟩:=h;obtain rfl:=YE y;erw[⟨l,j,p,rfl,m,g,z⟩]
def _ho{j:List Stmt}(h:chkSs G sc N .nil j=wf):j=[]:=by
 erw[YE h]
def _fA{s:IS}{r:ISs}{j:List Stmt}(h:chkSs G sc N (.cons s r) j=wf):∃x l,j=x::l/\chkS G sc N s x=wf/\chkSs G sc N r l=wf:=by
 replace h:=Xf h;have⟨⟨x,l⟩,u,h⟩:=h;erw[⟨x,l,Uw u,Xg h⟩]
end
mutual
theorem sS{G:GI}{Φ:List (Str×SpM)}:∀(is:IS){X:Cx} {st:Stmt},Cok X G Φ->(∀x,X.fn x=wf)->chkS G X.env.scope X.N is st=wf->PS X st (liSt X.K (wS Φ is))
 |.pass,X,st,c,hf,h=>absurd h XD
 |.brk,X,st,c,hf,h=>absurd h XD
 |.cnt,X,st,c,hf,h=>absurd h XD
 |.never,X,st,c,hf,h=>by
  erw[ps_never.weak λD A H hw=>?_];have⟨j,M,L,T,hw⟩:=hw;erw[hw]
 |.ret e,X,st,c,hf,h=>by
  have⟨v,p,rfl,h⟩:=_jm h;erw[(Rr (sE e c h).pe).weak λD A H hw=>?_];have⟨j,M,L,T,hw⟩:=hw;erw[⟨j,M,L,T,hw⟩]
 |.retN,X,st,c,hf,h=>absurd h XD
 |.set i e,X,st,c,hf,h=>by
   have⟨x,px,v,p,rfl,W,Y,Q⟩:=_jl h;have rd:∀D A H,liSt X.K (wS Φ (.set i e)) D A H->liE X.K (wE Φ e) A H λv H1=>D.nx (A.set i (wc v)) H1:=λD A H hw=>by
    have⟨j,M,L,T,hw⟩:=hw;erw[⟨j,M,L,T,Xc c.mon e (λv M1 q=>?_) hw⟩];intro u H1 O r1 N;erw[q _ _ O ((L.mono O).set r1 i) N]
   rcases _mx Q with hn|⟨own,fr,src,tg,test,elt,rfl⟩
   .erw[(GE c.nd W (BV Y) (sE e c Q).pe (_g8 hn) (.inl (hf _))).weak rd]
   .have⟨y,t,it,ifs,scope,p3,rfl,i1,i2,i3,i4,i5,i6,i7⟩:=IN Q;have⟨b,hb⟩:=_g9 (l:=y) (y:=[⟨t,it,ifs,0⟩]) (j:=scope) (u:=p3) (p:=px) (x:=x) (z:=p.line) (w:=X.env);cases b with
    |false=>erw[(GE c.nd W (BV Y) (sE _ c Q).pe hb (.inl (hf _))).weak rd]
    |true=>
     erw[(_dt own fr (g:=gOf X.K tg) (te:=liE X.K (wE Φ elt)) (tt:=ttOf X.K Φ test) c.nd W (BV Y) (λe s h=>by rw[c.nox]at h;erw[h]) c.calm i1 (sSr src (tg:=t) c i4)
      (λC fp B E=>sTg (X:=cxC X scope own fr C fp B E) (lim:=own.length) (all:=wg) c.calm i3 (λz=>by cases z) tg i5) (λC fp B E=>sI (X:=cxC X scope own fr C fp B E) test (c.comp (W9 i1).kind i3) i6)
      (λC fp B E=>(sE (X:=cxC X scope own fr C fp B E) elt (c.comp (W9 i1).kind i3) i7).pe) hb (DX i2 _) (.inl (hf _))).thaw.weak λD A H hw=>?_]
     erw[IV c.mon i5 (rd D A H hw)]
 |.asg t e,X,st,c,hf,h=>by
   have⟨es,k,pt,v,p,rfl,W,Y,Q⟩:=_jq h;have hT:Zs X.env.scope X.N X.N.length wf (.tup t) (.Tuple es k pt)=wf:=W;erw[(GD (sE e c Y).pe (sTg (lim:=X.N.length) (all:=wf) c.calm c.nd (λ_=>hf) (.tup t) hT) (_iz (e:=v) (l:=es) (k:=k) (p:=pt) (u:=p.line) (j:=X.env)) (by cases v<;>first|rfl|cases Q) rfl).weak λD A H hw=>?_]
   have⟨j,M,L,T,hw⟩:=hw;erw[⟨j,M,L,T,Xc c.mon e (λv M1 h'=>?_) hw⟩];have⟨xs,e,q⟩:=h';intro u H1 O r1 N;erw[BW (Ψ:=λ_=>True) (lim:=X.N.length) (λ_ _ _ _ z=>z) (.tup t) hT r1 (L.mono O) trivial (P:=λw=>(liD X.K H D).nx w M1) ⟨xs,e,q⟩ λl w q' n _=>?_];erw[q' _ _ O n N]
 |.put o i e,X,st,c,hf,h=>by
   have⟨a,b,pt,v,p,rfl,W,Y,Q,h4⟩:=_jn h;have hg:PG X (.Subscript a b pt) (gSub (liE X.K (wE Φ o)) (liE X.K (wE Φ i)) (IA X.K)):=Rx (sE o c W).pe (sE i c Y).pe (_kS (by have:=c.room;lia)) (by intro v;cases b<;>first|rfl|cases Q)
   erw[(GD (sE e c h4).pe hg (_iA (e:=v) (a:=a) (b:=b) (p:=pt) (l:=p.line) (j:=X.env)) rfl rfl).weak λD A H hw=>?_];have⟨j,M,L,T,hw⟩:=hw;erw[⟨j,M,L,T,Xc c.mon e (λv M1 q1=>?_) hw⟩];intro u H1 O r1 N;erw[⟨j,M1,L.mono O,N,Xc c.mon o (λx M2 q2=>?_) q1⟩];intro u2 H2 k2 r2 U;erw[⟨j,M2,L.mono (O.trans k2),U,Xc c.mon i (λy M3 q3=>?_) q2⟩];intro u3 H3 F r3 rh3;erw[⟨x,y,v,M3,r2.mono F,r3,r1.mono (k2.trans F),rh3,Iz (λM4 q4=>?_) q3⟩];intro H4 k4 rh4;have kk:=O.trans (k2.trans (F.trans k4));erw[q4 _ _ kk (L.mono kk) rh4]
 |.fset cn o f e,X,st,c,hf,h=>by
  have⟨a,pt,v,p,rfl,W,Y,Q⟩:=_hp h;have⟨C,hC,cl,na⟩:=c.cls cn f W;erw[(Sr (sE o c Y).pe (sE e c Q).pe _iB).weak λD A H hw=>?_];have⟨j,M,L,T,hw⟩:=hw;erw[⟨j,M,L,T,Xc c.mon e (λv M1 q1=>?_) hw⟩];intro u H1 O r1 N;erw[⟨j,M1,L.mono O,N,Xc c.mon o (λx M2 h'=>?_) q1⟩];have⟨b,fs,e1,e2,e3,q2⟩:=h';subst e1;intro u2 H2 k2 r2 U;obtain rfl:=r2.inv;have⟨C',dx,vs,g1,g2,g3⟩:=U.ins e2;rw[hC]at g2;cases g2;have F:=Kp.upd g1 rfl (.ins C dx (putF f u vs));have kk:=O.trans (k2.trans F);erw[⟨b,C,dx,vs,rfl,g1,cl,na,by rw[<-g3.length];erw[e3],?_⟩]
  erw[q2 _ _ kk (L.mono kk) (U.put F (o:=.ins cn (putM fs f v)) ⟨hC,(_lc (r1.mono k2) g3).mono F⟩)]
 |.expr e,X,st,c,hf,h=>by
  have⟨v,p,rfl,W,Y⟩:=_hq h;erw[(Rq (sE e c W).pe (_g7 Y)).weak λD A H hw=>?_];have⟨j,M,L,T,hw⟩:=hw;erw[⟨j,M,L,T,Xc c.mon e (λv M1 q=>?_) hw⟩];intro u H1 O r1 N;erw[q _ _ O (L.mono O) N]
 |.ite d a b,X,st,c,hf,h=>by
  have⟨t,x,y,p,rfl,W,Y,Q,h4⟩:=_jo h;erw[(Rs ((sE d c Y).pt W) (sSs a c hf Q) (sSs b c hf h4)).weak λD A H hw=>?_];have⟨j,M,L,T,hw⟩:=hw;rw[IZ]at hw;erw[⟨j,M,L,T,Xc c.mon d (λx M1 ⟨k,e,q⟩=>⟨k,e,λH1 O N=>?_⟩) hw⟩];erw[YU (λq=>⟨j,M1,L.mono O,N,mon_ss c.mon a (liD.on O) q⟩) (λq=>⟨j,M1,L.mono O,N,mon_ss c.mon b (liD.on O) q⟩) q]
 |.for_ t s b,X,st,c,hf,h=>by
   have⟨tg,it,body,p,rfl,W,Y,Q,h4⟩:=_jp h;erw[(RI (by rw[c.nox];erw[PassesOwn.never]) c.calm (sSr s (tg:=tg) c Y) (sTg (lim:=X.N.length) (all:=wf) c.calm c.nd (λ_=>hf) t W) (sSs b c hf h4) (DX Q _)).thaw.weak λD A H hw=>?_]
   have⟨j,M,L,T,hw⟩:=hw;erw[⟨j,M,L,T,mon_sr c.mon s (λS M1 h'=>?_) hw⟩];have⟨J,j0,j1,j2,j3⟩:=h';intro I H1 O N sit;erw[⟨λi m w Z=>m=S.len - i/\i<=S.len/\Kp H1 Z/\∃l M',RS X.K Z l w/\RH X.K M' Z/\J i l M',⟨_,rfl,YB _,Kp.refl _,j,M1,L.mono O,N,j0⟩,?_⟩];rintro i m σ2 H2 ⟨rfl,hi,k2,R,M2,rs2,U,hj⟩;have⟨goes,stops⟩:=IU sit k2 U (j1 i R M2 hj);by_cases hlt:i<S.len
   .have⟨go,yld⟩:=goes i hlt;erw[.inr ⟨go,λw Z=>Kp H1 Z/\∃l M',RS X.K Z l w/\RH X.K M' Z/\J (i+1) l M',λw Z h'=>by have⟨a,z⟩:=h';erw[⟨S.len - (i+1),by lia,rfl,hlt,a,z⟩],λx Z y=>?_⟩]
    have⟨e,m,hm,rm⟩:=yld x Z y;subst e;erw[BW (Ψ:=λ_=>True) (lim:=X.N.length) (λ_ _ _ _ z=>z) t W rm rs2 trivial (j2 i m R M2 hm hj) λσm3 σ3 q rs3 _=>?_];erw[⟨σm3,M2,rs3,U,?_⟩];erw[mon_ss c.mon b ?_ q];erw[⟨λw M' z σv H3 F n rh'=>⟨k2.trans F,w,M',n,rh',z⟩,λv M' z u H3 F r3 rh'=>?_⟩]
    .have⟨H4,th,k4,rh4⟩:=DW sit rh' z.1;erw[⟨H4,th,z.2 u H4 (O.trans (k2.trans (F.trans k4))) (r3.mono k4) rh4⟩]
   .have e:i=S.len:=by lia
    subst e;have⟨H4,th,k4,rh4⟩:=DW sit U (IR (j1 _ R M2 hj));erw[.inl ⟨stops _ (X9 _),H4,th,j3 R M2 hj _ _ (O.trans (k2.trans k4)) (rs2.mono k4) rh4⟩]
 |.while_ d b,X,st,c,hf,h=>by
   have⟨tst,body,p,rfl,W,Y,Q⟩:=_fB h;erw[(Rz (by rw[c.nox];erw[PassesOwn.never]) ((sE d c Y).pt W) (sSs b c hf Q)).weak λD A H hw=>?_]
   have⟨j,M,L,T,hw⟩:=hw;have⟨J,⟨m0,j0⟩,j1⟩:=hw;erw[⟨λm w Z=>Kp H Z/\∃l M',RS X.K Z l w/\RH X.K M' Z/\J m l M',⟨m0,Kp.refl _,j,M,L,T,j0⟩,?_⟩];rintro m σ2 H2 ⟨k2,R,M2,rs2,U,hj⟩;erw[⟨R,M2,rs2,U,Xc c.mon d (λx M1 ⟨k,e,q⟩=>⟨k,e,λH3 F rh3=>?_⟩) (j1 m R M2 hj)⟩];erw[YU (λq=>?_) (λq=>q _ _ (k2.trans F) (rs2.mono F) rh3) q];erw[⟨λw Z=>∃m',m'<m/\Kp H Z/\∃l M',RS X.K Z l w/\RH X.K M' Z/\J m' l M',λw Z z=>z,R,M1,rs2.mono F,rh3,?_⟩];erw[mon_ss c.mon b ?_ q];erw[⟨?_,λv M' z=>z.on (k2.trans F)⟩]
   .rintro w M' ⟨m',hm,z⟩ σv H4 k4 n rh';erw[⟨m',hm,k2.trans (F.trans k4),w,M',n,rh',z⟩]
theorem sSs{G:GI}{Φ:List (Str×SpM)}:∀(is:ISs){X:Cx} {sts:List Stmt},Cok X G Φ->(∀x,X.fn x=wf)->chkSs G X.env.scope X.N is sts=wf->PSs X sts (liSt X.K (wSs Φ is))
 |.nil,X,sts,c,hf,h=>by
   cases _ho h;erw[pss_nil.weak λD A H hw=>?_];have⟨j,M,L,T,hw⟩:=hw;erw[hw A H (Kp.refl _) L T]
 |.cons s r,X,sts,c,hf,h=>by
   have⟨x,xs,rfl,W,Y⟩:=_fA h;erw[(Ro (sS s c hf W) (sSs r c hf Y)).weak λD A H hw=>?_];have⟨j,M,L,T,hw⟩:=hw;erw[⟨j,M,L,T,?_⟩];erw[DY c.mon s ?_ hw];erw[⟨λw M' z σv H1 O n rh'=>?_,λv M' z=>z⟩];erw[⟨w,M',n,rh',mon_ss c.mon r (liD.on O) z⟩]
end
end L2
namespace L2
open PySem PySem.Spec PyProof.Rows
structure Fts (P:Xr)(w:Xl)(K:X4)(mg:Str->Option X0)(base:Heap)(k:Nat)(G:GI)(Φ:List (Str×SpM)):Prop where
 bls:∀x,G.bl.contains x=wf->mg x=we
 gls:∀x i,G.gl.lookup x=wc i->∃tk,mg x=wc (.int i tk)
 fnn:∀(j:Nat)f,G.fns[j]?=wc f->∃sp,Φ[j]?=wc (f,sp)
 mon:∀(j:Nat)f sp,Φ[j]?=wc (f,sp)->MonW sp
 fns:∀(j:Nat)f sp,G.fns[j]?=wc f->Φ[j]?=wc (f,sp)->∃fa fd ps,FnOk P w K mg base CX0 k fa fd ps (liSp K sp)/\mg f=wc (.ref fa)/\Zq K (.ref fa)=wf/\Binds K fd ps []
 mts:∀(j:Nat)c m,G.mts.contains (j,c,m)=wf->∃f sp,Φ[j]?=wc (f,sp)/\∃C fa fd ps,FnOk P w K mg base CX0 k fa fd ps (liSp K sp)/\XC K Xp c=wc (wc (.ref C))/\Cls K C/\Meth K C m fa/\Binds K fd ps []
 mks:∀(j:Nat)c,G.mks.contains (j,c)=wf->∃f sp,Φ[j]?=wc (f,sp)/\∃k' C fa fd ps,k'+1<=k/\FnOk P w K mg base CX0 k' fa fd ps (liSp K sp)/\XC K Xp c=wc (wc (.ref C))/\mg c=wc (.ref C)/\Mk K C fa/\Binds K fd ps []
 cls:∀c f,G.cls.contains (c,f)=wf->∃C,XC K Xp c=wc (wc (.ref C))/\Cls K C/\NoAttr K C f
noncomputable def UU(n:Nat)(j:List MV):Sm:=j.map wc++Xi (n - j.length) we
def _iC{K:X4}(r:RMs K H ms vs):RS K H (UU N.length ms) (start N vs):=by
 unfold UU start;have j:=r.length;erw[⟨by simp[j],λi m e=>?_⟩]
 by_cases hi:i<ms.length
 .rw[ZA (by simpa using hi),Xe]at e
  cases q:ms[i]? with
  |none=>rw[q]at e;cases e
  |some x=>
   rw[q]at e;have l:x=m:=Y4 (Y4 e);subst l;have⟨u,w,y⟩:=r.get q;erw[⟨u,by rw[ZA (by simpa [<-j]using hi),Xe,w];rfl,y⟩]
 .rw[Zn (by simpa using hi),FH]at e
  split at e<;>cases e
def Fun.okM{K:X4}{st:Stmt}{k:Nat}
  (F:Fun K x qual st f d)(S:FnScope N u (XT st))(T:Fts P w K mg base k G Φ)(R:ISs)(i:chkSs G (XT st) N R (Ys st)=wf)
  (len:∀y M Q,l y M Q->y.length=u.length)(h:∀y M Q,l y M Q->wSs Φ R {nx:=λ_ W=>Q .non W,rt:=Q} (UU N.length y) M):FnOk P w K mg base CX0 (k+1) f d u (liSp K l):=by
 erw[F.ok S (λy H Q E Y=>?_) λZ A g s H y Q E U Y=>?_]
 .have⟨B,M,r,o,q⟩:=Y;rw[<-r.length];erw[len _ _ _ q]
 have⟨B,M,r,o,q⟩:=Y;have c:Cok (cxOf CX0 P w K mg base N qual (XT st) f Z A g s H E).nox G Φ:=
  ⟨(by have:=U.un;show(A.deeper _).units+70<cLine;lia),rfl,rfl,(by show(if(XT st).kind.isAnnotationScope then Gp else(XT st).kind)=.function;rw[S.kind];rfl),S.nd,T.bls,T.gls,T.fnn,T.mon,
   (λj f l n p=>by have⟨e,d,u,F,L,D,O⟩:=T.fns j f l n p;erw[⟨k,e,d,u,U,F,L,D,O⟩]),
   (λj c m h=>by have⟨f,l,p,C,e,d,u,F,I,b,L,O⟩:=T.mts j c m h;erw[⟨f,l,p,k,C,e,d,u,U,F,I,b,L,O⟩]),
   (λj c h=>by have⟨f,l,p,a,C,e,d,u,D,F,I,L,J,O⟩:=T.mks j c h;erw[⟨f,l,p,a,C,e,d,u,U.mono D,F,I,L,J,O⟩]),T.cls⟩
 erw[⟨_,sSs R c (λ_=>rfl) i,UU N.length B,M,_iC r,o,?_⟩];erw[mon_ss T.mon R ?_ (h B M _ q)];erw[⟨λσ W z σv H' k1 rs' X=>z _ _ k1 .non X,λv W z=>z⟩]
noncomputable def J5:SpM:=λl M Q=>∃j:List Int,l=[.frl (j.map .int)]/\j.length<=63/\∀u,Q (.bl wf) u
def BY(K:X4):Sp:=λl H Q _=>∃(a:Addr) (j:List Int),l=[.ref a]/\FrL K H a (j.map V.int)/\j.length<=63/\∀u,Q (.bl wf) u
def _lY{K:X4}{k:Nat}(F:FnOk P w K mg base CX0 k f fd ps (liSp K J5)):FnOk P w K mg base CX0 k f fd ps (BY K):=
 F.imp λy H Q E ⟨a,j,e,l,u,q⟩=>by
  subst e;erw[⟨[.frl (j.map .int)],λ_=>we,.cons (.frl l (RMs.ints j)) .nil,λ_ _ z=>(by cases z),j,rfl,u,λm=>?_⟩]
  intro v g k r d;cases r;erw[q _]
def _oN{K:X4}(o:Only H)(h:SqL K H a vs):FrL K H a vs:=by
 rcases h with(h|⟨j,h⟩)|h
 .rcases o a with z|⟨j,l,z⟩
  .rw[h]at z;cases z
  .rw[h]at z;cases z
 .erw[.inl ⟨j,h⟩]
 .erw[.inr h]
def _op{K:X4}{k:Nat}(L:∀x∈G.bl,mg x=we)(N:∀p∈G.gl,∃O,mg p.1=wc (.int p.2 O))(d:Φ.map (·.1)=G.fns)
  (R:∀p∈Φ++Ψ,MonW p.2)(T:∀p∈Φ,∃l y z,FnOk P w K mg base CX0 k l y z (liSp K p.2)/\mg p.1=wc (.ref l)/\Zq K (.ref l)=wf/\Binds K y z [])
  (U:∀q∈G.mts,∃f u,(Φ++Ψ)[q.1]?=wc (f,u)/\∃C l y z,FnOk P w K mg base CX0 k l y z (liSp K u)/\XC K Xp q.2.1=wc (wc (.ref C))/\Cls K C/\Meth K C q.2.2 l/\Binds K y z [])
  (W:∀q∈G.mks,∃f u,(Φ++Ψ)[q.1]?=wc (f,u)/\∃r C l y z,r+1<=k/\FnOk P w K mg base CX0 r l y z (liSp K u)/\XC K Xp q.2=wc (wc (.ref C))/\mg q.2=wc (.ref C)/\Mk K C l/\Binds K y z [])
  (Y:∀q∈G.cls,∃C,XC K Xp q.1=wc (wc (.ref C))/\Cls K C/\NoAttr K C q.2):Fts P w K mg base k G (Φ++Ψ)where
 bls:=λx h=>L x (by simpa using h)
 gls:=λx i h=>N (x,i) (VW h)
 fnn:=λj f h=>by
  rw[<-d,Xe]at h;cases e:Φ[j]? with
  |none=>rw[e]at h;cases h
  |some p=>rw[e]at h;cases h;erw[⟨p.2,by rw[ZA (Xm.mp e).1,e]⟩]
 mon:=λj f u h=>R (f,u) (Xd h)
 fns:=λj f u g h=>by
  rw[<-d,Xe]at g;cases e:Φ[j]? with
  |none=>rw[e]at g;cases g
  |some p=>
   rw[ZA (Xm.mp e).1,e]at h;cases h;erw[T (f,u) (Xd e)]
 mts:=λj c m h=>U (j,c,m) (by simpa using h)
 mks:=λj c h=>W (j,c) (by simpa using h)
 cls:=λc f h=>Y (c,f) (by simpa using h)
def _oo{K:X4}{k:Nat}(e:Φ++Ψ=Χ)(m:∀x∈G.bl,mg x=we)(g:∀p∈G.gl,∃d,mg p.1=wc (.int p.2 d))(c:Φ.map (·.1)=G.fns)
  (r:∀p∈Χ,MonW p.2)(L:∀p∈Φ,∃j l u,FnOk P w K mg base CX0 k j l u (liSp K p.2)/\mg p.1=wc (.ref j)/\Zq K (.ref j)=wf/\Binds K l u [])
  (N:∀q∈G.mts,∃f y,Χ[q.1]?=wc (f,y)/\∃C j l u,FnOk P w K mg base CX0 k j l u (liSp K y)/\XC K Xp q.2.1=wc (wc (.ref C))/\Cls K C/\Meth K C q.2.2 j/\Binds K l u [])
  (O:∀q∈G.mks,∃f y,Χ[q.1]?=wc (f,y)/\∃z C j l u,z+1<=k/\FnOk P w K mg base CX0 z j l u (liSp K y)/\XC K Xp q.2=wc (wc (.ref C))/\mg q.2=wc (.ref C)/\Mk K C j/\Binds K l u [])
  (R:∀q∈G.cls,∃C,XC K Xp q.1=wc (wc (.ref C))/\Cls K C/\NoAttr K C q.2):Fts P w K mg base k G Χ:=by
 subst e;erw[_op m g c r L N O R]
structure Fn1 (K:X4)(x:Str)(st:Stmt)(f:Addr)(d:Zk):Prop where
 a:XC K Xp x=wc (wc (.ref f))
 F:Fun K x x st f d
structure FnT (K:X4)(mg:Str->Option X0)(x:Str)(ps:List Str)(st:Stmt)(f:Addr)(d:Zk):Prop where
 F:Fun K x x st f d
 b:Binds K d ps []
 m:mg x=wc (.ref f)
structure Mt1 (K:X4)(C:Addr)(m qual:Str)(st:Stmt)(f:Addr)(d:Zk):Prop where
 M:Meth K C m f
 F:Fun K m qual st f d
def mt_mk{K:X4}{C:Addr}{x j:Str}{st:Stmt}{f:Addr}{d:X0}{q z:Option Addr}{y:Array (Option X0)}{kV w m u g:X0}(a:Y3 K (.ref C) x=wc (wc (.ref f)))(i:B8 K (.ref f)=wf)
  (l:K.lookup f=wc ⟨d,q,.func (ZH x j (Ut st) (Ys st) (XT st) .none kV w m z u g),y⟩)(c:B5 K u j=wf)(k:Zq K (.ref f)=wf):Mt1 K C x j st f (ZH x j (Ut st) (Ys st) (XT st) .none kV w m z u g):=⟨⟨a,i,k⟩,fun_mk l c k⟩
def Fn1.t{K:X4}{st:Stmt}(H:Fn1 K x st f d)(X:K.In h)(G:h.Ns Xp mg)
  (b:∀(kV j w:X0)(y:Option Addr)(l z:X0)(u:List X0),u.length=ps.length->bindArgs (ZH x x (Ut st) (Ys st) (XT st) .none kV j w y l z) ⟨u,[]⟩=pure (ps.zip u)):FnT K mg x ps st f d:=⟨H.F,H.F.binds b,B7 X G H.a⟩
def Fn1.bt{K:X4}{st:Stmt}(H:Fn1 K x st f d)
  (r:∀(kV j u:X0)(w:Option Addr)(l z v:X0),bindArgs (ZH x x (Ut st) (Ys st) (XT st) .none kV j u w l z) ⟨[v],[]⟩=pure [(y,v)])(s:X2)(v:X0):BindsTo s d ⟨[v],[]⟩ [(y,v)]:=by
 have⟨_,_,kV,j,u,w,l,z,_,rfl,_⟩:=H.F.ex;erw[.of_eq (r kV j u w l z v)]
def us0{p:List X0->Prop}(h:p [])(j:List X0)(l:j.length=0):p j:=by cases j with|nil=>erw[h]|cons _ _=>cases l
def us1{p:List X0->Prop}(h:∀u,p [u])(j:List X0)(l:j.length=1):p j:=by cases j with|nil=>cases l|cons a r=>erw[us0 (p:=λr=>p (a::r)) (h a) r (WN l)]
def us2{p:List X0->Prop}(h:∀u w,p [u,w])(j:List X0)(l:j.length=2):p j:=by cases j with|nil=>cases l|cons a r=>erw[us1 (p:=λr=>p (a::r)) (h a) r (WN l)]
def us3{p:List X0->Prop}(h:∀u w y,p [u,w,y])(j:List X0)(l:j.length=3):p j:=by cases j with|nil=>cases l|cons a r=>erw[us2 (p:=λr=>p (a::r)) (h a) r (WN l)]
def us4{p:List X0->Prop}(h:∀u w y z,p [u,w,y,z])(j:List X0)(l:j.length=4):p j:=by cases j with|nil=>cases l|cons a r=>erw[us3 (p:=λr=>p (a::r)) (h a) r (WN l)]
def us5{p:List X0->Prop}(h:∀u w y z m,p [u,w,y,z,m])(j:List X0)(l:j.length=5):p j:=by cases j with|nil=>cases l|cons a r=>erw[us4 (p:=λr=>p (a::r)) (h a) r (WN l)]
section
variable{M:MH}{Q:QM}{i j:Int}{x y:MV}{a b:Addr}
def _q5:wBin .Add (.int i) (.int j) M Q=Q (.int (i+j)) M:=rfl
def _py:wBin .Sub (.int i) (.int j) M Q=Q (.int (i - j)) M:=rfl
def _pT:wBin .Mult (.int i) (.int j) M Q=(CMul i j/\Q (.int (i*j)) M):=rfl
def _nM:wBin .FloorDiv (.int i) (.int j) M Q=(WV i j/\Q (.int (i/j)) M):=rfl
def _pU:wBin .Mod (.int i) (.int j) M Q=(0<j/\Q (.int (i%j)) M):=rfl
def _pK:wBin .Pow (.int i) (.int j) M Q=(CPow i j/\Q (.int (i^j.toNat)) M):=rfl
def _q3:wBin .BitAnd (.int i) (.int j) M Q=Q (.int (By i j)) M:=rfl
def _pn:wBin .BitXor (.int i) (.int j) M Q=Q (.int (Bz i j)) M:=rfl
def _nQ{x y:Str}:wBin .Add (.str x) (.str y) M Q=(x.length+y.length<=sizeLine/\Q (.str (x++y)) M):=rfl
def _nz{x:Str}:wBin .Mult (.str x) (.int i) M Q=(x.length<=16/\ -1000<=i/\i<=1000/\Q (.str (Txt.mul x i)) M):=rfl
def _nP:wBin .Add (.tup xs) (.tup ys) M Q=(xs≠ []/\xs.length+ys.length<=sizeLine/\Q (.tup (xs++ys)) M):=rfl
def _ny:wBin .Mult (.tup xs) (.int i) M Q=(xs≠ []/\1<=i/\xs.length*i.toNat<=1000000/\Q (.tup (Xi i.toNat xs).flatten) M):=rfl
def _nA:wBin .Mult (.ref a) (.int i) M Q=∃l,M a=wc (.lst l)/\ -(2^63)<=i/\i<2^63/\l.length*i.toNat<=sizeLine/\∀p,M p=we->Q (.ref p) (updM M p (.lst (Xi i.toNat l).flatten)):=rfl
def q_lt:wCmp .Lt (.int i) (.int j) M Q=Q (.bl (decide (i<j))) M:=propext ⟨λl=>by have⟨_,_,e,f,h⟩:=l;cases e;cases f;erw[h],λh=>⟨i,j,rfl,rfl,h⟩⟩
def q_le:wCmp .LtE (.int i) (.int j) M Q=Q (.bl (decide (i<=j))) M:=propext ⟨λh=>Or.elim h (λl=>by have⟨_,_,e,f,h⟩:=l;cases e;cases f;erw[h]) (λl=>by have⟨_,_,e,_⟩:=l;erw[nomatch e]),λh=>Or.inl ⟨i,j,rfl,rfl,h⟩⟩
def _pV{x y:Str}:wCmp .LtE (.str x) (.str y) M Q=Q (.bl (!decide (y.cps.toList<x.cps.toList))) M:=propext ⟨λh=>Or.elim h (λl=>by have⟨_,_,e,_⟩:=l;erw[nomatch e]) (λl=>by have⟨_,_,e,f,h⟩:=l;cases e;cases f;erw[h]),λh=>Or.inr ⟨x,y,rfl,rfl,h⟩⟩
def q_gt:wCmp .Gt (.int i) (.int j) M Q=Q (.bl (decide (j<i))) M:=propext ⟨λl=>by have⟨_,_,e,f,h⟩:=l;cases e;cases f;erw[h],λh=>⟨i,j,rfl,rfl,h⟩⟩
def q_ge:wCmp .GtE (.int i) (.int j) M Q=Q (.bl (decide (j<=i))) M:=propext ⟨λl=>by have⟨_,_,e,f,h⟩:=l;cases e;cases f;erw[h],λh=>⟨i,j,rfl,rfl,h⟩⟩
def _q1:wCmp .Eq (.int i) (.int j) M Q=Q (.bl (decide (i=j))) M:=rfl
def _pR:wCmp .NotEq (.int i) (.int j) M Q=Q (.bl (!decide (i=j))) M:=rfl
def _q0{x y:Str}:wCmp .Eq (.str x) (.str y) M Q=Q (.bl (decide (x=y))) M:=rfl
def _pP{x y:Str}:wCmp .NotEq (.str x) (.str y) M Q=Q (.bl (!decide (x=y))) M:=rfl
def q_is:wCmp .Is x .non M Q=Q (.bl (Uv x)) M:=propext ⟨λh=>Or.elim h (λh=>h.2) (λl=>by have⟨_,e,_⟩:=l;erw[nomatch e]),λh=>Or.inl ⟨rfl,h⟩⟩
def _l9:wCmp .IsNot x .non M Q=Q (.bl (!Uv x)) M:=propext ⟨λh=>Or.elim h (λh=>h.2) (λl=>by have⟨_,e,_⟩:=l;erw[nomatch e]),λh=>Or.inl ⟨rfl,h⟩⟩
def _pQ:wCmp .NotEq (.ref a) y M Q=wEq (.ref a) y M λb=>Q (.bl (!b)) M:=rfl
def q_in:wCmp .In x y M Q=wIn x y M λb=>Q (.bl b) M:=rfl
def _pO:wCmp .NotIn x y M Q=wIn x y M λb=>Q (.bl (!b)) M:=rfl
def J7{k:Bool->Prop}(h:M a=wc (.lst xs))(l:M b=wc (.lst []))(q:k xs.isEmpty):wEq (.ref a) (.ref b) M k:=.inr (.inr (.inl ⟨a,b,xs,rfl,rfl,h,l,q⟩))
def eq_alike{k:Bool->Prop}(n:eqS x y=we)(h:Alike M m x y)(le:m<=60)(q:k wf):wEq x y M k:=by
 unfold wEq;rw[n];erw[.inr (.inl ⟨m,le,h,q⟩)]
def Alike.flat(n:Nat)(f:Yh x=wf):Alike M n x x:=by
 cases n<;>rw[Alike]
 .erw[⟨f,rfl⟩]
 .erw[.inl ⟨f,rfl⟩]
theorem Alike.tup(e:xs.length=ys.length)(h:∀(i:Nat)u v,xs[i]?=wc u->ys[i]?=wc v->Alike M n u v):Alike M (n+1) (.tup xs) (.tup ys):=by
 rw[Alike];erw[.inr (.inl ⟨xs,ys,rfl,rfl,e,h⟩)]
def Alike.two{a b l w:MV}{n:Nat}(m:Alike M n a l)(g:Alike M n b w):Alike M (n+1) (.tup [a,b]) (.tup [l,w]):=by
 erw[.tup rfl λi u v h z=>?_]
 match i with
 |0=>cases h;cases z;erw[m]
 |1=>cases h;cases z;erw[g]
 |i+2=>cases h
def Alike.lst(l:LstM M x xs)(w:LstM M y ys)(e:xs.length=ys.length)(h:∀(i:Nat)u v,xs[i]?=wc u->ys[i]?=wc v->Alike M n u v):Alike M (n+1) x y:=by
 rw[Alike];erw[.inr (.inr (.inl ⟨xs,ys,l,w,e,h⟩))]
theorem Alike.dic{a b:Addr}{l w:List (Key×MV)}{n:Nat}(z:M a=wc (.dic l))(m:M b=wc (.dic w))(e:l.length=w.length)(h:∀k u,(k,u)∈l->∃v,valM w k=wc v/\Alike M n u v):Alike M (n+1) (.ref a) (.ref b):=by
 rw[Alike];erw[.inr (.inr (.inr ⟨a,b,l,w,rfl,rfl,z,m,e,h⟩))]
def ixO(o:Option MO)(y:MV)(M:MH)(Q:QM):Prop:=match o with
 |wc (.lst xs)=>∃i v,y=.int i/\atI xs i=wc v/\Q v M
 |wc (.dic kvs)=>∃l v,keyM y=wc l/\valM kvs l=wc v/\Q v M
 |wc (.fdic _ kvs)=>∃l v,keyM y=wc l/\valM kvs l=wc v/\Q v M
 |_=>False
def J8:wIx (.ref a) y M Q=ixO (M a) y M Q:=propext ⟨λh=>by
  rcases h with⟨w,i,v,e,r⟩|⟨l,u,v,e,r⟩|⟨o,l,u,v,e,r⟩
  .rw[e];erw[⟨i,v,r⟩]
  .rw[e];erw[⟨u,v,r⟩]
  .rw[e];erw[⟨u,v,r⟩],λh=>by
  cases e:M a with
  |none=>rw[e]at h;erw[h.elim]
  |some o=>
   rw[e]at h;cases o with
   |lst w=>have⟨i,v,r⟩:=h;erw[.inl ⟨w,i,v,e,r⟩]
   |dic l=>have⟨u,v,r⟩:=h;erw[.inr (.inl ⟨l,u,v,e,r⟩)]
   |ins _ _=>erw[h.elim]
   |fdic o l=>have⟨u,v,r⟩:=h;erw[.inr (.inr ⟨o,l,u,v,e,r⟩)]⟩
def J9:ixO (wc (.lst xs)) (.int i) M Q=∃v,atI xs i=wc v/\Q v M:=propext ⟨λl=>by have⟨_,v,e,h⟩:=l;cases e;erw[⟨v,h⟩],λl=>by have⟨v,h⟩:=l;erw[⟨i,v,rfl,h⟩]⟩
def _l7{l:List (Key×MV)}{x:Str}:ixO (wc (.dic l)) (.str x) M Q=∃v,valM l (Xn x)=wc v/\Q v M:=propext ⟨λu=>by have⟨_,v,e,h⟩:=u;cases e;erw[⟨v,h⟩],λu=>by have⟨v,h⟩:=u;erw[⟨_,v,rfl,h⟩]⟩
def _l6{o:Obj}{l:List (Key×MV)}{x:Str}:ixO (wc (.fdic o l)) (.str x) M Q=∃v,valM l (Xn x)=wc v/\Q v M:=propext ⟨λu=>by have⟨_,v,e,h⟩:=u;cases e;erw[⟨v,h⟩],λu=>by have⟨v,h⟩:=u;erw[⟨_,v,rfl,h⟩]⟩
def Ja:wIx (.tup xs) (.int i) M Q=∃v,atI xs i=wc v/\Q v M:=propext ⟨λl=>by have⟨_,v,e,h⟩:=l;cases e;erw[⟨v,h⟩],λl=>by have⟨v,h⟩:=l;erw[⟨i,v,rfl,h⟩]⟩
def _pX:wIx (.frl xs) (.int i) M Q=∃v,atI xs i=wc v/\Q v M:=propext ⟨λl=>by have⟨_,v,e,h⟩:=l;cases e;erw[⟨v,h⟩],λl=>by have⟨v,h⟩:=l;erw[⟨i,v,rfl,h⟩]⟩
def _pW:wIx (.str z) (.int i) M Q=(z.length<=sizeLine/\∃c,atI z.cps.toList i=wc c/\Q (.str ⟨#[c]⟩) M):=propext ⟨λl=>by have⟨_,c,e,u,w⟩:=l;cases e;erw[⟨u,c,w⟩],λl=>by have⟨u,c,w⟩:=l;erw[⟨i,c,rfl,u,w⟩]⟩
def slO(o:Option MO)(lo l:Option Int)(M:MH)(Q:QM):Prop:=match o with
 |wc (.lst xs)=>∀p,M p=we->Q (.ref p) (updM M p (.lst (cutM xs lo l)))
 |_=>False
def _pD{lo:Option Int}:wSl (.ref a) lo hi M Q=slO (M a) lo hi M Q:=propext ⟨λu=>by have⟨l,e,h⟩:=u;rw[e];erw[h],λh=>by
  cases e:M a with
  |none=>rw[e]at h;erw[h.elim]
  |some o=>
   rw[e]at h;cases o with
   |lst l=>erw[⟨l,e,h⟩]
   |dic w=>erw[h.elim]
   |ins _ _=>erw[h.elim]
   |fdic _ _=>erw[h.elim]⟩
def _nt{lo:Option Int}:slO (wc (.lst xs)) lo hi M Q=∀p,M p=we->Q (.ref p) (updM M p (.lst (cutM xs lo hi))):=rfl
def _pE{lo:Option Int}:wSl (.frl xs) lo hi M Q=∀p,M p=we->Q (.ref p) (updM M p (.lst (cutM xs lo hi))):=rfl
def _pC{lo:Option Int}:wSl (.tup xs) lo hi M Q=Q (.tup (cutM xs lo hi)) M:=rfl
def _nD:wBi .len [.tup xs] M Q=Q (.int xs.length) M:=rfl
def _nG:wBi .len [.frl xs] M Q=Q (.int xs.length) M:=rfl
def _nE:wBi .len [.str z] M Q=(z.length<=sizeLine/\Q (.int z.length) M):=rfl
noncomputable def lenO(o:Option MO)(M:MH)(Q:QM):Prop:=match o with
 |wc (.lst xs)=>Q (.int xs.length) M
 |wc (.dic kvs)=>Q (.int kvs.length) M
 |_=>False
def _nF:wBi .len [.ref a] M Q=lenO (M a) M Q:=propext ⟨λh=>by
  rcases h with⟨u,e,h⟩|⟨l,e,h⟩<;>(rw[e];erw[h]),λh=>by
  cases e:M a with
  |none=>rw[e]at h;erw[h.elim]
  |some o=>
   rw[e]at h;cases o with
   |lst u=>erw[.inl ⟨u,e,h⟩]
   |dic l=>erw[.inr ⟨l,e,h⟩]
   |ins _ _=>erw[h.elim]
   |fdic _ _=>erw[h.elim]⟩
def _l5:lenO (wc (.lst xs)) M Q=Q (.int xs.length) M:=rfl
def isO(o:Option Ty7)(c:Ty7)(M:MH)(Q:QM):Prop:=match o with
 |wc T=>c≠.none/\Q (.bl (isTy T c)) M
 |we=>False
def _pY:wBi .isinst [x,.ty c] M Q=isO (tyM M x) c M Q:=propext (by
 have e:wBi .isinst [x,.ty c] M Q=∃T,tyM M x=wc T/\c≠.none/\Q (.bl (isTy T c)) M:=by cases x<;>rfl
 rw[e];erw[⟨λl=>by have⟨T,e,h⟩:=l;rw[e];erw[h],λh=>by
  cases e:tyM M x with
  |none=>rw[e]at h;erw[h.elim]
  |some T=>rw[e]at h;erw[⟨T,rfl,h⟩]⟩])
def isO2(o:Option Ty7)(c d:Ty7)(M:MH)(Q:QM):Prop:=match o with
 |wc T=>c≠.none/\d≠.none/\Q (.bl (isTy T c||isTy T d)) M
 |we=>False
def _nK:wBi .isinst [x,.tup [.ty c,.ty d]] M Q=isO2 (tyM M x) c d M Q:=propext (by
 have e:wBi .isinst [x,.tup [.ty c,.ty d]] M Q=∃T,tyM M x=wc T/\c≠.none/\d≠.none/\Q (.bl (isTy T c||isTy T d)) M:=by cases x<;>rfl
 rw[e];erw[⟨λl=>by have⟨T,e,h⟩:=l;rw[e];erw[h],λh=>by
  cases e:tyM M x with
  |none=>rw[e]at h;erw[h.elim]
  |some T=>rw[e]at h;erw[⟨T,rfl,h⟩]⟩])
def _l8:isO2 (wc T) c d M Q=(c≠.none/\d≠.none/\Q (.bl (isTy T c||isTy T d)) M):=rfl
def _nJ:isO (wc T) c M Q=(c≠.none/\Q (.bl (isTy T c)) M):=rfl
def _pr:tyM M (.int i)=wc .int:=rfl
def _pp{k:Str}:tyM M (.str k)=wc .str:=rfl
def _po:tyM M (.tup xs)=wc .tuple:=rfl
def _pq:tyM M (.ref a)=tyO (M a):=rfl
def _np:tyO (wc (.lst xs))=wc .list:=rfl
def _q4:wBi .all [.ref a] M Q=∃bs:List Bool,M a=wc (.lst (bs.map MV.bl))/\Q (.bl (bs.all id)) M:=rfl
def _lb:wBi .dictL [.ref a] M Q=∃l:List (Key×MV),M a=wc (.lst (l.map prM))/\∀p,M p=we->Q (.ref p) (updM M p (.dic (U2 l))):=rfl
def _l3:wBi .list [.tup xs] M Q=∀p,M p=we->Q (.ref p) (updM M p (.lst xs)):=rfl
def _l4:wBi .list [.ref a] M Q=∃l,M a=wc (.lst l)/\∀p,M p=we->Q (.ref p) (updM M p (.lst l)):=rfl
def _nq:wBi .tuple [.ref a] M Q=∃l,M a=wc (.lst l)/\Q (.tup l) M:=rfl
def _la:wBi .dict [.tup xs] M Q=∃l:List (Key×MV),xs=l.map prM/\∀p,M p=we->Q (.ref p) (updM M p (.dic (U2 l))):=rfl
def _nN:wBi .dict [.ref a] M Q=∃l,M a=wc (.dic l)/\∀p,M p=we->Q (.ref p) (updM M p (.dic l)):=rfl
def apO(o:Option MO)(a:Addr)(y:MV)(M:MH)(Q:QM):Prop:=match o with
 |wc (.lst xs)=>xs.length<sizeLine/\Q .non (updM M a (.lst (xs++[y])))
 |_=>False
def _q2:wMts .append (.ref a) [y] M Q=apO (M a) a y M Q:=propext ⟨λu=>by have⟨l,e,h⟩:=u;rw[e];erw[h],λh=>by
  cases e:M a with
  |none=>rw[e]at h;erw[h.elim]
  |some o=>
   rw[e]at h;cases o with
   |lst l=>erw[⟨l,e,h⟩]
   |dic w=>erw[h.elim]
   |ins _ _=>erw[h.elim]
   |fdic _ _=>erw[h.elim]⟩
def _nO:apO (wc (.lst xs)) a y M Q=(xs.length<sizeLine/\Q .non (updM M a (.lst (xs++[y])))):=rfl
def _pZ:wMts .extend (.ref a) [.ref b] M Q=∃l,M a=wc (.lst l)/\∃u,M b=wc (.lst u)/\l.length+u.length<=sizeLine/\Q .non (updM M a (.lst (l++u))):=rfl
def _nx:mtOk .append x M=(∃a l,x=.ref a/\M a=wc (.lst l)):=rfl
def _nw:mtOk .extend x M=(∃a l,x=.ref a/\M a=wc (.lst l)):=rfl
def _nv:mtOk .remove x M=(∃a l,x=.ref a/\M a=wc (.lst l)):=rfl
def _pI{z:Str}:wMts .remove (.ref a) [.str z] M Q=∃u,M a=wc (.lst u)/\∃l:List Str,u=l.map MV.str/\z∈l/\Q .non (updM M a (.lst ((l.erase z).map MV.str))):=rfl
def puO(o:Option MO)(a:Addr)(i v:MV)(M:MH)(Q:MH->Prop):Prop:=match o with
 |wc (.lst xs)=>∃k j,i=.int k/\ixN xs.length k=wc j/\Q (updM M a (.lst (xs.set j v)))
 |wc (.dic kvs)=>∃l,keyM i=wc l/\kvs.length<sizeLine/\Q (updM M a (.dic (putM kvs l v)))
 |_=>False
def _pJ:wPut (.ref a) x v M R=puO (M a) a x v M R:=propext ⟨λh=>by
  rcases h with⟨w,k,j,e,r⟩|⟨l,u,e,r⟩
  .rw[e];erw[⟨k,j,r⟩]
  .rw[e];erw[⟨u,r⟩],λh=>by
  cases e:M a with
  |none=>rw[e]at h;erw[h.elim]
  |some o=>
   rw[e]at h;cases o with
   |lst w=>have⟨k,j,r⟩:=h;erw[.inl ⟨w,k,j,e,r⟩]
   |dic l=>have⟨u,r⟩:=h;erw[.inr ⟨l,u,e,r⟩]
   |ins _ _=>erw[h.elim]
   |fdic _ _=>erw[h.elim]⟩
def _nu:puO (wc (.lst xs)) a (.int i) v M R=∃j,ixN xs.length i=wc j/\R (updM M a (.lst (xs.set j v))):=propext ⟨λl=>by have⟨_,j,e,h⟩:=l;cases e;erw[⟨j,h⟩],λl=>by have⟨j,h⟩:=l;erw[⟨i,j,rfl,h⟩]⟩
def _l2:puO (wc (.dic kvs)) a (.str z) v M R=(kvs.length<sizeLine/\R (updM M a (.dic (putM kvs (Xn z) v)))):=propext ⟨λl=>by have⟨_,e,h⟩:=l;cases e;erw[h],λh=>⟨_,rfl,h⟩⟩
def srO(o:Option MO)(a:Addr)(M:MH)(Q:Src->MH->Prop):Prop:=match o with
 |wc (.lst xs)=>Q (.lst a xs) M
 |wc (.dic kvs)=>∀o,Q (.dic a o kvs) (updM M a (.fdic o kvs))
 |_=>False
def srV(v:MV)(M:MH)(Q:Src->MH->Prop):Prop:=(∃u,(v=.tup u\/v=.frl u)/\Q (.tup u) M)\/(∃a u,v=.ref a/\M a=wc (.lst u)/\Q (.lst a u) M)\/(∃a l,v=.ref a/\M a=wc (.dic l)/\∀o,Q (.dic a o l) (updM M a (.fdic o l)))\/∃z,v=.str z/\Q (.str z) M
def _pF:wSr Φ (.seq e) σ M R=wE Φ e σ M λv M1=>srV v M1 R:=rfl
def _pB:srV (.ref a) M R=srO (M a) a M R:=propext ⟨λh=>by
  rcases h with⟨l,e,h⟩|⟨b,l,e,f,h⟩|⟨b,l,e,f,h⟩|⟨z,e,_⟩
  .rcases e with e|e<;>cases e
  .cases e;rw[f];erw[h]
  .cases e;rw[f];erw[h]
  .erw[(nomatch e)],λh=>by
  cases e:M a with
  |none=>rw[e]at h;erw[h.elim]
  |some o=>
   rw[e]at h;cases o with
   |lst l=>erw[.inr (.inl ⟨a,l,rfl,e,h⟩)]
   |dic u=>erw[.inr (.inr (.inl ⟨a,u,rfl,e,h⟩))]
   |ins _ _=>erw[h.elim]
   |fdic _ _=>erw[h.elim]⟩
def _ns{l:List (Key×MV)}{R:Src->MH->Prop}:srO (wc (.dic l)) a M R=∀o,R (.dic a o l) (updM M a (.fdic o l)):=rfl
def _pA:srV (.str z) M R=R (.str z) M:=propext ⟨λh=>by
  rcases h with⟨l,e,h⟩|⟨_,_,e,_⟩|⟨_,_,e,_⟩|⟨_,e,h⟩
  .rcases e with e|e<;>erw[(nomatch e)]
  .erw[(nomatch e)]
  .erw[(nomatch e)]
  .cases e;erw[h],λh=>.inr (.inr (.inr ⟨z,rfl,h⟩))⟩
def _pu:Src.thaw M (.tup xs)=M:=rfl
def _pt:Src.thaw M (.lst a xs)=M:=rfl
def _ps:Src.thaw M (.rng i n)=M:=rfl
def _pN:Src.okT M (.tup xs)=True:=rfl
def _pM:Src.okT M (.lst a xs)=True:=rfl
def _pL:Src.okT M (.rng i n)=True:=rfl
def _nr:srO (wc (.lst xs)) a M R=R (.lst a xs) M:=rfl
def _pz:srV (.tup zs) M R=R (.tup zs) M:=propext ⟨λh=>by
  rcases h with⟨l,e,h⟩|h
  .rcases e with e|e
   .cases e;erw[h]
   .erw[nomatch e]
  .rcases h with⟨_,_,e,_⟩|⟨_,_,e,_⟩|⟨_,e,_⟩<;>erw[(nomatch e)],λh=>.inl ⟨zs,.inl rfl,h⟩⟩
noncomputable def rgV(v:MV)(M:MH)(Q:Src->MH->Prop):Prop:=∃j,v=.int j/\ -(2^62)<=j/\j<2^62/\Q (.rng 0 j.toNat) M
def _pG:wSr Φ (.rng e) σ M R=wE Φ e σ M λv M1=>rgV v M1 R:=rfl
def _pH:rgV (.int i) M R=(-(2^62)<=i/\i<2^62/\R (.rng 0 i.toNat) M):=propext ⟨λl=>by have⟨_,e,h⟩:=l;cases e;erw[h],λh=>⟨i,rfl,h⟩⟩
def _nC:wBi .max [.int i,.int j] M Q=Q (.int (if j>i then j else i)) M:=rfl
def _nB:wBi .min [.int i,.int j] M Q=Q (.int (if j<i then j else i)) M:=rfl
def _nL{k:Bool}:wBi .int [.bl k] M Q=Q (.int (if k then 1 else 0)) M:=rfl
end
def v_s{k:MV->Prop}:onV (wc (wc v)) k=k v:=rfl
def b_0{k:Bool->Prop}:onB (.bl b) k=k b:=rfl
def f_s{k:SpM->Prop}:onF (wc (f,sp)) k=k sp:=rfl
def _qp:wE Φ (.var i) σ M Q=onV σ[i]? (λv=>Q v M):=rfl
def _qx:wE Φ (.int i) σ M Q=(Q (.int i) M):=rfl
def _qr:wE Φ (.str x) σ M Q=(Q (.str x) M):=rfl
def e_bl:wE Φ (.bl b) σ M Q=(Q (.bl b) M):=rfl
def _qt:wE Φ (.non) σ M Q=(Q .non M):=rfl
def _qz:wE Φ (.glb x i) σ M Q=(Q (.int i) M):=rfl
def e_ty:wE Φ (.ty c) σ M Q=(Q (.ty c) M):=rfl
def _qD:wE Φ (.bin op a b) σ M Q=(wE Φ a σ M λx M1=>wE Φ b σ M1 λy M2=>wBin op x y M2 Q):=rfl
def _qu:wE Φ (.neg a) σ M Q=(wE Φ a σ M λx M1=>∃i,x=.int i/\Q (.int (-i)) M1):=rfl
def _qs:wE Φ (.not a) σ M Q=(wE Φ a σ M λx M1=>onB x λb=>Q (.bl (!b)) M1):=rfl
def _qB:wE Φ (.cmp op a b) σ M Q=(wE Φ a σ M λx M1=>wE Φ b σ M1 λy M2=>wCmp op x y M2 Q):=rfl
def _qC:wE Φ (.chn op op' a b c) σ M Q=(wE Φ a σ M λx M1=>wE Φ b σ M1 λy M2=>wCmp op x y M2 λz j=>onB z λk=>(if k=wf then wE Φ c σ j λw l=>wCmp op' y w l Q else Q (.bl wg) j)):=rfl
def _qE:wE Φ (.and a b) σ M Q=(wE Φ a σ M λx M1=>onB x λc=>(if c=wf then wE Φ b σ M1 Q else Q (.bl wg) M1)):=rfl
def e_or:wE Φ (.or a b) σ M Q=(wE Φ a σ M λx M1=>onB x λc=>(if c=wf then Q (.bl wf) M1 else wE Φ b σ M1 Q)):=rfl
def _qy:wE Φ (.ife c a b) σ M Q=(wE Φ c σ M λx M1=>onB x λk=>(if k=wf then wE Φ a σ M1 Q else wE Φ b σ M1 Q)):=rfl
def _qq:wE Φ (.tup es) σ M Q=(wEs Φ es σ M λj M1=>j.length<=sizeLine/\Q (.tup j) M1):=rfl
def _qw:wE Φ (.lst es) σ M Q=(wEs Φ es σ M λj M1=>j.length<=sizeLine/\∀p,M1 p=we->Q (.ref p) (updM M1 p (.lst j))):=rfl
def e_ix:wE Φ (.ix a b) σ M Q=(wE Φ a σ M λx M1=>wE Φ b σ M1 λy M2=>wIx x y M2 Q):=rfl
def e_sl{lo:IO}:wE Φ (.sl a lo hi) σ M Q=(wE Φ a σ M λx M1=>wO Φ lo σ M1 λl M2=>wO Φ hi σ M2 λh j=>wSl x l h j Q):=rfl
def _oR:wE Φ (.call j e es) σ M Q=(wE Φ e σ M λv M1=>wEs Φ es σ M1 λl M2=>onF Φ[j]? λu=>u (v::l) M2 Q):=rfl
def e_b2:wE Φ (.b2 f e) σ M Q=(wE Φ e σ M λv M1=>wB2 f v M1 Q):=rfl
def _qv{j:List (Str×SpM)}{l:Sm}{M:MH}{Q:QM}{e:IE}:wE j (.mxd e) l M Q=(wE j e l M λv M1=>wMxd v M1 Q):=rfl
def _pS{a:Addr}{M:MH}{Q:QM}:wMxd (.ref a) M Q=(∃j:List Int,M a=wc (.lst (j.map MV.int))/\∀m,(j=[]/\m=0\/m∈j/\∀i∈j,i<=m)->Q (.int m) M):=propext ⟨λl=>by have⟨_,j,e,h⟩:=l;cases e;erw[⟨j,h⟩],λl=>by have⟨j,h⟩:=l;erw[⟨a,j,rfl,h⟩]⟩
def e_bi:wE Φ (.bi f e es) σ M Q=(wE Φ e σ M λv M1=>wEs Φ es σ M1 λj M2=>wBi f (v::j) M2 Q):=rfl
def e_mt:wE Φ (.mt m o es) σ M Q=(wE Φ o σ M λx M1=>mtOk m x M1/\wEs Φ es σ M1 λj M2=>wMts m x j M2 Q):=rfl
def _qA:wE Φ (.fld c o f) σ M Q=(wE Φ o σ M λx M1=>∃a fs v,x=.ref a/\M1 a=wc (.ins c fs)/\valM fs f=wc v/\Q v M1):=rfl
def _mt:wE Φ (.mcall j c m o es) σ M Q=(wE Φ o σ M λx M1=>∃a fs,x=.ref a/\M1 a=wc (.ins c fs)/\valM fs m=we/\wEs Φ es σ M1 λu M2=>∃f l,Φ[j]?=wc (f,l)/\l (.ref a::u) M2 Q):=rfl
def _oQ:wE Φ (.make j c e es) σ M Q=(wE Φ e σ M λv M1=>wEs Φ es σ M1 λw M2=>∃f l,Φ[j]?=wc (f,l)/\∀p,M2 p=we->l (.ref p::v::w) (updM M2 p (.ins c [])) λu y=>u=.non/\Q (.ref p) y):=rfl
def BZ{own:List Str}{fr:List Nat}:wE Φ (.comp own fr src tg test elt) σ M Q=(wSr Φ src σ M λS M1=>S.len<sizeLine/\∀D,M1 D=we->∃J:Nat->List MV->MH->Prop,J 0 [] (updM M1 D (.lst []))/\
   (∀i j M2,J i j M2->M2 D=wc (.lst j)/\j.length<=i/\S.ok M2)/\
   (∀i x j M2,S.items[i]?=wc x->J i j M2->wTg tg x (sCm own fr σ) λl=>wI Φ test l M2 λb u=>
    if b=wf then wE Φ elt l u λy w=>w D=wc (.lst j)/\J (i+1) (j++[y]) (updM w D (.lst (j++[y])))else J (i+1) j u)/\
   ∀j M2,J S.len j M2->Q (.ref D) (S.thaw M2)):=rfl
def C0{M j:MH}{S:Src}(h:S.okF M):S.thaw j=j:=by
 cases S<;>first|rfl|erw[h.elim]
def _O{own:List Str}{fr:List Nat}{O:Type}(l:List O)(f g:O->MV)
  (U:wSr Φ src σ M λS M1=>S.items=l.map f/\l.length<sizeLine/\S.okF M1/\M1=M)
  (W:∀x∈l,∀p,(∀a o,M a=wc o->p a=wc o)->wTg tg (f x) (sCm own fr σ) λw=>wE Φ elt w p λy M2=>y=g x/\M2=p)
  (m:∀(j:Nat)f P,Φ[j]?=wc (f,P)->MonW P)(q:∀D,M D=we->Q (.ref D) (updM M D (.lst (l.map g)))):wE Φ (.comp own fr src tg .none elt) σ M Q:=by
 rw[BZ];erw[mon_sr m src (λS M1 L=>?_) U];have⟨R,Y,u,Z⟩:=L;subst Z;have T:S.len=l.length:=by rw[<-S.items_len,R,X5]
 erw[⟨by rw[T];erw[Y],λD d=>⟨λi c M2=>M2=updM M1 D (.lst c)/\c=(l.take i).map g,⟨rfl,by simp⟩,?_,?_,?_⟩⟩]
 .rintro i c M2 ⟨rfl,rfl⟩;erw[⟨Xb,by rw[X5,Yf];lia,?_⟩]
  cases S with
  |tup _=>trivial
  |rng _ _=>trivial
  |dic _ _ _=>erw[u.elim]
  |str _=>trivial
  |lst a A=>
   have:a≠D:=by intro e;subst e;have u:M1 a=wc (.lst A):=u;rw[u]at d;cases d
   show updM M1 D _ a=_;rw[X7 this];erw[u]
 .rintro i x c M2 r ⟨rfl,rfl⟩;rw[R]at r;have N:i<l.length:=by have:=(Xm.mp r).1;rw[X5]at this;erw[this]
  rw[Xe,X6 N]at r;cases r;erw[A7 tg (λw h=>?_) (W l[i] (XS N) (updM M1 D (.lst ((l.take i).map g))) (λa o e=>by
   rw[X7 (by intro z;subst z;rw[e]at d;cases d)];erw[e]))]
  rw[wI,if_pos rfl];erw[Xc m elt (λy M2 L=>?_) h];have⟨B,C⟩:=L;subst B C;erw[⟨Xb,YN,?_⟩];rw[Zp,X6 N,XY]
  rfl
 .rintro c M2 ⟨rfl,rfl⟩;rw[T,VI (X9 _),C0 u];erw[q D d]
def Jb{own:List Str}{fr:List Nat}{U:Type}(l:List U)(f g:U->MV)
  (C:wSr Φ src σ M λS M1=>S.items=l.map f/\l.length<sizeLine/\S.okF M1/\∀a o,M a=wc o->M1 a=wc o)
  (E:∀x∈l,∀u,(∀a o,M a=wc o->u a=wc o)->wTg tg (f x) (sCm own fr σ) λr=>wE Φ elt r u λy M2=>y=g x/\∀a o,u a=wc o->M2 a=wc o)
  (p:∀(j:Nat)f W,Φ[j]?=wc (f,W)->MonW W)(q:∀D u,M D=we->(∀a o,M a=wc o->u a=wc o)->u D=wc (.lst (l.map g))->Q (.ref D) u):wE Φ (.comp own fr src tg .none elt) σ M Q:=by
 rw[BZ];erw[mon_sr p src (λS M1 w=>?_) C];have⟨Y,F,O,P⟩:=w;have Z:S.len=l.length:=by rw[<-S.items_len,Y,X5]
 have R:∀D,M1 D=we->M D=we:=λD m=>by
  cases e:M D with
  |none=>rfl
  |some o=>rw[P _ _ e]at m;cases m
 have A:∀{a D:Addr} {o:MO},M1 a=wc o->M1 D=we->a≠D:=λh w z=>by subst z;rw[h]at w;cases w
 erw[⟨by rw[Z];erw[F],λD m=>⟨λi L M2=>(∀a o,M1 a=wc o->M2 a=wc o)/\M2 D=wc (.lst L)/\L=(l.take i).map g,⟨λa o e=>by rw[X7 (A e m)];erw[e],Xb,by simp⟩,?_,?_,?_⟩⟩]
 .rintro i L M2 ⟨d,c,rfl⟩;erw[⟨c,by rw[X5,Yf];lia,?_⟩]
  cases S with
  |tup _=>trivial
  |rng _ _=>trivial
  |dic _ _ _=>erw[O.elim]
  |str _=>trivial
  |lst a I=>erw[d _ _ O]
 .rintro i x L M2 N ⟨d,c,rfl⟩;rw[Y]at N;have T:i<l.length:=by have:=(Xm.mp N).1;rw[X5]at this;erw[this]
  rw[Xe,X6 T]at N;cases N;erw[A7 tg (λr h=>?_) (E l[i] (XS T) M2 (λa o e=>d _ _ (P _ _ e)))];rw[wI,if_pos rfl];erw[Xc p elt (λy J w=>?_) h];have⟨G,B⟩:=w;subst G;erw[⟨B _ _ c,λa o e=>by rw[X7 (A e m)];erw[B _ _ (d _ _ e)],Xb,?_⟩]
  rw[Zp,X6 T,XY]
  rfl
 .rintro L M2 ⟨d,c,rfl⟩;rw[Z,VI (X9 _)]at c;rw[C0 O];erw[q D M2 (R D m) (λa o e=>d _ _ (P _ _ e)) c]
def _px:wTg (.nm i) v σ R=R (σ.set i (wc v)):=rfl
def q_tgt:wTg (.tup ts) (.tup xs) σ R=wTgs ts xs σ R:=by
 erw[propext ⟨λj=>by have⟨_,e,h⟩:=j;cases e;erw[h],λh=>⟨_,rfl,h⟩⟩]
def _pw{t:ITg}:wTgs (.cons t ts) (v::r) σ R=wTg t v σ λj=>wTgs ts r j R:=by
 erw[propext ⟨λl=>by have⟨_,_,e,h⟩:=l;cases e;erw[h],λh=>⟨_,_,rfl,h⟩⟩]
def _pv:wTgs .nil [] σ R=R σ:=propext ⟨λh=>h.2,λh=>⟨rfl,h⟩⟩
theorem Jc{w:Type} [DecidableEq w] {k:w}{v:MV}:∀{l:List (w×MV)},(l.map (·.1)).Nodup->(k,v)∈l->valM l k=wc v
 |(j,u)::r,nd,h=>by
  rw[Xt,Yc]at nd;unfold valM;rcases Xj.mp h with e|h
  .cases e;rw[if_pos rfl]
  .rw[if_neg (λe=>nd.1 (by subst e;erw[XA.mpr ⟨(j,v),h,rfl⟩])),Jc nd.2 h]
section
variable{M:MH}
def Alike.dicFlat{a b:Addr}{j:List (Key×MV)}(n:Nat)(l:M a=wc (.dic j))(w:M b=wc (.dic j))(y:(j.map (·.1)).Nodup)(f:∀p∈j,Yh p.2=wf):Alike M (n+1) (.ref a) (.ref b):=
 .dic l w rfl λk u m=>⟨u,Jc y m,.flat n (f _ m)⟩
def Alike.lstFlat(n:Nat)(l:LstM M x xs)(w:LstM M y xs)(f:∀v∈xs,Yh v=wf):Alike M (n+1) x y:=
 .lst l w rfl λi u v e j=>by
  rw[e]at j;cases j;erw[.flat n (f u (Xd e))]
end
section
variable{Φ:List (Str×SpM)}{D:EndM}{σ:Sm}{M:MH}
def _pe:wSs Φ .nil D σ M=D.nx σ M:=rfl
def U4:wSs Φ (.cons s r) D σ M=wS Φ s {nx:=λσ M=>wSs Φ r D σ M,rt:=D.rt} σ M:=rfl
def Jd:wS Φ (.ret e) D σ M=wE Φ e σ M D.rt:=rfl
def UV:wS Φ (.set i e) D σ M=wE Φ e σ M λv M1=>D.nx (σ.set i (wc v)) M1:=rfl
def _pi{t:ITgs}:wS Φ (.asg t e) D σ M=wE Φ e σ M λv M1=>∃l,v=.tup l/\wTgs t l σ λj=>D.nx j M1:=rfl
def _pd:wS Φ (.put o i e) D σ M=wE Φ e σ M λv M1=>wE Φ o σ M1 λx M2=>wE Φ i σ M2 λy j=>wPut x y v j λl=>D.nx σ l:=rfl
def Je:wS Φ (.fset c o f e) D σ M=wE Φ e σ M λv M1=>wE Φ o σ M1 λx M2=>∃a fs,x=.ref a/\M2 a=wc (.ins c fs)/\fs.length<1000/\D.nx σ (updM M2 a (.ins c (putM fs f v))):=rfl
def _ne:wS Φ (.expr e) D σ M=wE Φ e σ M λ_ M1=>D.nx σ M1:=rfl
def _pf:wS Φ (.ite c a b) D σ M=wE Φ c σ M λx M1=>onB x λk=>(if k=wf then wSs Φ a D σ M1 else wSs Φ b D σ M1):=rfl
def _pg{t:ITg}:wS Φ (.for_ t s b) D σ M=wSr Φ s σ M λS M1=>∃J:Nat->Sm->MH->Prop,J 0 σ M1/\(∀i σ M,J i σ M->S.ok M)/\
   (∀i x σ M,S.items[i]?=wc x->J i σ M->wTg t x σ λj=>wSs Φ b {nx:=J (i+1),rt:=λv M=>S.okT M/\D.rt v (S.thaw M)} j M)/\∀σ M,J S.len σ M->D.nx σ (S.thaw M):=rfl
def _kT:wS Φ (.while_ c b) D σ M=∃J:Nat->Sm->MH->Prop,(∃m,J m σ M)/\∀m σ M,J m σ M->wE Φ c σ M λx M1=>∃k,x=.bl k/\
   (if k=wf then wSs Φ b {nx:=λj u=>∃l,l<m/\J l j u,rt:=D.rt} σ M1 else D.nx σ M1):=rfl
def _oj:wO Φ .none σ M Q=Q we M:=rfl
def _oi:wO Φ (.some e) σ M Q=wE Φ e σ M λv M1=>∃i,v=.int i/\Q (wc i) M1:=rfl
def _oP:wEs Φ .nil σ M Q=Q [] M:=rfl
def _ms:wEs Φ (.cons e es) σ M Q=wE Φ e σ M λv M1=>wEs Φ es σ M1 λj M2=>Q (v::j) M2:=rfl
end
section
variable{Φ:List (Str×SpM)}{σ σ':Sm}{M M':MH}{Q:QM}{x x' y y' z z':MV}{o o':Option MO}{vs vs':List MV}
end
end L2
namespace My
open PySem L2
def ex3{j l u:Sort _}{p:j->l->u->Prop}(w:j)(y:l)(z:u)(h:p w y z):∃w y z,p w y z:=⟨w,y,z,h⟩
def ex4{j l u w:Sort _}{p:j->l->u->w->Prop}(y:j)(z:l)(m:u)(g:w)(h:p y z m g):∃y z m g,p y z m g:=⟨y,z,m,g,h⟩
def ex5{j l u w y:Sort _}{p:j->l->u->w->y->Prop}(z:j)(m:l)(g:u)(d:w)(c:y)(h:p z m g d c):∃z m g d c,p z m g d c:=⟨z,m,g,d,c,h⟩
def ex6{j l u w y z:Sort _}{p:j->l->u->w->y->z->Prop}(m:j)(g:l)(d:u)(c:w)(f:y)(q:z)(h:p m g d c f q):∃m g d c f q,p m g d c f q:=⟨m,g,d,c,f,q,h⟩
def ex7{j l u w y z m:Sort _}{p:j->l->u->w->y->z->m->Prop}(g:j)(d:l)(c:u)(f:w)(q:y)(r:z)(e:m)(h:p g d c f q r e):∃g d c f q r e,p g d c f q r e:=⟨g,d,c,f,q,r,e,h⟩
def ex8{j l u w y z m g:Sort _}{p:j->l->u->w->y->z->m->g->Prop}(d:j)(c:l)(f:u)(q:w)(r:y)(e:z)(L:m)(N:g)(h:p d c f q r e L N):∃d c f q r e L N,p d c f q r e L N:=⟨d,c,f,q,r,e,L,N,h⟩
def ex9{j l u w y z m g d:Sort _}{p:j->l->u->w->y->z->m->g->d->Prop}(c:j)(f:l)(q:u)(r:w)(e:y)(L:z)(N:m)(O:g)(P:d)(h:p c f q r e L N O P):∃c f q r e L N O P,p c f q r e L N O P:=⟨c,f,q,r,e,L,N,O,P,h⟩
def ex10{j l u w y z m g d c:Sort _}{p:j->l->u->w->y->z->m->g->d->c->Prop}(f:j)(q:l)(r:u)(e:w)(L:y)(N:z)(O:m)(P:g)(R:d)(T:c)(h:p f q r e L N O P R T):∃f q r e L N O P R T,p f q r e L N O P R T:=⟨f,q,r,e,L,N,O,P,R,T,h⟩
def ex11{u w y z m g d c f q l:Sort _}{p:u->w->y->z->m->g->d->c->f->q->l->Prop}(r:u)(e:w)(L:y)(N:z)(O:m)(P:g)(R:d)(T:c)(U:f)(W:q)(j:l)(h:p r e L N O P R T U W j):∃r e L N O P R T U W j,p r e L N O P R T U W j:=⟨r,e,L,N,O,P,R,T,U,W,j,h⟩
def ee3{w y z:Sort _}{p:w->y->z->Prop}{G:Prop}(h:∃j l u,p j l u)(k:∀j l u,p j l u->G):G:=by
 have⟨j,l,u,h⟩:=h;erw[k j l u h]
def ee4{y z m g:Sort _}{p:y->z->m->g->Prop}{G:Prop}(h:∃j l u w,p j l u w)(k:∀j l u w,p j l u w->G):G:=by
 have⟨j,l,u,w,h⟩:=h;erw[k j l u w h]
def ee6{m g d c f q:Sort _}{p:m->g->d->c->f->q->Prop}{G:Prop}(h:∃j l u w y z,p j l u w y z)(k:∀j l u w y z,p j l u w y z->G):G:=by
 have⟨j,l,u,w,y,z,h⟩:=h;erw[k j l u w y z h]
def ee10{f q r e L N O P R T:Sort _}{p:f->q->r->e->L->N->O->P->R->T->Prop}{G:Prop}(h:∃j l u w y z m g d c,p j l u w y z m g d c)(k:∀j l u w y z m g d c,p j l u w y z m g d c->G):G:=by
 have⟨j,l,u,w,y,z,m,g,d,c,h⟩:=h;erw[k j l u w y z m g d c h]
noncomputable def top(i:Nat):Stmt:=PySem.Challenge.pw_bellferry_k64_whole_between_the_bounds.main.body.getD i (.Pass ⟨0,0,0,0⟩)
abbrev Zf9:Stmt:=top 3
abbrev Zf8:Stmt:=top 4
abbrev ZiG:Stmt:=top 5
abbrev Znd:Stmt:=top 6
abbrev Zph:Stmt:=top 7
abbrev Znf:Stmt:=top 8
abbrev Za6:Stmt:=top 10
abbrev C1:Stmt:=top 11
abbrev C2:Stmt:=top 12
abbrev Zgp:Stmt:=top 13
abbrev Za3:Stmt:=top 14
abbrev C3:Stmt:=top 15
abbrev Zn8:Stmt:=top 17
abbrev Za7:Stmt:=top 18
abbrev Zbw:Stmt:=top 19
abbrev ZkX:Stmt:=top 20
abbrev Zgr:Stmt:=top 41
abbrev Zbz:Stmt:=top 42
abbrev Z8p:Stmt:=top 43
abbrev Z4R:Stmt:=top 44
abbrev Z68:Stmt:=top 45
abbrev Zbx:Stmt:=top 46
abbrev Zby:Stmt:=top 47
abbrev Z90:Stmt:=top 48
abbrev Z8q:Stmt:=top 49
abbrev Za5:Stmt:=top 50
abbrev Z67:Stmt:=top 51
abbrev Z5K:Stmt:=top 52
abbrev C4:Stmt:=top 53
abbrev Znb:Stmt:=top 54
abbrev Zcl:Stmt:=top 55
abbrev Zdn:Stmt:=top 56
abbrev Zfa:Stmt:=top 57
abbrev ZbA:Stmt:=top 59
abbrev Zgt:Stmt:=top 60
abbrev Zgo:Stmt:=top 61
abbrev ZiH:Stmt:=top 62
abbrev Zgs:Stmt:=top 63
abbrev Zf7:Stmt:=top 64
abbrev Zdk:Stmt:=top 66
abbrev ZkU:Stmt:=top 67
abbrev Za4:Stmt:=top 68
abbrev Z5J:Stmt:=top 69
abbrev ZiI:Stmt:=top 70
abbrev Zgu:Stmt:=top 72
abbrev Zdl:Stmt:=top 73
abbrev Zcn:Stmt:=top 75
abbrev ZkV:Stmt:=top 76
abbrev ZbB:Stmt:=top 77
abbrev Zgq:Stmt:=top 78
abbrev ZkW:Stmt:=top 79
abbrev Zn9:Stmt:=top 80
abbrev Z91:Stmt:=Zg (top 82) 0
abbrev Z6T:Stmt:=Zg (top 82) 1
abbrev Z4S:Stmt:=Zg (top 82) 2
abbrev Zdr:Stmt:=Zg (top 82) 3
abbrev Z5L:Stmt:=Zg (top 82) 4
abbrev Z8t:Stmt:=Zg (top 83) 0
abbrev Z6a:Stmt:=Zg (top 83) 1
abbrev Z69:Stmt:=Zg (top 83) 2
abbrev Zcj:Stmt:=top 86
abbrev Zcm:Stmt:=top 87
abbrev Zdm:Stmt:=top 88
abbrev Za9:Stmt:=Zg (top 89) 0
abbrev Zfb:Stmt:=Zg (top 89) 1
abbrev Z8s:Stmt:=Zg (top 89) 2
abbrev Zds:Stmt:=Zg (top 89) 3
abbrev Z8r:Stmt:=Zg (top 89) 6
abbrev Za8:Stmt:=top 91
abbrev Zdq:Stmt:=top 93
abbrev Zdo:Stmt:=top 94
abbrev Zdp:Stmt:=top 95
abbrev ZbD:Stmt:=top 96
abbrev ZbC:Stmt:=top 97
abbrev Zco:Stmt:=top 98
abbrev Jf:Stmt:=top 99
noncomputable def GB:List Str:=["all","bool","dict","int","isinstance","len","list","max","min","range","set","sorted","tuple"]
noncomputable def GL:List (Str×Int):=[("MOST_WIDTH",64),("MOST_LETTERS",8),("MOST_ISLANDS",5),("MOST_FERRIES",6),("MOST_VARS",6),("MOST_STEPS",12),("MOST_PARTS",30),("MOST_DEPTH",8),("MOST_K",3),("MOST_STAGES",3),("BITS_A_FERRY",8)]
noncomputable def GC:List (Str×Str):=[("Side","turn"),("Side","total"),("Side","sign"),("Side","sight"),("Ferry","places"),("Ferry","giver"),("Ferry","taker"),("Run","world"),("Run","moment"),("Run","next_numbers"),("Run","words_now"),("Run","steps_so_far"),("Run","boats"),("Run","given_so_far"),("Run","taken_so_far")]
noncomputable def scB(N:List Str)(n:Nat)(j:Scope):Prop:=j.kind=.function/\j.isCoroutine=wg/\j.isGenerator=wg/\N.Nodup/\(∀x∈N.take n,j.names.lookup x=wc .local\/j.names.lookup x=wc .cell)/\∀y∈j.names,y.2≠.free
instance{N:List Str} {n:Nat} {j:Scope}:Decidable (scB N n j):=by unfold scB;infer_instance
def scB.fs{N:List Str}{n:Nat}{j:Scope}(h:scB N n j):FnScope N (N.take n) j:=⟨h.1,h.2.1,h.2.2.1,h.2.2.2.1,(by rw[Yf,<-List.take_take,WC]),h.2.2.2.2.1,h.2.2.2.2.2⟩
abbrev FE(P:Xr)(w:Xl)(K:X4)(u:Str->Option X0)(j:Heap)(k:Nat)(x:Str)(m:SpM):Prop:=∃l y z,FnOk P w K u j CX0 k l y z (liSp K m)/\u x=wc (.ref l)/\Zq K (.ref l)=wf/\Binds K y z []
structure FO (P:Xr)(w:Xl)(K:X4)(mg:Str->Option X0)(base:Heap)(k:Nat)(x:Str)(sp:SpM):Prop where
 m:MonW sp
 e:FE P w K mg base k x sp
structure FL (P:Xr)(w:Xl)(K:X4)(mg:Str->Option X0)(base:Heap)(k:Nat)(Φ:List (Str×SpM)):Prop where
 m:∀p∈Φ,MonW p.2
 e:∀p∈Φ,FE P w K mg base k p.1 p.2
abbrev FM(P:Xr)(w:Xl)(K:X4)(z:Str->Option X0)(j:Heap)(k:Nat)(c m:Str)(g:SpM):Prop:=∃C l u y,FnOk P w K z j CX0 k l u y (liSp K g)/\XC K Xp c=wc (wc (.ref C))/\Cls K C/\Meth K C m l/\Binds K u y []
abbrev FI(P:Xr)(w:Xl)(K:X4)(l:Str->Option X0)(j:Heap)(k:Nat)(c:Str)(m:SpM):Prop:=∃C u y z,FnOk P w K l j CX0 k u y z (liSp K m)/\XC K Xp c=wc (wc (.ref C))/\l c=wc (.ref C)/\Mk K C u/\Binds K y z []
noncomputable def Fb(K:X4)(x:Str)(st:Stmt):Prop:=∃f d,Fn1 K x st f d
noncomputable def MB(K:X4)(C:Addr)(m q:Str)(st:Stmt):Prop:=∃f d,Mt1 K C m q st f d
structure ClB (K:X4)(C:Addr):Prop where
 c:Cls K C
 m:D9 K C=wf
 k:Zq K (.ref C)=wf
abbrev bnd(x q:Str)(st:Stmt)(w:List Str):Prop:=∀(kV j y:X0)(z:Option Addr)(l m:X0)(u:List X0),u.length=w.length->bindArgs (ZH x q (Ut st) (Ys st) (XT st) .none kV j y z l m) ⟨u,[]⟩=pure (w.zip u)
section
variable{P:Xr}{w:Xl}{K:X4}{mg:Str->Option X0}{base:Heap}{k:Nat}{x:Str}{sp:SpM}{st:Stmt}{Φ:List (Str×SpM)}{G:GI}{ir:ISs}
def f0:FL P w K mg base k []:=⟨nl0,λ_ h=>nomatch h⟩
def fc{j:Nat}(o:FO P w K mg base j x sp)(r:FL P w K mg base k Φ)(l:j<=k:=by decide):FL P w K mg base k ((x,sp)::Φ):=by
 have⟨a,b,c,d,e⟩:=o.e;erw[⟨fMc o.m r.m,fMc ⟨a,b,c,d.mono l,e⟩ r.e⟩]
def Fb.ok(H:Fb K x st)(g:∀x v,XC K Xp x=wc v->mg x=v)(m:MonW sp)(n:Nat)(N:List Str)(T:Fts P w K mg base k G Φ)(ir:ISs)(j:∀vs M Q,sp vs M Q->vs.length=(N.take n).length)(l:∀vs M Q,sp vs M Q->wSs Φ ir {nx:=λ_ M'=>Q .non M',rt:=Q} (UU N.length vs) M)
  (hc:chkSs G (XT st) N ir (Ys st)=wf/\scB N n (XT st):=by decide+kernel)(b:bnd x x st (N.take n):=by first|erw[λ_ _ _ _ _ _=>us1 λ_=>rfl]|erw[λ_ _ _ _ _ _=>us2 λ_ _=>rfl]|erw[λ_ _ _ _ _ _=>us3 λ_ _ _=>rfl]|erw[λ_ _ _ _ _ _=>us4 λ_ _ _ _=>rfl]|erw[λ_ _ _ _ _ _=>us5 λ_ _ _ _ _=>rfl]):FO P w K mg base (k+1) x sp:=by
 have⟨f,d,F⟩:=H;erw[⟨m,_,_,_,F.F.okM hc.2.fs T ir hc.1 j l,g _ _ F.a,F.F.kp,F.F.binds b⟩]
def Fb.nn(H:Fb K x st)(g:∀x v,XC K Xp x=wc v->mg x=v)(l:List Str)(j:∀u M Q,¬sp u M Q)(b:bnd x x st l:=by first|erw[λ_ _ _ _ _ _=>us1 λ_=>rfl]|erw[λ_ _ _ _ _ _=>us2 λ_ _=>rfl]|erw[λ_ _ _ _ _ _=>us3 λ_ _ _=>rfl]|erw[λ_ _ _ _ _ _=>us4 λ_ _ _ _=>rfl]|erw[λ_ _ _ _ _ _=>us5 λ_ _ _ _ _=>rfl]):FO P w K mg base k x sp:=by
 have⟨f,d,F⟩:=H;erw[⟨λ_ h=>absurd h (j _ _ _),f,d,l,⟨λ_ _ _ _ ⟨_,_,_,_,h⟩=>absurd h (j _ _ _),λ_ _ _ _ _ _ _ _ _ _ _ _ _ ⟨_,_,_,_,h⟩=>absurd h (j _ _ _)⟩,g _ _ F.a,F.F.kp,F.F.binds b⟩]
def MB.ok{C:Addr}{c m q:Str}(H:MB K C m q st)(j:XC K Xp c=wc (wc (.ref C)))(l:ClB K C)(n:Nat)(N:List Str)(T:Fts P w K mg base k G Φ)(ir:ISs)(u:∀vs M Q,sp vs M Q->vs.length=(N.take n).length)(y:∀vs M Q,sp vs M Q->wSs Φ ir {nx:=λ_ M'=>Q .non M',rt:=Q} (UU N.length vs) M)
  (hc:chkSs G (XT st) N ir (Ys st)=wf/\scB N n (XT st):=by decide+kernel)(b:bnd m q st (N.take n):=by first|erw[λ_ _ _ _ _ _=>us1 λ_=>rfl]|erw[λ_ _ _ _ _ _=>us2 λ_ _=>rfl]|erw[λ_ _ _ _ _ _=>us3 λ_ _ _=>rfl]|erw[λ_ _ _ _ _ _=>us4 λ_ _ _ _=>rfl]|erw[λ_ _ _ _ _ _=>us5 λ_ _ _ _ _=>rfl]):FM P w K mg base (k+1) c m sp:=by
 have⟨f,d,F⟩:=H;erw[ex4 _ _ _ _ ⟨F.F.okM hc.2.fs T ir hc.1 u y,j,l.c,F.M,F.F.binds b⟩]
def MB.oi{C:Addr}{c q:Str}(H:MB K C "__init__" q st)(u:XC K Xp c=wc (wc (.ref C)))(l:ClB K C)(g:∀x v,XC K Xp x=wc v->mg x=v)(n:Nat)(N:List Str)(T:Fts P w K mg base k G Φ)(ir:ISs)(z:∀j M Q,sp j M Q->j.length=(N.take n).length)(m:∀j M Q,sp j M Q->wSs Φ ir {nx:=fun _ r=>Q .non r,rt:=Q} (UU N.length j) M)
  (y:chkSs G (XT st) N ir (Ys st)=wf/\scB N n (XT st):=by decide+kernel)(b:bnd "__init__" q st (N.take n):=by first|erw[fun _ _ _ _ _ _=>us1 fun _=>rfl]|erw[fun _ _ _ _ _ _=>us2 fun _ _=>rfl]|erw[fun _ _ _ _ _ _=>us3 fun _ _ _=>rfl]|erw[fun _ _ _ _ _ _=>us4 fun _ _ _ _=>rfl]):FI P w K mg base (k+1) c sp:=by
 have⟨f,d,F⟩:=H;erw[ex4 _ _ _ _ ⟨F.F.okM y.2.fs T ir y.1 z m,u,g _ _ u,⟨l.m,F.M.at_,F.M.fn,l.k⟩,F.F.binds b⟩]
def fM{j:Nat}{c m:Str}(o:FM P w K mg base j c m sp)(l:j<=k:=by decide):FM P w K mg base k c m sp:=by
 have⟨a,b,c,d,e,f⟩:=o;erw[ex4 a b c d ⟨e.mono l,f⟩]
def fI{j:Nat}{c:Str}(o:FI P w K mg base j c sp)(l:j+1<=k:=by decide):∃u C y z m,u+1<=k/\FnOk P w K mg base CX0 u y z m (liSp K sp)/\XC K Xp c=wc (wc (.ref C))/\mg c=wc (.ref C)/\Mk K C y/\Binds K z m []:=by
 have⟨a,b,c,d,e⟩:=o;erw[ex5 _ a b c d ⟨l,e⟩]
end
structure Adr where
 ay:Addr
 aB:Addr
 bu:Addr
structure TxF (K:X4):Prop where
 bq:Fb K "is_whole" Zf9
 cb:Fb K "is_width" Zf8
 bE:Fb K "two_to" ZiG
 bM:Fb K "fits" Znd
 aF:Fb K "cut" Zph
 b7:Fb K "amid" Znf
 bK:Fb K "parts_within" Za6
 aw:Fb K "size_of" C1
 ak:Fb K "names_read" C2
 be:Fb K "vars_in" Zgp
 aT:Fb K "worth_of_two" Za3
 aq:Fb K "worth" C3
 aK:Fb K "wish" Zn8
 bz:Fb K "number_after" Za7
 bN:Fb K "words_after" Zbw
 ca:Fb K "after" ZkX
 aP:Fb K "is_name" Zgr
 cq:Fb K "refuse_name" Zbz
 ao:Fb K "refuse_unknown" Z8p
 aD:Fb K "refuse_ferry_names" Z4R
 bF:Fb K "refuse_variables" Z68
 aL:Fb K "refuse_term" Zbx
 aI:Fb K "refuse_step" Zby
 bR:Fb K "refuse_island" Z90
 bA:Fb K "refuse_islands" Z8q
 bo:Fb K "refuse_ferry" Za5
 cu:Fb K "refuse_wrong_end" Z67
 bX:Fb K "refuse_wrong_ends" Z5K
 aj:Fb K "frozen" C4
 aV:Fb K "made" Znb
 cv:Fb K "one_called" Zcl
 aQ:Fb K "island_of" Zdn
 bH:Fb K "ferry_of" Zfa
 cc:Fb K "first_stand" ZbA
 cf:Fb K "copy_of" Zgt
 aW:Fb K "wish_of" Zgo
 cr:Fb K "can_be" ZiH
 aR:Fb K "do_step" Zgs
 aM:Fb K "round_of" Zf7
 bI:Fb K "stretches" Zdk
 b9:Fb K "track" ZkU
 aZ:Fb K "steps_behind" Za4
 bS:Fb K "stretches_a_round" Z5J
 aH:Fb K "bounds" ZiI
 ci:Fb K "code_of" Zgu
 ax:Fb K "number_of" Zdl
 aO:Fb K "first_sign" Zcn
 c9:Fb K "shown" ZkV
 bO:Fb K "first_sight" ZbB
 cj:Fb K "sampled" Zgq
 bv:Fb K "moved" ZkW
 aY:Fb K "used" Zn9
 b8:Fb K "what_alone" Zcj
 aU:Fb K "is_wish_of" Zcm
 bm:Fb K "looked_up" Zdm
 bj:Fb K "_law_cell_at" Za8
 bp:Fb K "_law_name" Zdq
 bc:Fb K "_law_term" Zdo
 bB:Fb K "_law_step" Zdp
 br:Fb K "_law_island" ZbD
 cw:Fb K "_law_things" ZbC
 bb:Fb K "_law_rings" Zco
 bU:Fb K "law" Jf
 bs:∀x∈GB,XC K Xp x=wc we
structure TxM (K:X4)(a1 a2 a3:Addr):Prop where
 ac:XC K Xp "Side"=wc (wc (.ref a1))
 ag:XC K Xp "Ferry"=wc (wc (.ref a2))
 aa:XC K Xp "Run"=wc (wc (.ref a3))
 ae:ClB K a1
 ai:ClB K a2
 ab:ClB K a3
 aS:Y3 K (.ref a1) "turn"=wc we
 ck:Y3 K (.ref a1) "total"=wc we
 bT:Y3 K (.ref a1) "sign"=wc we
 bP:Y3 K (.ref a1) "sight"=wc we
 bC:Y3 K (.ref a2) "places"=wc we
 bh:Y3 K (.ref a2) "giver"=wc we
 b0:Y3 K (.ref a2) "taker"=wc we
 bY:Y3 K (.ref a3) "world"=wc we
 aJ:Y3 K (.ref a3) "moment"=wc we
 aC:Y3 K (.ref a3) "next_numbers"=wc we
 aA:Y3 K (.ref a3) "words_now"=wc we
 bW:Y3 K (.ref a3) "steps_so_far"=wc we
 bf:Y3 K (.ref a3) "boats"=wc we
 c8:Y3 K (.ref a3) "given_so_far"=wc we
 bL:Y3 K (.ref a3) "taken_so_far"=wc we
 aX:MB K a1 "__init__" "Side.__init__" Z91
 bV:MB K a1 "ring_ahead" "Side.ring_ahead" Z6T
 aN:MB K a1 "less_the_seen" "Side.less_the_seen" Z4S
 ce:MB K a1 "grow" "Side.grow" Zdr
 bJ:MB K a1 "show_and_see" "Side.show_and_see" Z5L
 bw:MB K a2 "__init__" "Ferry.__init__" Z8t
 bD:MB K a2 "ring_giver" "Ferry.ring_giver" Z6a
 aE:MB K a2 "ring_taker" "Ferry.ring_taker" Z69
 bG:MB K a3 "__init__" "Run.__init__" Za9
 bQ:MB K a3 "ring" "Run.ring" Zfb
 bZ:MB K a3 "ring_ferry" "Run.ring_ferry" Z8s
 c7:MB K a3 "go_on" "Run.go_on" Zds
 aG:MB K a3 "steps_done" "Run.steps_done" Z8r
structure Txt (K:X4)(mg:Str->Option X0)(t:Adr):Prop extends TxF K,TxM K t.ay t.aB t.bu where
 g:∀x v,XC K Xp x=wc v->mg x=v
 gl:∀p∈GL,∃tk,XC K Xp p.1=wc (wc (.int p.2 tk))
section
variable{P:Xr}{w:Xl}{K:X4}{mg:Str->Option X0}{base:Heap}{k:Nat}{t:Adr}{Φ Ψ Χ:List (Str×SpM)}
def _qn(T:Txt K mg t):∀q∈GC,∃C,XC K Xp q.1=wc (wc (.ref C))/\Cls K C/\NoAttr K C q.2:=(fMc ⟨_,T.ac,T.ae.c,T.aS⟩ (fMc ⟨_,T.ac,T.ae.c,T.ck⟩ (fMc ⟨_,T.ac,T.ae.c,T.bT⟩ (fMc ⟨_,T.ac,T.ae.c,T.bP⟩ (fMc ⟨_,T.ag,T.ai.c,T.bC⟩ (fMc ⟨_,T.ag,T.ai.c,T.bh⟩ (fMc ⟨_,T.ag,T.ai.c,T.b0⟩ (fMc ⟨_,T.aa,T.ab.c,T.bY⟩ (fMc ⟨_,T.aa,T.ab.c,T.aJ⟩ (fMc ⟨_,T.aa,T.ab.c,T.aC⟩ (fMc ⟨_,T.aa,T.ab.c,T.aA⟩ (fMc ⟨_,T.aa,T.ab.c,T.bW⟩ (fMc ⟨_,T.aa,T.ab.c,T.bf⟩ (fMc ⟨_,T.aa,T.ab.c,T.c8⟩ (fMc ⟨_,T.aa,T.ab.c,T.bL⟩ nl0)))))))))))))))
def mC(T:Txt K mg t)(Χ Ψ:List (Str×SpM))(M1:List (Nat×Str×Str))(M2:List (Nat×Str))(L:FL P w K mg base k Φ)(m:∀p∈Ψ,MonW p.2)(N:∀q∈M1,∃f j,Χ[q.1]?=wc (f,j)/\FM P w K mg base k q.2.1 q.2.2 j)(O:∀q∈M2,∃f j,Χ[q.1]?=wc (f,j)/\∃l C u y z,l+1<=k/\FnOk P w K mg base CX0 l u y z (liSp K j)/\XC K Xp q.2=wc (wc (.ref C))/\mg q.2=wc (.ref C)/\Mk K C u/\Binds K y z [])(e:Φ++Ψ=Χ:=by rfl):Fts P w K mg base k ⟨GB,GL,Φ.map (·.1),M1,M2,GC⟩ Χ:=
 _oo e (λx h=>T.g _ _ (T.bs x h)) (λp h=>(T.gl p h).imp λ_ e=>T.g _ _ e) rfl (e▸List.forall_mem_append.2 ⟨L.m,m⟩) L.e N O (_qn T)
def fC(T:Txt K mg t)(L:FL P w K mg base k Φ):Fts P w K mg base k ⟨GB,GL,Φ.map (·.1),[],[],GC⟩ Φ:=mC T Φ [] [] [] L nl0 nl0 nl0 (Z3 Φ)
end
noncomputable def Jg:ISs:=#v[.ret (.and (.bi .isinst 'a' #v[.ty .int]) (.not (.bi .isinst 'a' #v[.ty .bool])))]
noncomputable def Jh:ISs:=#v[.ret (.and (.call 0 'a' .nil) (.chn .LtE .LtE 'B' 'a' (.glb "MOST_WIDTH" 64)))]
noncomputable def Ji:ISs:=#v[.ret 'b']
noncomputable def Jj:ISs:=#v[.set 1 (.bin .Mult 'b' 'C')]
def Jk:ISs:=(.for_ (.nm 2) (.rng 'a') Jj)^Ji
def Jl:ISs:=(.set 1 'B')^Jk
noncomputable def Jn:ISs:=#v[.ret (.and (.call 0 'b' .nil) (.chn .LtE .Lt 'A' 'b' (.call 1 'a' .nil)))]
noncomputable def Jo:ISs:=#v[.ret (.bin .Mod 'b' (.call 0 'a' .nil))]
noncomputable def Jp:ISs:=#v[.ret (.bin .BitXor 'a' (.bin .BitAnd (.bin .BitXor 'a' 'b') 'c'))]
noncomputable def DZ:ISs:=#v[.ret (.bi .list (.sl 'a' (.some 'B') .none) .nil)]
noncomputable def E1:ISs:=#v[.ret (.lst .nil)]
def Jq:ISs:=(.ite (.or (.cmp .Eq (.ix 'a' 'A') (.str "num")) (.cmp .Eq (.ix 'a' 'A') (.str "var"))) E1 .nil)^DZ
noncomputable def Jr:ISs:=#v[.ret (.tup #v['b',.bin .Add 'c' 'B'])]
noncomputable def Js:ISs:=#v[.set 2 (.bi .max 'c' #v[.ix 'e' 'B'])]
def Jt:ISs:=(.set 1 (.bin .Add 'b' (.ix 'e' 'A')))^Js
def Ju:ISs:=(.set 4 (.call 1 'd' .nil))^Jt
def Jv:ISs:=(.for_ (.nm 3) (.seq (.call 0 'a' .nil)) Ju)^Jr
def Jw:ISs:=(.set 2 'A')^Jv
def E2:ISs:=(.set 1 'B')^Jw
def Zim:GI:=⟨GB,GL,["parts_within","size_of"],[],[],GC⟩
def _fJ:chkSs Zim (XT C1) ["T","parts","deepest","part","size"] E2 (Ys C1)=wf/\scB ["T","parts","deepest","part","size"] 1 (XT C1):=by decide+kernel
noncomputable def Jx:ISs:=#v[.ret 'b']
noncomputable def Jy:ISs:=#v[.expr (.mt .extend 'b' #v[.call 0 'c' .nil])]
def Jz:ISs:=(.for_ (.nm 2) (.seq (.call 1 'a' .nil)) Jy)^Jx
def E3:ISs:=(.set 1 (.lst .nil))^Jz
noncomputable def JA:ISs:=#v[.ret (.lst #v[.ix 'a' 'B'])]
def E4:ISs:=(.ite (.cmp .Eq (.ix 'a' 'A') (.str "var")) JA .nil)^E3
def Zde:GI:=⟨GB,GL,["names_read","parts_within"],[],[],GC⟩
def _c5:chkSs Zde (XT C2) ["T","names","part"] E4 (Ys C2)=wf/\scB ["T","names","part"] 1 (XT C2):=by decide+kernel
noncomputable def JB:ISs:=#v[.ret (.b2 .ssrt (.call 0 'a' .nil))]
noncomputable def JC:ISs:=#v[.ret (.ife (.cmp .Eq 'b' 'c') 'B' 'A')]
noncomputable def JD:ISs:=#v[.ret (.ife (.cmp .Lt 'b' 'c') 'B' 'A')]
def E5:ISs:=(.ite (.cmp .Eq 'a' (.str "less")) JD .nil)^JC
noncomputable def JE:ISs:=#v[.ret (.call 0 'd' #v[.bin .Mult 'b' 'c'])]
def C5:ISs:=(.ite (.cmp .Eq 'a' (.str "times")) JE .nil)^E5
noncomputable def JF:ISs:=#v[.ret (.call 0 'd' #v[.bin .Sub 'b' 'c'])]
def Ai:ISs:=(.ite (.cmp .Eq 'a' (.str "minus")) JF .nil)^C5
noncomputable def JG:ISs:=#v[.ret (.call 0 'd' #v[.bin .Add 'b' 'c'])]
def JH:ISs:=(.ite (.cmp .Eq 'a' (.str "plus")) JG .nil)^Ai
noncomputable def JI:ISs:=#v[.ret (.call 2 (.ix 'a' 'A') #v['d',.call 1 (.ix 'a' 'C') #v['b','c'],'b'])]
noncomputable def JJ:ISs:=#v[.ret (.call 1 (.ife (.cmp .NotEq 'd' 'A') (.ix 'a' 'C') (.ix 'a' 'D')) #v['b','c'])]
def E6:ISs:=(.ite (.cmp .Eq (.ix 'a' 'A') (.str "pick")) JJ .nil)^JI
def E7:ISs:=(.set 3 (.call 1 (.ix 'a' 'B') #v['b','c']))^E6
noncomputable def JK:ISs:=#v[.ret (.ix 'c' (.ix 'a' 'B'))]
def C6:ISs:=(.ite (.cmp .Eq (.ix 'a' 'A') (.str "var")) JK .nil)^E7
noncomputable def JL:ISs:=#v[.ret (.call 0 'b' #v[.ix 'a' 'B'])]
def E8:ISs:=(.ite (.cmp .Eq (.ix 'a' 'A') (.str "num")) JL .nil)^C6
def ZmP:GI:=⟨GB,GL,["cut","worth","worth_of_two"],[],[],GC⟩
def _jy:chkSs ZmP (XT C3) ["T","width","words","first"] E8 (Ys C3)=wf/\scB ["T","width","words","first"] 3 (XT C3):=by decide+kernel
noncomputable def E9:ISs:=#v[.ret (.tup #v[.str "own"])]
noncomputable def JM:ISs:=#v[.ret (.tup #v[.str "give",.ix 'e' 'B',.call 0 (.ix 'e' 'C') #v['a','d']])]
def C7:ISs:=(.ite (.cmp .Eq (.ix 'e' 'A') (.str "give")) JM .nil)^E9
noncomputable def JN:ISs:=#v[.ret (.tup #v[.str "take",.ix 'e' 'B'])]
def Ea:ISs:=(.ite (.cmp .Eq (.ix 'e' 'A') (.str "take")) JN .nil)^C7
def Eb:ISs:=(.set 4 (.ix 'b' 'c'))^Ea
noncomputable def Ec:ISs:=#v[.ret .non]
def JO:ISs:=(.ite (.cmp .Eq 'c' (.bi .len 'b' .nil)) Ec .nil)^Eb
noncomputable def Aj:ISs:=#v[.ret (.bin .Add 'c' 'B')]
noncomputable def JP:ISs:=#v[.ret (.ix 'e' 'C')]
def JQ:ISs:=(.ite (.and (.cmp .Eq (.ix 'e' 'A') (.str "jump")) (.cmp .NotEq (.call 0 (.ix 'e' 'B') #v['a','d']) 'A')) JP .nil)^Aj
def JR:ISs:=(.set 4 (.ix 'b' 'c'))^JQ
noncomputable def Ak:ISs:=#v[.ret 'e']
noncomputable def JS:ISs:=#v[.put 'e' (.ix 'b' 'B') (.call 0 (.ix 'b' 'C') #v['a','c'])]
def Al:ISs:=(.ite (.cmp .Eq (.ix 'b' 'A') (.str "put")) JS .nil)^Ak
noncomputable def JT:ISs:=#v[.put 'e' (.ix 'b' 'C') 'd']
def JU:ISs:=(.ite (.cmp .Eq (.ix 'b' 'A') (.str "take")) JT .nil)^Al
def JV:ISs:=(.set 4 (.bi .dict 'c' .nil))^JU
noncomputable def JW:ISs:=#v[.ret (.tup #v[.call 0 'a' #v['b','c','d'],.call 1 'a' #v[.ix 'b' 'c','d','e']])]
noncomputable def JX:ISs:=#v[.ret (.and (.chn .LtE .LtE 'B' (.bi .len 'a' .nil) (.glb "MOST_LETTERS" 8)) (.bi .all (.comp ["sign"] [] (.seq 'a') (.nm 0) .none (.chn .LtE .LtE (.str "a") 'a' (.str "z"))) .nil))]
noncomputable def Zar:ISs:=#v[.never]
def JY:ISs:=#v[.ite (.cmp .In 'a' 'b') Zar .nil]
noncomputable def Zas:ISs:=#v[.never]
def JZ:ISs:=(.ite (.not (.call 0 'a' .nil)) Zas .nil)^JY
noncomputable def Z77:ISs:=#v[.never]
def C8:ISs:=#v[.ite (.cmp .NotIn 'a' 'b') Z77 .nil]
noncomputable def K0:ISs:=#v[.expr (.mt .append 'b' #v[.ix 'c' 'A'])]
def K1:ISs:=(.expr (.call 0 (.ix 'c' 'A') #v['b']))^K0
def K3:ISs:=#v[.for_ (.nm 2) (.seq 'a') K1]
def K4:ISs:=(.set 1 (.lst .nil))^K3
noncomputable def Z5W:ISs:=#v[.never]
def K6:ISs:=#v[.ite (.not (.call 0 'a' #v[.ix 'd' 'B'])) Z5W .nil]
def K9:ISs:=(.expr (.mt .append 'c' #v['e']))^K6
def Ka:ISs:=(.expr (.call 1 'e' #v['c']))^K9
def Kb:ISs:=(.set 4 (.ix 'd' 'A'))^Ka
def Kc:ISs:=#v[.for_ (.nm 3) (.seq 'b') Kb]
def Kd:ISs:=(.set 2 (.lst .nil))^Kc
noncomputable def Ke:ISs:=#v[.expr (.call 0 'd' #v['b'])]
def Kf:ISs:=#v[.for_ (.nm 3) (.seq (.call 2 'a' .nil)) Ke]
noncomputable def Zaq:ISs:=#v[.never]
def Kg:ISs:=(.ite (.or (.cmp .Gt (.ix 'c' 'A') (.glb "MOST_PARTS" 30)) (.cmp .Gt (.ix 'c' 'B') (.glb "MOST_DEPTH" 8))) Zaq .nil)^Kf
def Kh:ISs:=(.set 2 (.call 1 'a' .nil))^Kg
noncomputable def Ki:ISs:=#v[.expr (.call 1 (.ix 'a' 'C') #v['b'])]
def Kj:ISs:=(.expr (.call 1 (.ix 'a' 'B') #v['d']))^Ki
noncomputable def Kk:ISs:=#v[.expr (.call 0 (.ix 'a' 'C') #v['b'])]
def Kl:ISs:=(.expr (.call 1 (.ix 'a' 'B') #v['d']))^Kk
noncomputable def Km:ISs:=#v[.expr (.call 0 (.ix 'a' 'C') #v['b'])]
def Ko:ISs:=(.expr (.call 1 (.ix 'a' 'B') #v['b']))^Km
noncomputable def Z9u:ISs:=#v[.never]
def Kq:ISs:=#v[.ite (.not (.chn .LtE .LtE 'A' (.ix 'a' 'C') 'c')) Z9u .nil]
def Kr:ISs:=(.expr (.call 0 (.ix 'a' 'B') #v['b']))^Kq
def Ed:ISs:=#v[.ite (.cmp .Eq (.ix 'a' 'A') (.str "put")) Ko Kr]
def C9:ISs:=#v[.ite (.cmp .Eq (.ix 'a' 'A') (.str "give")) Kl Ed]
def Ks:ISs:=#v[.ite (.cmp .Eq (.ix 'a' 'A') (.str "take")) Kj C9]
noncomputable def Kt:ISs:=#v[.expr (.call 0 'e' #v['d',.bi .len (.ix 'b' 'C') .nil,'c'])]
def Ku:ISs:=#v[.for_ (.nm 4) (.seq (.ix 'b' 'C')) Kt]
def Kv:ISs:=(.set 3 (.comp ["pair"] [] (.seq (.ix 'b' 'B')) (.nm 0) .none (.ix 'a' 'A')))^Ku
def Kw:ISs:=(.expr (.call 1 'a' #v[.ix 'b' 'B']))^Kv
noncomputable def Z8F:ISs:=#v[.never]
def Kx:ISs:=(.ite (.cmp .Gt (.bi .len (.ix 'b' 'C') .nil) (.glb "MOST_STEPS" 12)) Z8F .nil)^Kw
noncomputable def Z8G:ISs:=#v[.never]
def Ky:ISs:=(.ite (.cmp .Gt (.bi .len (.ix 'b' 'B') .nil) (.glb "MOST_VARS" 6)) Z8G .nil)^Kx
noncomputable def Kz:ISs:=#v[.expr (.call 0 'a' #v['e','c'])]
def KA:ISs:=(.expr (.mt .append 'd' #v[.ix 'e' 'A']))^Kz
def KB:ISs:=(.expr (.call 1 (.ix 'e' 'A') #v['d']))^KA
def KC:ISs:=#v[.for_ (.nm 4) (.seq 'b') KB]
def KD:ISs:=(.set 3 (.bi .list 'c' .nil))^KC
noncomputable def Z9v:ISs:=#v[.never]
def KE:ISs:=#v[.ite (.not (.chn .LtE .LtE 'B' (.ix 'a' 'E') (.glb "MOST_STAGES" 3))) Z9v .nil]
noncomputable def Z9w:ISs:=#v[.never]
def KF:ISs:=(.ite (.not (.chn .LtE .LtE 'A' (.ix 'a' 'D') (.glb "MOST_K" 3))) Z9w .nil)^KE
noncomputable def Z9x:ISs:=#v[.never]
def KG:ISs:=(.ite (.cmp .Eq (.ix 'a' 'B') (.ix 'a' 'C')) Z9x .nil)^KF
def KH:ISs:=(.expr (.call 0 (.ix 'a' 'C') #v['b']))^KG
def KI:ISs:=(.expr (.call 0 (.ix 'a' 'B') #v['b']))^KH
noncomputable def Z5U:ISs:=#v[.never]
def Am:ISs:=#v[.ite (.and (.cmp .Eq (.ix 'b' 'A') (.str "give")) (.cmp .NotEq (.ix 'c' (.ix 'b' 'B')) 'a')) Z5U .nil]
noncomputable def Z5V:ISs:=#v[.never]
def KJ:ISs:=(.ite (.and (.cmp .Eq (.ix 'b' 'A') (.str "take")) (.cmp .NotEq (.ix 'd' (.ix 'b' 'B')) 'a')) Z5V .nil)^Am
noncomputable def KL:ISs:=#v[.expr (.call 0 (.ix 'e' 'A') #v['f','c','d'])]
def KM:ISs:=#v[.for_ (.nm 5) (.seq (.ix 'e' 'C')) KL]
def KN:ISs:=#v[.for_ (.nm 4) (.seq 'a') KM]
def KO:ISs:=(.set 3 (.bi .dictL (.comp ["ferry"] [] (.seq 'b') (.nm 0) .none (.tup #v[.ix 'a' 'A',.ix 'a' 'C'])) .nil))^KN
def KP:ISs:=(.set 2 (.bi .dictL (.comp ["ferry"] [] (.seq 'b') (.nm 0) .none (.tup #v[.ix 'a' 'A',.ix 'a' 'B'])) .nil))^KO
noncomputable def Wj:ISs:=#v[.ret 'a']
noncomputable def Ee:ISs:=#v[.ret (.bi .tuple (.comp ["part"] [] (.seq 'a') (.nm 0) .none (.call 0 'a' .nil)) .nil)]
def Wk:ISs:=(.ite (.bi .isinst 'a' #v[.tup #v[.ty .list,.ty .tuple]]) Ee .nil)^Wj
def ZjN:GI:=⟨GB,GL,["frozen"],[],[],GC⟩
def _hY:chkSs ZjN (XT C4) ["value"] Wk (Ys C4)=wf/\scB ["value"] 1 (XT C4):=by decide+kernel
noncomputable def KQ:ISs:=#v[.ret (.call 0 (.tup #v['a','b','c']) .nil)]
def KR:ISs:=(.expr (.call 5 'b' #v['c']))^KQ
noncomputable def KS:ISs:=#v[.expr (.call 2 'e' #v['d'])]
def KU:ISs:=(.for_ (.nm 4) (.seq 'c') KS)^KR
def KW:ISs:=(.set 3 (.comp ["island"] [] (.seq 'b') (.nm 0) .none (.ix 'a' 'A')))^KU
def KY:ISs:=(.expr (.call 4 'a' #v['b',.comp ["ferry"] [] (.seq 'c') (.nm 0) .none (.ix 'a' 'A')]))^KW
def KZ:ISs:=(.expr (.call 3 'c' .nil))^KY
noncomputable def Zmj:ISs:=#v[.never]
def L0:ISs:=(.ite (.cmp .Gt (.bi .len 'c' .nil) (.glb "MOST_FERRIES" 6)) Zmj .nil)^KZ
noncomputable def Zmk:ISs:=#v[.never]
def L1:ISs:=(.ite (.cmp .Gt (.bi .len 'b' .nil) (.glb "MOST_ISLANDS" 5)) Zmk .nil)^L0
noncomputable def Zml:ISs:=#v[.never]
def L3:ISs:=(.ite (.not (.call 1 'a' .nil)) Zml .nil)^L1
noncomputable def ZbW:ISs:=#v[.never]
noncomputable def L4:ISs:=#v[.ret 'c']
def L5:ISs:=#v[.ite (.cmp .Eq (.ix 'c' 'A') 'b') L4 .nil]
def L6:ISs:=(.for_ (.nm 2) (.seq 'a') L5)^ZbW
noncomputable def L7:ISs:=#v[.ret (.call 0 (.ix 'a' 'B') #v['b'])]
noncomputable def L8:ISs:=#v[.ret (.call 0 (.ix 'a' 'C') #v['b'])]
noncomputable def Ef:ISs:=#v[.ret (.tup #v['b','c','d','e'])]
def Eg:ISs:=(.set 4 (.bi .dictL (.comp ["ferry"] [] (.seq (.ix 'a' 'C')) (.nm 0) .none (.tup #v[.ix 'a' 'A','A'])) .nil))^Ef
def Eh:ISs:=(.set 3 (.bi .dictL (.comp ["ferry"] [] (.seq (.ix 'a' 'C')) (.nm 0) .none (.tup #v[.ix 'a' 'A',.lst .nil])) .nil))^Eg
def Ei:ISs:=(.set 2 (.bi .dictL (.comp ["island"] [] (.seq (.ix 'a' 'B')) (.nm 0) .none (.tup #v[.ix 'a' 'A',.bi .dict (.ix 'a' 'B') .nil])) .nil))^Eh
def L9:ISs:=(.set 1 (.bi .dictL (.comp ["island"] [] (.seq (.ix 'a' 'B')) (.nm 0) .none (.tup #v[.ix 'a' 'A','A'])) .nil))^Ei
noncomputable def Ej:ISs:=#v[.ret (.tup #v[.bi .dict (.ix 'a' 'A') .nil,'b','c',.bi .dict (.ix 'a' 'D') .nil])]
def Ek:ISs:=(.set 2 (.bi .dictL (.comp ["name"] [0] (.seq (.ix 'a' 'C')) (.nm 0) .none (.tup #v['a',.bi .list (.ix (.ix 'b' 'C') 'a') .nil])) .nil))^Ej
def La:ISs:=(.set 1 (.bi .dictL (.comp ["name"] [0] (.seq (.ix 'a' 'B')) (.nm 0) .none (.tup #v['a',.bi .dict (.ix (.ix 'b' 'B') 'a') .nil])) .nil))^Ek
noncomputable def Lb:ISs:=#v[.ret (.call 1 (.ix 'a' 'A') #v[.ix (.call 0 'a' #v['c']) 'C',.ix (.ix 'b' 'A') 'c',.ix (.ix 'b' 'B') 'c'])]
noncomputable def Lc:ISs:=#v[.ret (.cmp .Lt 'd' (.call 1 (.ix (.call 0 'a' #v[.ix 'c' 'B']) 'D') .nil))]
noncomputable def Ld:ISs:=#v[.ret (.cmp .Gt 'd' 'A')]
def El:ISs:=(.ite (.cmp .Eq (.ix 'c' 'A') (.str "take")) Ld .nil)^Lc
def Em:ISs:=(.set 3 (.bin .Sub (.bi .len (.ix (.ix 'b' 'C') (.ix 'c' 'B')) .nil) (.ix (.ix 'b' 'D') (.ix 'c' 'B'))))^El
noncomputable def En:ISs:=#v[.ret (.bl wf)]
def Lf:ISs:=(.ite (.cmp .Eq (.ix 'c' 'A') (.str "own")) En .nil)^Em
noncomputable def Lg:ISs:=#v[.put (.ix 'e' 'B') 'c' (.ix 'i' 'B')]
def Lh:ISs:=(.put (.ix 'e' 'A') 'c' (.ix 'i' 'A'))^Lg
def Li:ISs:=(.set 8 (.call 0 (.ix 'a' 'A') #v['h',.ix (.ix 'b' 'A') 'c',.ix (.ix 'b' 'B') 'c','f']))^Lh
def Eo:ISs:=(.set 7 (.ix (.call 1 'a' #v['c']) 'C'))^Li
noncomputable def Lj:ISs:=#v[.expr (.mt .append (.ix (.ix 'e' 'C') (.ix 'd' 'B')) #v[.ix 'd' 'C'])]
def An:ISs:=(.ite (.cmp .Eq (.ix 'd' 'A') (.str "give")) Lj .nil)^Eo
noncomputable def Lk:ISs:=#v[.put (.ix 'e' 'D') 'g' (.bin .Add (.ix (.ix 'b' 'D') 'g') 'B')]
def Ll:ISs:=(.set 5 (.ix (.ix (.ix 'b' 'C') 'g') (.ix (.ix 'b' 'D') 'g')))^Lk
def Lm:ISs:=(.set 6 (.ix 'd' 'B'))^Ll
def Ln:ISs:=(.ite (.cmp .Eq (.ix 'd' 'A') (.str "take")) Lm .nil)^An
def Lo:ISs:=(.set 5 .non)^Ln
noncomputable def Lp:ISs:=#v[.ret (.tup #v['c','d'])]
noncomputable def Lq:ISs:=#v[.expr (.mt .append 'd' #v[.ix 'e' 'A'])]
def Lr:ISs:=(.expr (.call 2 'a' #v['b',.ix 'e' 'A','f','c']))^Lq
def Ls:ISs:=#v[.ite (.and (.cmp .IsNot 'f' .non) (.call 0 'a' #v['b','f'])) Lr .nil]
def Lu:ISs:=(.set 5 (.call 3 'a' #v['b',.ix 'e' 'A']))^Ls
def Lv:ISs:=(.for_ (.nm 4) (.seq (.ix 'a' 'B')) Lu)^Lp
def Lw:ISs:=(.set 3 (.lst .nil))^Lv
def Lx:ISs:=(.set 2 (.call 1 'b' .nil))^Lw
noncomputable def Ly:ISs:=#v[.ret 'd']
noncomputable def Lz:ISs:=#v[.set 4 (.bi .list 'c' .nil)]
def LA:ISs:=(.set 3 (.bin .Add 'd' 'B'))^Lz
def LB:ISs:=#v[.ite (.cmp .Eq (.bi .len 'e' .nil) 'A') LA .nil]
def LC:ISs:=(.expr (.mt .remove 'e' #v['f']))^LB
def LD:ISs:=#v[.ite (.cmp .In 'f' 'e') LC .nil]
def LF:ISs:=(.for_ (.nm 5) (.seq 'b') LD)^Ly
def LG:ISs:=(.set 4 (.bi .list 'c' .nil))^LF
def LH:ISs:=(.set 3 'A')^LG
def LI:ISs:=(.set 2 (.comp ["island"] [] (.seq (.ix 'a' 'B')) (.nm 0) .none (.ix 'a' 'A')))^LH
noncomputable def LJ:ISs:=#v[.ret 'd']
noncomputable def LK:ISs:=#v[.expr (.mt .append (.ix 'd' 'g') #v[.tup #v[.ix (.ix 'c' 'A') 'g',.bi .dict (.ix (.ix 'c' 'B') 'g') .nil]])]
def LL:ISs:=#v[.for_ (.nm 6) (.seq (.ix 'f' 'B')) LK]
def LM:ISs:=(.set 2 (.ix 'f' 'A'))^LL
def LN:ISs:=(.set 5 (.call 1 'a' #v['c']))^LM
def Ep:ISs:=(.for_ (.nm 4) (.rng 'b') LN)^LJ
def Er:ISs:=(.set 3 (.bi .dictL (.comp ["island"] [] (.seq (.ix 'a' 'B')) (.nm 0) .none (.tup #v[.ix 'a' 'A',.lst #v[.tup #v['A',.bi .dict (.ix 'a' 'B') .nil]]])) .nil))^Ep
def LO:ISs:=(.set 2 (.call 0 'a' .nil))^Er
noncomputable def Es:ISs:=#v[.ret (.bi .dictL (.comp ["name"] [2] (.seq 'c') (.nm 0) .none (.tup #v['a',.bin .Sub (.bi .len (.ix 'b' 'a') .nil) 'B'])) .nil)]
def LP:ISs:=(.set 2 (.call 0 'a' #v['b']))^Es
noncomputable def LQ:ISs:=#v[.ret (.bin .Add (.mxd (.comp ["ferry"] [] (.seq (.ix 'a' 'C')) (.nm 0) .none (.ix 'a' 'E'))) 'C')]
noncomputable def LR:ISs:=#v[.ret (.tup #v[.call 0 'a' #v['c'],.call 0 'a' #v[.bi .len 'b' .nil]])]
def LS:ISs:=(.set 2 (.bin .FloorDiv (.call 1 'a' #v['b']) (.call 2 'a' .nil)))^LR
noncomputable def LU:ISs:=#v[.ret (.bin .BitXor 'a' (.bin .FloorDiv 'a' 'C'))]
noncomputable def LV:ISs:=#v[.ret 'b']
noncomputable def LW:ISs:=#v[.set 2 (.bin .FloorDiv 'c' 'C')]
def LX:ISs:=(.set 1 (.bin .BitXor 'b' 'c'))^LW
def LY:ISs:=(.while_ (.cmp .Gt 'c' 'A') LX)^LV
def LZ:ISs:=(.set 2 (.bin .FloorDiv 'a' 'C'))^LY
def Ma:ISs:=(.set 1 'a')^LZ
noncomputable def Mb:ISs:=#v[.ret (.tup #v['a','a',.neg 'B'])]
noncomputable def Mc:ISs:=#v[.ret (.tup #v['b',.ix 'a' 'A','c'])]
noncomputable def Md:ISs:=#v[.ret (.bin .Mult (.tup #v['a']) 'b')]
noncomputable def Me:ISs:=#v[.ret (.ix 'a' 'A')]
noncomputable def Mf:ISs:=#v[.ret (.call 0 (.ix 'a' 'B') #v[.ix 'a' 'A','c'])]
def Mg:ISs:=(.ite (.cmp .Gt (.ix 'a' 'C') 'b') Mf .nil)^Me
noncomputable def Mh:ISs:=#v[.ret (.sl (.bin .Add (.tup #v['b']) 'a') .none (.some (.neg 'B')))]
noncomputable def Mi:ISs:=#v[.ret (.ix 'a' (.neg 'B'))]
noncomputable def Mj:ISs:=#v[.fset "Side" 'a' "sight" (.call 1 (.call 0 'A' .nil) #v['c'])]
def Ml:ISs:=(.fset "Side" 'a' "sign" (.call 2 (.call 0 'A' .nil) .nil))^Mj
def Mm:ISs:=(.fset "Side" 'a' "total" 'A')^Ml
def Mn:ISs:=(.fset "Side" 'a' "turn" 'b')^Mm
noncomputable def Mo:ISs:=#v[.ret (.ix (.fld "Side" 'a' "sign") 'C')]
noncomputable def Mp:ISs:=#v[.ret (.bin .Mod (.bin .Sub (.fld "Side" 'a' "total") (.call 0 (.call 1 (.fld "Side" 'a' "sight") .nil) .nil)) (.fld "Side" 'a' "turn"))]
noncomputable def Mq:ISs:=#v[.fset "Side" 'a' "total" (.bin .Add (.fld "Side" 'a' "total") 'B')]
noncomputable def Mr:ISs:=#v[.ret 'e']
def Ms:ISs:=(.fset "Side" 'a' "sight" (.call 1 (.fld "Side" 'a' "sight") #v['e']))^Mr
def Mt:ISs:=(.fset "Side" 'a' "sign" (.call 3 (.fld "Side" 'a' "sign") #v[.call 0 (.bin .Mod (.fld "Side" 'a' "total") (.fld "Side" 'a' "turn")) .nil,'b']))^Ms
def Mu:ISs:=(.set 4 (.call 2 'd' #v[.mcall 4 "Side" "ring_ahead" 'a' .nil,'c']))^Mt
noncomputable def Mv:ISs:=#v[.fset "Ferry" 'a' "taker" (.make 2 "Side" (.call 1 (.bin .Add 'b' 'B') .nil) #v['c'])]
def Mw:ISs:=(.fset "Ferry" 'a' "giver" (.make 2 "Side" (.call 1 (.bin .Add 'b' 'B') .nil) #v['c']))^Mv
def Mx:ISs:=(.fset "Ferry" 'a' "places" (.bin .Mult (.lst #v[.call 0 'A' .nil]) (.call 1 'b' .nil)))^Mw
noncomputable def Mz:ISs:=#v[.ret (.tup #v['f',.mcall 3 "Side" "show_and_see" (.fld "Ferry" 'a' "giver") #v['b','c',.fld "Side" (.fld "Ferry" 'a' "taker") "sign"]])]
def Et:ISs:=(.fset "Ferry" 'a' "places" (.comp ["k"] [1,4,0] (.rng (.bi .len 'e' .nil)) (.nm 0) .none (.call 0 (.ix (.fld "Ferry" 'd' "places") 'a') #v[.ix 'c' 'a','b'])))^Mz
noncomputable def MA:ISs:=#v[.expr (.mcall 1 "Side" "grow" (.fld "Ferry" 'a' "giver") .nil)]
def MC:ISs:=(.put 'e' (.bin .Mod (.fld "Side" (.fld "Ferry" 'a' "giver") "total") (.bi .len 'e' .nil)) 'd')^MA
def Eu:ISs:=(.ite 'f' MC .nil)^Et
def MD:ISs:=(.set 5 (.and (.cmp .IsNot 'd' .non) (.cmp .Lt (.mcall 2 "Side" "less_the_seen" (.fld "Ferry" 'a' "giver") .nil) (.bi .len 'e' .nil))))^Eu
def ME:ISs:=(.set 4 (.comp ["place"] [] (.seq (.fld "Ferry" 'a' "places")) (.nm 0) .none (.ix 'a' 'A')))^MD
noncomputable def Ev:ISs:=#v[.ret (.tup #v['e',.mcall 4 "Side" "show_and_see" (.fld "Ferry" 'a' "taker") #v['b','c',.fld "Side" (.fld "Ferry" 'a' "giver") "sign"]])]
noncomputable def MF:ISs:=#v[.expr (.mcall 1 "Side" "grow" (.fld "Ferry" 'a' "taker") .nil)]
def MG:ISs:=(.set 4 (.call 0 'f' #v[.mcall 3 "Side" "ring_ahead" (.fld "Ferry" 'a' "taker") .nil,'c']))^MF
def MI:ISs:=(.set 5 (.ix (.fld "Ferry" 'a' "places") (.bin .Mod (.fld "Side" (.fld "Ferry" 'a' "taker") "total") (.bi .len (.fld "Ferry" 'a' "places") .nil))))^MG
def MJ:ISs:=(.ite (.and 'd' (.cmp .NotEq (.mcall 2 "Side" "less_the_seen" (.fld "Ferry" 'a' "taker") .nil) 'A')) MI .nil)^Ev
def MK:ISs:=(.set 4 .non)^MJ
noncomputable def ML:ISs:=#v[.ret (.tup #v[.str "wait",.ix 'a' 'B'])]
noncomputable def MM:ISs:=#v[.ret (.tup #v[.str "own"])]
def MN:ISs:=(.ite (.cmp .Eq (.ix 'a' 'A') (.str "own")) MM .nil)^ML
noncomputable def MP:ISs:=#v[.ret (.tup #v[.str "done"])]
def MQ:ISs:=(.ite (.cmp .Is 'a' .non) MP .nil)^MN
noncomputable def MR:ISs:=#v[.ret (.and (.cmp .IsNot 'a' .non) (.and (.cmp .NotEq (.ix 'a' 'A') (.str "own")) (.cmp .Eq (.ix 'a' 'B') 'b')))]
noncomputable def MS:ISs:=#v[.ret (.ix 'a' 'b')]
def MU:ISs:=(.expr (.call 0 'b' #v['a']))^MS
noncomputable def Z9S:ISs:=#v[.fset "Run" 'a' "taken_so_far" (.bi .dictL (.comp ["ferry"] [] (.seq (.ix 'b' 'C')) (.nm 0) .none (.tup #v[.ix 'a' 'A',.lst .nil])) .nil)]
def Z9T:ISs:=(.fset "Run" 'a' "given_so_far" (.bi .dictL (.comp ["ferry"] [] (.seq (.ix 'b' 'C')) (.nm 0) .none (.tup #v[.ix 'a' 'A',.lst .nil])) .nil))^Z9S
def Z9U:ISs:=(.fset "Run" 'a' "boats" (.bi .dictL (.comp ["ferry"] [] (.seq (.ix 'b' 'C')) (.nm 0) .none (.tup #v[.ix 'a' 'A',.make 0 "Ferry" (.ix 'a' 'D') #v[.ix 'a' 'E']])) .nil))^Z9T
def Z9V:ISs:=(.fset "Run" 'a' "steps_so_far" (.bi .dictL (.comp ["island"] [] (.seq (.ix 'b' 'B')) (.nm 0) .none (.tup #v[.ix 'a' 'A','A'])) .nil))^Z9U
def Z9W:ISs:=(.fset "Run" 'a' "words_now" (.bi .dictL (.comp ["island"] [] (.seq (.ix 'b' 'B')) (.nm 0) .none (.tup #v[.ix 'a' 'A',.bi .dict (.ix 'a' 'B') .nil])) .nil))^Z9V
def Z9X:ISs:=(.fset "Run" 'a' "next_numbers" (.bi .dictL (.comp ["island"] [] (.seq (.ix 'b' 'B')) (.nm 0) .none (.tup #v[.ix 'a' 'A','A'])) .nil))^Z9W
def MW:ISs:=(.fset "Run" 'a' "moment" 'A')^Z9X
def MX:ISs:=(.fset "Run" 'a' "world" 'b')^MW
noncomputable def Ao:ISs:=#v[.ret (.tup #v['b','e','g','h'])]
noncomputable def Ew:ISs:=#v[.expr (.mcall 4 "Run" "go_on" 'a' #v['b','d',.ife (.cmp .Eq (.ix 'g' 'A') (.str "take")) (.ix 'g' 'C') .non])]
def MY:ISs:=(.ite (.cmp .NotIn (.ix 'g' 'A') (.tup #v[.str "done",.str "wait"])) Ew .nil)^Ao
def MZ:ISs:=(.fset "Run" 'a' "moment" (.bin .Add (.fld "Run" 'a' "moment") 'B'))^MY
noncomputable def N0:ISs:=#v[.set 6 (.ix 'k' 'A')]
def N2:ISs:=#v[.ite (.cmp .IsNot (.ix 'k' 'A') .non) N0 .nil]
def N5:ISs:=(.expr (.mt .append 'h' #v[.tup #v[.ix 'j' 'A',.ix 'k' 'B']]))^N2
def N6:ISs:=(.set 10 (.mcall 5 "Run" "ring_ferry" 'a' #v['j','b',.bin .FloorDiv 'c' (.call 1 (.bin .Mult (.glb "BITS_A_FERRY" 8) 'i') .nil),'f']))^N5
def N7:ISs:=#v[.ite (.cmp .In 'b' (.tup #v[.ix 'j' 'B',.ix 'j' 'C'])) N6 .nil]
def Ex:ISs:=(.set 9 (.ix (.ix (.fld "Run" 'a' "world") 'C') 'i'))^N7
def N8:ISs:=(.for_ (.nm 8) (.rng (.bi .len (.ix (.fld "Run" 'a' "world") 'C') .nil)) Ex)^MZ
def N9:ISs:=(.set 7 (.lst .nil))^N8
def Na:ISs:=(.set 6 (.call 2 'f' .nil))^N9
def Nb:ISs:=(.set 5 (.call 3 (.ix (.fld "Run" 'a' "world") 'A') #v['d','e',.ix (.fld "Run" 'a' "words_now") 'b']))^Na
def Nc:ISs:=(.set 4 (.ix (.fld "Run" 'a' "next_numbers") 'b'))^Nb
def Nd:ISs:=(.set 3 (.ix (.call 0 (.fld "Run" 'a' "world") #v['b']) 'C'))^Nc
noncomputable def Nf:ISs:=#v[.ret (.tup #v[.tup #v[.str "take",.ix 'b' 'A',.ix 'h' 'A'],.ix 'h' 'B'])]
def Ng:ISs:=(.expr (.mt .append (.ix (.fld "Run" 'a' "taken_so_far") (.ix 'b' 'A')) #v[.ix 'h' 'A']))^Nf
noncomputable def Nh:ISs:=#v[.ret 'h']
def Ni:ISs:=(.ite (.cmp .Is (.ix 'h' 'A') .non) Nh .nil)^Ng
def Ey:ISs:=(.set 7 (.mcall 2 "Ferry" "ring_taker" 'f' #v[.fld "Run" 'a' "moment",'d','g']))^Ni
noncomputable def Nj:ISs:=#v[.ret (.tup #v['e',.ix 'h' 'B'])]
def Nk:ISs:=(.expr (.mt .append (.ix (.fld "Run" 'a' "given_so_far") (.ix 'b' 'A')) #v[.ix 'e' 'C']))^Nj
noncomputable def Nl:ISs:=#v[.ret (.tup #v[.non,.ix 'h' 'B'])]
def Ez:ISs:=(.ite (.not (.ix 'h' 'A')) Nl .nil)^Nk
def Nm:ISs:=(.set 7 (.mcall 1 "Ferry" "ring_giver" 'f' #v[.fld "Run" 'a' "moment",'d',.ife 'g' (.ix 'e' 'C') .non]))^Ez
def Nn:ISs:=(.ite (.cmp .Eq (.ix 'b' 'B') 'c') Nm .nil)^Ey
def No:ISs:=(.set 6 (.call 0 'e' #v[.ix 'b' 'A']))^Nn
def Np:ISs:=(.set 5 (.ix (.fld "Run" 'a' "boats") (.ix 'b' 'A')))^No
noncomputable def Nq:ISs:=#v[.put (.fld "Run" 'a' "steps_so_far") 'b' (.bin .Add (.ix (.fld "Run" 'a' "steps_so_far") 'b') 'B')]
def Nr:ISs:=(.put (.fld "Run" 'a' "words_now") 'b' (.ix 'e' 'B'))^Nq
def Nt:ISs:=(.put (.fld "Run" 'a' "next_numbers") 'b' (.ix 'e' 'A'))^Nr
def Nu:ISs:=(.set 4 (.call 0 (.ix (.fld "Run" 'a' "world") 'A') #v['c',.ix (.fld "Run" 'a' "next_numbers") 'b',.ix (.fld "Run" 'a' "words_now") 'b','d']))^Nt
noncomputable def Nv:ISs:=#v[.ret (.call 0 (.fld "Run" 'a' "steps_so_far") #v['b'])]
noncomputable def Nw:ISs:=#v[.ret 'A']
noncomputable def Ny:ISs:=#v[.ret (.ix 'a' 'b')]
def Nz:ISs:=(.ite (.cmp .Lt 'b' (.bi .len 'a' .nil)) Ny .nil)^Nw
noncomputable def NA:ISs:=#v[.ret (.bin .Add (.bin .Add (.bin .Mult (.ix 'c' 'd') 'g') 'h') (.bin .Mult (.ix 'c' 'd') (.bin .Sub (.bin .Sub 'f' 'B') 'g')))]
def NB:ISs:=(.set 7 (.ix 'c' (.bin .Mod (.bin .Add (.bin .FloorDiv 'a' (.int 4992)) (.bin .Mult 'H' 'b')) (.int 26))))^NA
def NC:ISs:=(.set 6 (.bin .Mod (.bin .Mod (.bin .FloorDiv 'a' 'Y') 'I') 'f'))^NB
def ND:ISs:=(.set 5 (.bin .Add 'B' (.bin .Mod (.bin .FloorDiv 'a' 'D') 'I')))^NC
noncomputable def NE:ISs:=#v[.ret (.bin .Add (.bin .Mult (.ix 'c' 'd') (.bin .Add 'B' (.bin .Mod (.bin .Add (.bin .Mult 'D' 'b') (.bin .FloorDiv 'a' (.int 192))) 'H'))) (.bin .Mult 'e' (.bin .FloorDiv 'b' 'H')))]
def NF:ISs:=(.set 4 (.ix 'c' (.bin .Mod (.bin .Add (.bin .Add 'd' 'B') (.bin .Mod (.bin .FloorDiv 'a' (.int 4992)) 'Z')) (.int 26))))^NE
def NG:ISs:=(.ite (.cmp .Eq (.bin .Mod 'a' 'D') 'C') NF .nil)^ND
def NH:ISs:=(.set 3 (.bin .Mod (.bin .FloorDiv 'a' (.int 192)) (.int 26)))^NG
def NI:ISs:=(.set 2 (.str "abcdefghijklmnopqrstuvwxyz"))^NH
noncomputable def NJ:ISs:=#v[.ret (.tup #v[.str "plus",'c',.tup #v[.str "var",.ix 'b' (.bin .Mod (.bin .FloorDiv 'a' (.int 224)) 'C')]])]
noncomputable def NK:ISs:=#v[.ret (.tup #v[.str "pick",.tup #v[.str "less",'c','d'],'d','c'])]
def NL:ISs:=(.ite (.cmp .Eq (.bin .Mod 'a' 'I') 'F') NK .nil)^NJ
noncomputable def NM:ISs:=#v[.ret (.tup #v[.ix (.lst #v[.str "plus",.str "minus",.str "times"]) (.bin .Sub (.bin .Mod 'a' 'I') 'C'),'c','d'])]
def NN:ISs:=(.ite (.cmp .Lt (.bin .Mod 'a' 'I') 'F') NM .nil)^NL
noncomputable def NO:ISs:=#v[.ret (.ix (.lst #v['c','d']) (.bin .Mod 'a' 'C'))]
def NP:ISs:=(.ite (.cmp .Lt (.bin .Mod 'a' 'I') 'C') NO .nil)^NN
def NQ:ISs:=(.set 3 (.tup #v[.str "num",.ix (.lst #v[.bin .Sub (.bin .Mod (.bin .FloorDiv 'a' 'Q') 'H') 'D',.bin .Mod (.bin .Mult (.bin .FloorDiv 'a' 'Q') (.int 1000000007)) (.bin .Pow 'K' 'U')]) (.bin .Mod (.bin .FloorDiv 'a' (.int 112)) 'C')]))^NP
def NR:ISs:=(.set 2 (.tup #v[.str "var",.ix 'b' (.bin .Mod (.bin .FloorDiv 'a' 'I') 'C')]))^NQ
noncomputable def NS:ISs:=#v[.ret (.tup #v[.str "put",.ix 'c' (.bin .Mod (.bin .FloorDiv 'a' 'I') 'C'),.call 0 'h' #v['c']])]
noncomputable def NT:ISs:=#v[.ret (.tup #v[.str "jump",.call 0 'h' #v['c'],.bin .Mod (.bin .FloorDiv 'a' 'I') (.bin .Add 'e' 'B')])]
def EA:ISs:=(.ite (.cmp .Eq (.bin .Mod 'a' 'I') 'H') NT .nil)^NS
noncomputable def NU:ISs:=#v[.ret (.tup #v[.str "give",.ix 'g' (.bin .Mod (.bin .FloorDiv 'a' 'I') (.bi .len 'g' .nil)),.call 0 'h' #v['c']])]
def EB:ISs:=(.ite (.and (.cmp .Lt (.bin .Mod 'a' 'I') 'G') (.cmp .NotEq 'g' (.lst .nil))) NU .nil)^EA
noncomputable def NV:ISs:=#v[.ret (.tup #v[.str "take",.ix 'f' (.bin .Mod (.bin .FloorDiv 'a' 'I') (.bi .len 'f' .nil)),.ix 'c' (.bin .Mod 'h' 'C')])]
def NW:ISs:=(.ite (.and (.cmp .Lt (.bin .Mod 'a' 'I') 'D') (.cmp .NotEq 'f' (.lst .nil))) NV .nil)^EB
def NX:ISs:=(.set 7 (.bin .FloorDiv 'a' (.int 128)))^NW
def NY:ISs:=(.set 6 (.comp ["ferry"] [1] (.seq 'd') (.nm 0) (.some (.cmp .Eq (.ix 'a' 'B') 'b')) (.ix 'a' 'A')))^NX
def NZ:ISs:=(.set 5 (.comp ["ferry"] [1] (.seq 'd') (.nm 0) (.some (.cmp .Eq (.ix 'a' 'C') 'b')) (.ix 'a' 'A')))^NY
noncomputable def EC:ISs:=#v[.ret (.tup #v['f','h','k'])]
noncomputable def O0:ISs:=#v[.expr (.mt .append 'k' #v[.tup #v[.str "jump",.tup #v[.str "num",'B'],'A']])]
def O1:ISs:=(.ite (.cmp .Eq 'j' 'B') O0 .nil)^EC
noncomputable def O3:ISs:=#v[.set 0 (.bin .FloorDiv 'a' (.bin .Pow 'K' 'I'))]
def ED:ISs:=(.expr (.mt .append 'k' #v[.call 1 (.bin .Mod 'a' (.bin .Pow 'K' 'I')) #v['f','g','d',.bin .Add 'i' 'j']]))^O3
def O4:ISs:=(.for_ (.nm 11) (.rng 'i') ED)^O1
def O5:ISs:=(.set 10 (.lst .nil))^O4
def O6:ISs:=(.set 0 (.bin .FloorDiv 'a' (.int 112)))^O5
def O7:ISs:=(.set 9 (.bi .int (.cmp .Lt (.bin .Mod (.bin .FloorDiv 'a' (.int 28)) 'E') 'e') .nil))^O6
def O8:ISs:=(.set 8 (.bin .Mod (.bin .FloorDiv 'a' 'E') 'H'))^O7
def O9:ISs:=(.set 7 (.lst #v[.tup #v[.ix 'g' 'A',.bin .Mod 'a' 'C'],.tup #v[.ix 'g' 'B',.bin .Mod (.bin .FloorDiv 'a' 'C') 'C']]))^O8
def Oa:ISs:=(.set 6 (.lst #v[.call 0 'c' #v['J'],.call 0 'c' #v['K']]))^O9
def Ob:ISs:=(.set 5 (.call 0 'c' #v['b']))^Oa
noncomputable def Oc:ISs:=#v[.ret (.tup #v['e','m','g'])]
noncomputable def EE:ISs:=#v[.expr (.mt .append 'm' #v[.call 1 (.bin .Mod (.call 0 'a' #v[.bin .Add 'G' 'h']) (.bin .Pow 'K' (.int 60))) #v['h','d','g','b']])]
def Od:ISs:=(.for_ (.nm 7) (.rng 'f') EE)^Oc
def Oe:ISs:=(.set 12 (.lst .nil))^Od
noncomputable def Of:ISs:=#v[.expr (.mt .append 'g' #v[.tup #v[.call 2 'd' #v[.bin .Add 'F' 'h'],.ix 'l' 'A',.ix 'l' 'B',.bin .Mod (.bin .FloorDiv 'i' 'U') 'E',.bin .Add 'B' (.bin .Mod (.bin .FloorDiv 'i' (.int 80)) 'D')]])]
def Og:ISs:=(.set 11 (.tup #v[.call 2 'd' #v['j'],.call 2 'd' #v['k']]))^Of
def Oh:ISs:=(.set 10 (.bin .Mod (.bin .Add (.bin .Add 'j' 'B') (.bin .Mod (.bin .FloorDiv 'i' 'F') (.bin .Sub 'f' 'B'))) 'f'))^Og
def Oi:ISs:=(.set 9 (.bin .Mod 'i' 'f'))^Oh
def EF:ISs:=(.set 8 (.bin .FloorDiv (.bin .Mod (.call 0 'a' #v[.bin .Add 'C' (.bin .Mod 'h' 'E')]) (.bin .Pow 'K' 'P')) (.ix (.lst #v['B',.int 1000000]) (.bin .FloorDiv 'h' 'E'))))^Oi
def Oj:ISs:=(.for_ (.nm 7) (.rng (.bi .min (.bin .Sub (.bin .Mult 'G' 'f') 'G') #v[.bin .Mod (.bin .FloorDiv 'c' (.int 2048)) 'H'])) EF)^Oe
def Ol:ISs:=(.set 6 (.lst .nil))^Oj
def Om:ISs:=(.set 5 (.bin .Add 'B' (.bin .Mod 'c' 'F')))^Ol
def On:ISs:=(.set 4 (.ix (.lst #v[.bin .Add 'B' (.bin .Mod (.bin .FloorDiv 'c' 'Q') (.int 64)),.bin .Add 'B' (.bin .Mod (.bin .FloorDiv 'c' 'Q') 'F')]) (.bin .Mod (.bin .FloorDiv 'c' (.int 1024)) 'C')))^Om
def Oo:ISs:=(.set 3 (.bin .Mod (.call 0 'a' #v['B']) (.bin .Pow 'K' 'J')))^On
def Op:ISs:=(.set 2 (.bin .Mod (.call 0 'a' #v['A']) (.bin .Pow 'K' 'J')))^Oo
noncomputable def Oq:ISs:=#v[.ret 'c']
noncomputable def Os:ISs:=#v[.expr (.mt .append 'c' #v[.tup #v[.ix (.ix 'b' (.bin .Mod 'd' (.bi .len 'b' .nil))) 'A',.bin .Mod (.bin .FloorDiv 'd' (.bi .len 'b' .nil)) (.bin .Pow 'K' (.int 30))]])]
def Ot:ISs:=(.for_ (.nm 3) (.seq 'a') Os)^Oq
def Ou:ISs:=(.set 2 (.lst .nil))^Ot
noncomputable def Ov:ISs:=#v[.ret (.bl wf)]
noncomputable def Zmm:ISs:=#v[.ret (.bl wg)]
def Ow:ISs:=#v[.ite (.or (.cmp .Lt 'l' (.ix 'i' (.ix 'k' 'A'))) (.or (.cmp .Gt 'l' (.ix 'j' (.ix 'k' 'A'))) (.cmp .Gt (.ix 'i' (.ix 'k' 'A')) (.ix 'j' (.ix 'k' 'A'))))) Zmm .nil]
def Ox:ISs:=(.set 11 (.mcall 7 "Run" "steps_done" 'f' #v[.ix 'k' 'A']))^Ow
def Oy:ISs:=#v[.for_ (.nm 10) (.seq 'c') Ox]
def Oz:ISs:=(.asg #v[.nm 8,.nm 9] (.call 3 'e' #v[.comp ["ring"] [] (.seq (.sl 'g' .none (.some (.bin .Add 'h' 'B')))) (.nm 0) .none (.ix 'a' 'A')]))^Oy
def OA:ISs:=#v[.ite (.or (.cmp .Eq (.bin .Mod 'h' 'K') 'J') (.cmp .Eq 'h' (.bin .Sub (.bi .len 'g' .nil) 'B'))) Oz .nil]
def OB:ISs:=(.expr (.mcall 6 "Run" "ring" 'f' #v[.ix (.ix 'g' 'h') 'A',.ix (.ix 'g' 'h') 'B']))^OA
def OC:ISs:=(.for_ (.nm 7) (.rng (.bi .len 'g' .nil)) OB)^Ov
noncomputable def OD:ISs:=#v[.set 6 (.comp ["k"] [2,6] (.rng (.bi .len 'g' .nil)) (.nm 0) .none (.tup #v[.ix (.ix 'b' (.bin .Mod 'a' (.bi .len 'b' .nil))) 'A',.ix (.ix 'c' 'a') 'B']))]
def OE:ISs:=(.ite (.cmp .Eq (.bin .Mod (.bin .FloorDiv (.call 0 'a' #v['A']) (.bin .Pow 'K' 'J')) 'C') 'B') OD .nil)^OC
def OF:ISs:=(.set 6 (.call 1 (.sl 'a' (.some 'K') (.some (.int 90))) #v['c']))^OE
def OG:ISs:=(.set 5 (.make 5 "Run" 'e' .nil))^OF
def OH:ISs:=(.set 4 (.call 4 'b' #v[.bi .list 'c' .nil,.bi .list 'd' .nil]))^OG
def OI:ISs:=(.asg #v[.nm 1,.nm 2,.nm 3] (.call 2 'a' #v['D']))^OH
def szl:sizeLine=16777216:=by decide
def na10:Int.natAbs 10=10:=rfl
def at0{j:Type}{x:j}{l:List j}:atI (x::l) 0=wc x:=by unfold atI ixN;simp
def at1{l:Type}{x y:l}{u:List l}:atI (x::y::u) 1=wc y:=Yl (j:=1) (by rfl)
def at2{l:Type}{x y z:l}{u:List l}:atI (x::y::z::u) 2=wc z:=Yl (j:=2) (by rfl)
def at3{l:Type}{x y z u:l}{w:List l}:atI (x::y::z::u::w) 3=wc u:=Yl (j:=3) (by rfl)
def at4{l:Type}{x y z u v:l}{w:List l}:atI (x::y::z::u::v::w) 4=wc v:=Yl (j:=4) (by rfl)
def _t{a b:String}:(VX a=VX b)↔a=b:=by
 constructor
 .intro h;rw[Str.ofString_eq_toList,Str.ofString_eq_toList]at h;have u:a.toList.map BC=b.toList.map BC:=by
   have:=congrArg (λs:Str=>s.cps.toList) h
   simpa using this
  have inj:∀(l j:List Char),l.map BC=j.map BC->l=j:=by
   intro l
   induction l with
   |nil=>
    intro j e;cases j with
    |nil=>rfl
    |cons _ _=>cases e
   |cons x r w=>
    intro j e;cases j with
    |nil=>cases e
    |cons y s=>
     rw[Xt,Xt]at e;injection e with e1 e2;rw[w s e2,Char.toNat_inj.mp e1]
  erw[String.toList_inj.mp (inj _ _ u)]
 .intro h;rw[h]
def XU{c A B:Prop} [Decidable c] (j:c->A)(l:¬c->B):if c then A else B:=by
 split
 .erw[j ‹_›]
 .erw[l ‹_›]
def _mr{a:Str}{b:SpM}{R:SpM->Prop}:(∃f j,(a=f/\b=j)/\R j)↔R b:=⟨fun⟨_,_,⟨_,e⟩,h⟩=>e▸h,λh=>⟨a,b,⟨rfl,rfl⟩,h⟩⟩
def isN0:Uv .non=wf:=rfl
def isN2{b:Int}:Uv (.int b)=wg:=rfl
def isN4{b:List MV}:Uv (.tup b)=wg:=rfl
local macro_rules|`(tactic|walk_at "s")=>do
 let a<-("seval szl na10 Nat.zero_add Nat.reduceAdd Nat.zero_le at0 at1 at2 at3 at4 _t _mr Xb _pe U4 Jd UV _pi _pd Je _ne _pf _pg _kT v_s b_0 f_s _qp _qx _qr e_bl _qt _qz e_ty _qD _qu _qs _qB _qC _qE e_or _qy _qq _qw e_ix e_sl _oR e_bi e_b2 _qv _pS e_mt _qA _mt _oQ _oP _ms _oj _oi _px _pw _pv isN0 isN2 isN4 isTy _q5 _py _pT _nM _pU _pK _q3 _pn _nQ _nz _nP _ny q_lt q_le _pV q_gt _q1 _pR _q0 _pP q_is _l9 _nA _nK _l8 _pA _pQ q_in _pO J8 J9 _l7 _l6 Ja _pX _pW _pD _nt _pE _pC _nD _nG _nE _nF _l5 _pY _nJ _pr _pp _po _pq _np _l3 _l4 _nq _nN _la _lb _q4 _q2 _nO _pZ _nx _nw _nv _pI _pJ _nu _l2 _pF _pB _nr _ns _pu _pt _ps _pN _pM _pL _pz _pG _pH _nC _nB _nL WV CMul CPow List.getElem?_cons_zero List.getElem?_cons_succ Option.some.injEq MV.int.injEq MV.bl.injEq MV.tup.injEq MV.ref.injEq MO.lst.injEq MO.dic.injEq MO.ins.injEq Prod.mk.injEq exists_eq_left' exists_eq_left exists_and_left true_and and_true false_and and_false true_or or_true false_or or_false reduceCtorEq ne_eq not_false_eq_true not_true_eq_false List.set_cons_zero List.set_cons_succ decide_eq_true_eq Bool.not_eq_true' decide_eq_false_iff_not if_true if_false Bool.false_eq_true reduceIte List.length_cons List.length_nil and_self String.reduceEq String.reduceNe Int.reduceLT Int.reduceLE Int.reducePow Int.reduceNeg Int.reduceToNat Int.reduceSub Int.reduceAdd Int.reduceMul Nat.reduceLT Nat.reducePow Nat.reduceLeDiff".splitOn " ").toArray.mapM λs=>`(Lean.Parser.Tactic.simpLemma|$(Lean.mkIdent s.toName):term)
 `(tactic|simp only[$[$a:simpLemma],*])
local macro_rules|`(tactic|simp!)=>`(tactic|walk_at "s")
local macro_rules|`(tactic|simp! [$l,*])=>do
 let some s<-Lean.Macro.expandMacro? (<-`(tactic|walk_at "s"))|Lean.Macro.throwUnsupported
 match s with
 |`(tactic|simp only[$a,*])=>`(tactic|simp only[$a,*,$l,*])
 |_=>Lean.Macro.throwUnsupported
def _mq{j:Sort _}{p q:j->Prop}(h:∀a,p a->q a):(∃a,p a)->∃a,q a:=fun⟨a,x⟩=>⟨a,h a x⟩
def _jJ{a b c:Prop}(h:b->c):a/\b->a/\c:=λx=>⟨x.1,h x.2⟩
def _ih{a b c d:Prop}(h:a->c)(g:b->d):a/\b->c/\d:=λx=>⟨h x.1,g x.2⟩
def _lt{a b c d:Prop}(h:a->c)(g:b->d):a\/b->c\/d:=λx=>x.elim (λy=>.inl (h y)) λy=>.inr (g y)
def _jL{j:Sort _}{p q:j->Prop}(h:∀a,p a->q a):(∀a,p a)->∀a,q a:=λx a=>h a (x a)
local macro_rules | `(tactic| walk_at "m") => `(tactic| (intro vs M Q Q' hq; repeat (first | exact hq _ _ | exact id | refine _mq fun _ => ?_ | refine _jJ ?_ | refine _ih ?_ ?_ | refine _jL fun _ => ?_ | refine _lt ?_ ?_)))
noncomputable def SameM(M j:MH):Prop:=∀a o,M a=wc o->j a=wc o
def SameM.refl(M:MH):SameM M M:=λ_ _ h=>h
def SameM.trans{M M1 M2:MH}(a:SameM M M1)(b:SameM M1 M2):SameM M M2:=λc o h=>b c o (a c o h)
def neM{M:MH}{a p:Addr}{o:MO}(h:M a=wc o)(j:M p=we):a≠p:=by intro e;subst e;rw[h]at j;cases j
def SameM.new{M:MH}{p:Addr}(h:M p=we)(o:MO):SameM M (updM M p o):=λa u e=>by rw[X7 (neM e h)];erw[e]
def SameM.free{M M':MH}(s:SameM M M'){p:Addr}(h:M' p=we):M p=we:=by
 cases e:M p with
 |none=>rfl
 |some o=>rw[s _ _ e]at h;cases h
def SameM.upd{M M':MH}(s:SameM M M'){p:Addr}(h:M p=we)(o:MO):SameM M (updM M' p o):=λa u e=>by rw[X7 (neM e h)];erw[s a u e]
def Vt{lo:Int}{n i:Nat}{x:MV}(h:(Src.rng lo n).items[i]?=wc x):i<n/\x=.int (lo+(i:Nat)):=by
 have j:=(Xm.mp h).1;rw[Src.items_len]at j;erw[⟨j,?_⟩];have l:((Xq n).map λi=>MV.int (lo+(i:Nat)))[i]?=wc x:=h;rw[Xe,X6 (by simpa using(show i<n from j))]at l
 simpa using l.symm
def YO{u:Type}{f:u->MV}{l:List u}{i:Nat}{x:MV}(h:(l.map f)[i]?=wc x):∃j:i<l.length,x=f l[i]:=by
 have j:=(Xm.mp h).1;rw[X5]at j;erw[⟨j,?_⟩];rw[Xe,X6 j]at h;erw[(Y4 h).symm]
def _6{u:List (Str×SpM)}(w:∀p∈u,MonW p.2):∀(j:Nat)f l,u[j]?=wc (f,l)->MonW l:=λj f l h=>w (f,l) (Xd h)
def _fG(j:List MV)(k:Nat):cutM j we (wc (k:Int))=j.take k:=by
 unfold cutM;rw[HT.sIx_none,HT.sIx_nat];simp
def _fH(j:List MV)(k:Nat):cutM j (wc (k:Int)) we=j.drop k:=by
 unfold cutM;rw[HT.sIx_none,HT.sIx_nat];by_cases h:k<=j.length
 .rw[Nat.min_eq_left h,VI (by rw[AU];erw[X9 _])]
 .rw[Nat.min_eq_right (by lia),FJ (X9 _),FJ (by lia)]
  simp
theorem Ca{w:Type} [DecidableEq w] (k:w)(v:MV)(j:w):∀l:List (w×MV),valM (putM l k v) j=if j=k then wc v else valM l j
 |[]=>by
  unfold putM valM;by_cases e:k=j
  .rw[if_pos e,if_pos e.symm]
  .rw[if_neg e,if_neg (λz=>e z.symm)]
   rfl
 |(i,u)::r=>by
  unfold putM;by_cases e:i=k
  .rw[if_pos e];subst e;unfold valM;by_cases f:i=j
   .rw[if_pos f,if_pos f.symm]
   .rw[if_neg f,if_neg (λz=>f z.symm),if_neg f]
  .rw[if_neg e];unfold valM;by_cases f:i=j
   .rw[if_pos f,if_neg (λz=>e (f.trans z)),if_pos f]
   .rw[if_neg f,Ca k v j r,if_neg f]
inductive Form where|plus|minus|times|less|same
noncomputable def Form.str:Form->Str
 |.plus=>"plus"|.minus=>"minus"|.times=>"times"|.less=>"less"|.same=>"same"
inductive Tm where
 |num (n:Int)|var (x:Str)|two (f:Form)(a b:Tm)|pick (c a b:Tm)
noncomputable def Tm.depth:Tm->Nat
 |.num _=>1|.var _=>1|.two _ a b=>1+max a.depth b.depth|.pick c a b=>1+max c.depth (max a.depth b.depth)
noncomputable def Tm.size:Tm->Nat
 |.num _=>1|.var _=>1|.two _ a b=>1+(a.size+b.size)|.pick c a b=>1+(c.size+(a.size+b.size))
noncomputable def Tm.reads:Tm->List Str
 |.num _=>[]|.var x=>[x]|.two _ a b=>a.reads++b.reads|.pick c a b=>c.reads++(a.reads++b.reads)
noncomputable def twoV(w:Nat)(l r:Int):Form->Int
 |.plus=>(l+r)%2^w
 |.minus=>(l - r)%2^w
 |.times=>(l*r)%2^w
 |.less=>if l<r then 1 else 0
 |.same=>if l=r then 1 else 0
def Tm.val(ρ:Str->Int)(w:Nat):Tm->Int
 |.num n=>n%2^w
 |.var x=>ρ x
 |.two f a b=>twoV w (a.val ρ w) (b.val ρ w) f
 |.pick c a b=>if c.val ρ w≠0 then a.val ρ w else b.val ρ w
def Ap(w:Nat):(0:Int)<2^w:=Int.pow_pos (by decide)
def OJ{w:Nat}(h:1<=w):(2:Int)<=2^w:=by
 obtain⟨k,rfl⟩:∃k,w=k+1:=⟨w - 1,by lia⟩
 rw[Int.pow_succ];have:=Ap k;lia
def OK{w:Nat}(h:w<=64):(2:Int)^w<=2^64:=by
 have:=B9 (n:=2) (by decide) h
 have j:(2:Int)^w=((2^w:Nat):Int):=by rw[Vk];rfl
 have l:(2:Int)^64=((2^64:Nat):Int):=by decide
 rw[j,l];erw[WJ.mpr this]
def Cb(x:Int)(w:Nat):0<=x%2^w/\x%2^w<2^w:=⟨ZL _ (Int.ne_of_gt (Ap w)),ZY _ (Ap w)⟩
def twoV_in{w:Nat}(hw:1<=w)(l r:Int)(f:Form):0<=twoV w l r f/\twoV w l r f<2^w:=by
 have:=OJ hw;cases f
 .erw[Cb _ _]
 .erw[Cb _ _]
 .erw[Cb _ _]
 .unfold twoV;split<;>lia
 .unfold twoV;split<;>lia
theorem Tm.val_in{j:Str->Int}{w:Nat}(hw:1<=w):∀{T:Tm},(∀x∈T.reads,0<=j x/\j x<2^w)->0<=T.val j w/\T.val j w<2^w
 |.num n,_=>Cb _ _
 |.var x,h=>h x (by simp[Tm.reads])
 |.two f a b,_=>twoV_in hw _ _ f
 |.pick c a b,h=>by
  unfold Tm.val;split
  .erw[a.val_in hw λx l=>h x (by simp[Tm.reads,l])]
  .erw[b.val_in hw λx l=>h x (by simp[Tm.reads,l])]
def Tm.depth_pos:∀T:Tm,1<=T.depth
 |.num _=>X9 _
 |.var _=>X9 _
 |.two _ _ _=>Uh _ _
 |.pick _ _ _=>Uh _ _
noncomputable def Tm.mv:Tm->MV
 |.num n=>.tup [.str "num",.int n]
 |.var x=>.tup [.str "var",.str x]
 |.two f a b=>.tup [.str f.str,a.mv,b.mv]
 |.pick c a b=>.tup [.str "pick",c.mv,a.mv,b.mv]
def OL(f:Form):¬f.str="num":=by cases f<;>decide+kernel
def EG(f:Form):¬f.str="var":=by cases f<;>decide+kernel
def _hK(f:Form):¬f.str="pick":=by cases f<;>decide+kernel
inductive Stp where
 |take (f x:Str)|give (f:Str)(T:Tm)|put (x:Str)(T:Tm)|jump (T:Tm)(i:Int)
noncomputable def Stp.mv:Stp->MV
 |.take f x=>.tup [.str "take",.str f,.str x]
 |.give f T=>.tup [.str "give",.str f,T.mv]
 |.put x T=>.tup [.str "put",.str x,T.mv]
 |.jump T i=>.tup [.str "jump",T.mv,.int i]
noncomputable def tmOk(j:List Str)(T:Tm):Prop:=T.depth<=8/\T.size<=30/\∀x∈T.reads,x∈j
def Stp.ok(j:List Str)(n:Nat):Stp->Prop
 |.take _ x=>x∈j
 |.give _ T=>tmOk j T
 |.put x T=>x∈j/\tmOk j T
 |.jump T i=>tmOk j T/\0<=i/\i<=n
noncomputable def Cc(M:MH)(x:MV)(j:List MV):Prop:=x=.tup j\/∃a,x=.ref a/\M a=wc (.lst j)
def readsOk(u:List Str)(j:List (Key×MV))(l:Str->Int)(w:Nat):Prop:=∀x∈u,valM j (Xn x)=wc (.int (l x))/\0<=l x/\l x<2^w
def readsOk.tm{u:List Str}{j:List (Key×MV)}{l:Str->Int}{w:Nat}(h:readsOk u j l w){T:Tm}(o:tmOk u T):∀x∈T.reads,valM j (Xn x)=wc (.int (l x))/\0<=l x/\l x<2^w:=λx y=>h x (o.2.2 x y)
section
variable{P:Xr}{w:Xl}{K:X4}{mg:Str->Option X0}{base:Heap}{t:Adr}
noncomputable abbrev UW:SpM:=λj M Q=>∃k:Nat,j=[.int k]/\k<=64/\Q (.int (2^k)) M
def _bM:MonW UW:=by walk_at "m"
def Aq(T:Txt K mg t):FO P w K mg base 1 "two_to" UW:=by
 erw[T.bE.ok T.g _bM 1 ["exponent","answer","k"] (fC T f0) Jl (fun u M Q h=>?_) (fun u M Q h=>?_)]
 .have⟨k,rfl,_⟩:=h;rfl
 have⟨k,rfl,z,q⟩:=h;show wSs _ _ _ [wc (.int k),we,we] M;delta Jl;simp!;delta Jk;simp!;erw[⟨by lia,by lia,λi j l=>l=M/\∃v,j=[wc (.int k),wc (.int (2^i)),v],⟨rfl,_,rfl⟩,λ_ _ _ _=>trivial,?_,?_⟩]
 .rintro i x j l y ⟨rfl,v,rfl⟩;have⟨m,rfl⟩:=Vt y;delta Jj;simp!;erw[⟨_,by rw[Int.pow_succ]⟩]
 .rintro j l ⟨rfl,v,rfl⟩;delta Ji;simp!;erw[q]
noncomputable abbrev OM:SpM:=λj M Q=>∃(w:Nat) (n:Int),j=[.int w,.int n]/\w<=64/\Q (.int (n%2^w)) M
def _fm:MonW OM:=by walk_at "m"
def ON(T:Txt K mg t):FO P w K mg base 2 "cut" OM:=by
 erw[T.aF.ok T.g _fm 2 ["width","number"] (fC T (fc (Aq T) f0)) Jo (fun j M Q h=>?_) (fun j M Q h=>?_)]
 .have⟨k,n,rfl,_⟩:=h;rfl
 have⟨w,n,rfl,l,q⟩:=h;show wSs _ _ _ [wc (.int w),wc (.int n)] M;delta Jo;simp!;erw[⟨w,rfl,l,Ap w,q⟩]
abbrev OO:SpM:=λj M Q=>∃(f:Form) (l r:Int) (w:Nat),j=[.str f.str,.int l,.int r,.int w]/\w<=64/\(-(2^64)<l/\l<2^64)/\Q (.int (twoV w l r f)) M
def _5Q:MonW OO:=by walk_at "m"
def _95(T:Txt K mg t):FO P w K mg base 3 "worth_of_two" OO:=by
 erw[T.aT.ok T.g _5Q 4 ["form","left","right","width"] (fC T (fc (ON T) f0)) JH (fun u M Q h=>?_) (fun u M Q h=>?_)]
 .have⟨f,l,r,w,rfl,_⟩:=h;rfl
 have⟨f,l,r,w,rfl,j,y,q⟩:=h;show wSs _ _ _ [wc (.str f.str),wc (.int l),wc (.int r),wc (.int w)] M;delta JH;simp!;cases f with
 |plus=>
  rw[if_pos (by rfl),JG]
  simp!;erw[⟨w,_,rfl,j,q⟩]
 |minus=>
  rw[if_neg (by decide+kernel),Ai]
  simp!;rw[if_pos (by rfl),JF]
  simp!;erw[⟨w,_,rfl,j,q⟩]
 |times=>
  rw[if_neg (by decide+kernel),Ai]
  simp!;rw[if_neg (by decide+kernel),C5]
  simp!;rw[if_pos (by rfl),JE]
  simp!;erw[⟨.inl y,w,_,rfl,j,q⟩]
 |less=>
  rw[if_neg (by decide+kernel),Ai]
  simp!;rw[if_neg (by decide+kernel),C5]
  simp!;rw[if_neg (by decide+kernel),E5]
  simp!;rw[if_pos (by rfl),JD]
  simp!;unfold twoV at q;split<;>simp_all
 |same=>
  rw[if_neg (by decide+kernel),Ai]
  simp!;rw[if_neg (by decide+kernel),C5]
  simp!;rw[if_neg (by decide+kernel),E5]
  simp!;rw[if_neg (by decide+kernel),JC]
  simp!;unfold twoV at q;split<;>simp_all
abbrev Cd(n:Nat):SpM:=λu M Q=>∃(T:Tm) (w:Nat) (d:Addr) (j:List (Key×MV)) (l:Str->Int),u=[T.mv,.int w,.ref d]/\T.depth<=n/\1<=w/\w<=64/\M d=wc (.dic j)/\
 (∀x∈T.reads,valM j (Xn x)=wc (.int (l x))/\0<=l x/\l x<2^w)/\Q (.int (T.val l w)) M
def _cG(n:Nat):MonW (Cd n):=by walk_at "m"
theorem Ce(T:Txt K mg t):∀n:Nat,FO P w K mg base (n+3) "worth" (Cd n)
 |0=>by
  have C:∀Y M Q,¬Cd 0 Y M Q:=λY M Q h=>by
   have⟨T,w,d,u,j,_,Z,_⟩:=h;have:=T.depth_pos;lia
  erw[T.aq.nn T.g ["T","width","words"] C]
 |n+1=>by
  have D:=Ce T n;erw[T.aq.ok T.g (_cG _) 3 ["T","width","words","first"] (fC T (fc (ON T) (fc D (fc (_95 T) f0 (by lia)) (X9 _)) (by lia))) E8 (fun Y M Q h=>?_) (fun Y M Q h=>?_) (hc:=_jy)]
  .have⟨T,w,d,u,j,rfl,_⟩:=h;rfl
  have⟨U,w,d,u,j,rfl,W,y,p,hd,R,q⟩:=h;show wSs _ _ _ [wc U.mv,wc (.int w),wc (.ref d),we] M;have E:=OK p;delta E8;cases U with
  |num m=>
   simp only[Tm.mv];simp!;delta JL;simp!;erw[⟨w,m,rfl,p,q⟩]
  |var x=>
   have F:=(R x (by simp[Tm.reads])).1
   simp only[Tm.mv];simp!;delta C6;simp!;delta JK;simp!;simp only[hd];simp!;erw[⟨_,F,q⟩]
  |two f l r=>
   have L:l.depth<=n:=by unfold Tm.depth at W;lia
   have N:r.depth<=n:=by unfold Tm.depth at W;lia
   have g:∀x∈l.reads,valM u (Xn x)=wc (.int (j x))/\0<=j x/\j x<2^w:=λx z=>R x (by simp[Tm.reads,z])
   have O:∀x∈r.reads,valM u (Xn x)=wc (.int (j x))/\0<=j x/\j x<2^w:=λx z=>R x (by simp[Tm.reads,z])
   have G:=l.val_in y λx z=>(g x z).2;simp only[Tm.mv];simp!;rw[if_neg (OL f),C6];simp!;rw[if_neg (EG f),E7];simp!;erw[ex5 l w d u j ⟨rfl,L,y,p,hd,g,?_⟩];delta E6;simp!;rw[if_neg (_hK f),JI];simp!;erw[ex5 r w d u j ⟨rfl,N,y,p,hd,O,f,_,_,w,rfl,p,⟨by lia,by lia⟩,q⟩]
  |pick c l r=>
   have A:c.depth<=n:=by unfold Tm.depth at W;lia
   have L:l.depth<=n:=by unfold Tm.depth at W;lia
   have N:r.depth<=n:=by unfold Tm.depth at W;lia
   have B:∀x∈c.reads,valM u (Xn x)=wc (.int (j x))/\0<=j x/\j x<2^w:=λx z=>R x (by simp[Tm.reads,z])
   have g:∀x∈l.reads,valM u (Xn x)=wc (.int (j x))/\0<=j x/\j x<2^w:=λx z=>R x (by simp[Tm.reads,z])
   have O:∀x∈r.reads,valM u (Xn x)=wc (.int (j x))/\0<=j x/\j x<2^w:=λx z=>R x (by simp[Tm.reads,z])
   simp only[Tm.mv];simp!;delta C6;simp!;delta E7;simp!;erw[ex5 c w d u j ⟨rfl,A,y,p,hd,B,?_⟩];delta E6;simp!;delta JJ;simp!;erw[XU (λZ=>?_) (λZ=>?_)]
   .have e:Tm.val j w (.pick c l r)=l.val j w:=if_pos Z;rw[e]at q;erw[ex5 l w d u j ⟨rfl,L,y,p,hd,g,q⟩]
   .have e:Tm.val j w (.pick c l r)=r.val j w:=if_neg Z;rw[e]at q;erw[ex5 r w d u j ⟨rfl,N,y,p,hd,O,q⟩]
noncomputable def dueM(j:List Stp)(l:Str->Int)(w:Nat)(i:Nat):MV:=match j[i]? with
 |we=>.non
 |wc (.take f _)=>.tup [.str "take",.str f]
 |wc (.give f T)=>.tup [.str "give",.str f,.int (T.val l w)]
 |wc _=>.tup [.str "own"]
abbrev Vu:SpM:=λm M Q=>∃(x:MV) (u:Addr) (j:List Stp) (i w:Nat) (l:List (Key×MV)) (y:Str->Int) (z:List Str),m=[.int w,x,.int i,.ref u]/\Cc M x (j.map Stp.mv)/\(∀s∈j,s.ok z j.length)/\i<=j.length/\1<=w/\w<=64/\M u=wc (.dic l)/\readsOk z l y w/\
 Q (dueM j y w i) M
def _dB:MonW Vu:=by walk_at "m"
def OP(T:Txt K mg t):FO P w K mg base 50 "wish" Vu:=by
 erw[T.aK.ok T.g _dB 4 ["width","steps","number","words","step"] (fC T (fc (Ce T 40) f0)) JO (fun O M Q h=>?_) (fun O M Q h=>?_)]
 .have⟨_,_,_,_,_,_,_,_,rfl,_⟩:=h;rfl
 have⟨x,m,u,i,w,g,z,B,rfl,W,d,C,r,p,e,Y,q⟩:=h;show wSs _ _ _ [wc (.int w),wc x,wc (.int i),wc (.ref m),we] M;delta JO;have len:∀R:Prop,R->R:=λ_ h=>h;have rest:∀l:i<u.length,wSs [("worth",Cd 40)] Ea {nx:=fun x Z=>Q MV.non Z,rt:=Q} [wc (.int w),wc x,wc (.int i),wc (.ref m),wc u[i].mv] M:=by
  intro l;have ok:=d u[i] (XS _);have A:dueM u z w i=dueM [u[i]] z w 0:=by unfold dueM;rw[X6 l];rfl
  rw[A]at q;obtain⟨s,L⟩:∃s,u[i]=s:=⟨_,rfl⟩;rw[L]at ok q;rw[L];delta Ea;cases s with
  |take f x=>
   simp only[Stp.mv];simp!;delta JN;simp!;erw[q]
  |give f U=>
   simp only[Stp.mv];simp!;delta C7;simp!;delta JM;simp!;erw[ex5 U w m g z ⟨rfl,Xv ok.1 (by decide),r,p,e,Y.tm ok,q⟩]
  |put x U=>
   simp only[Stp.mv];simp!;delta C7;simp!;delta E9;simp!;erw[q]
  |jump U j=>
   simp only[Stp.mv];simp!;delta C7;simp!;delta E9;simp!;erw[q]
 have N:¬i<u.length->dueM u z w i=.non:=λc=>by unfold dueM;rw[CO.mpr (by lia)]
 rcases W with rfl|⟨D,rfl,y⟩
 .simp!;rw[X5];erw[XU (λc=>?_) (λc=>?_)]
  .delta Ec;simp!;rw[<-N (by lia)]
   erw[q]
  have l:i<u.length:=by lia
  delta Eb;simp!;erw[⟨_,Yl (by rw[Xe,X6 l];rfl),rest l⟩]
 .simp![y]
  rw[X5];erw[XU (λc=>?_) (λc=>?_)]
  .delta Ec;simp!;rw[<-N (by lia)]
   erw[q]
  have l:i<u.length:=by lia
  delta Eb
  simp![y]
  erw[⟨_,Yl (by rw[Xe,X6 l];rfl),rest l⟩]
noncomputable def XV(s:Stp)(l:Str->Int)(w i:Nat):Int:=match s with
 |.jump T j=>if T.val l w≠0 then j else(i:Int)+1
 |_=>(i:Int)+1
def YG(s:Stp)(j:List (Key×MV))(l:Str->Int)(w:Nat)(u:MV):List (Key×MV):=match s with
 |.take _ x=>putM j (Xn x) u
 |.put x T=>putM j (Xn x) (.int (T.val l w))
 |_=>j
abbrev OQ:SpM:=λm M Q=>∃(x:MV) (u:Addr) (l:List Stp) (i w:Nat) (j:List (Key×MV)) (y:Str->Int) (z:List Str) (s:Stp),m=[.int w,x,.int i,.ref u]/\Cc M x (l.map Stp.mv)/\l[i]?=wc s/\s.ok z l.length/\1<=w/\w<=64/\M u=wc (.dic j)/\readsOk z j y w/\
 Q (.int (XV s y w i)) M
def _5T:MonW OQ:=by walk_at "m"
def OR{M:MH}{x:MV}{l:List Stp}{i:Nat}{s:Stp}{Q:QM}(u:Cc M x (l.map Stp.mv))(y:l[i]?=wc s)(q:Q s.mv M):wIx x (.int i) M Q:=by
 have j:atI (l.map Stp.mv) (i:Int)=wc s.mv:=Yl (by rw[Xe,y];rfl)
 rcases u with rfl|⟨a,rfl,h⟩
 .rw[Ja];erw[⟨_,j,q⟩]
 .rw[J8,h,J9];erw[⟨_,j,q⟩]
def _98(T:Txt K mg t):FO P w K mg base 50 "number_after" OQ:=by
 erw[T.bz.ok T.g _5T 4 ["width","steps","number","words","step"] (fC T (fc (Ce T 40) f0)) JR (fun d M Q h=>?_) (fun d M Q h=>?_)]
 .have⟨_,_,_,_,_,_,_,_,_,rfl,_⟩:=h;rfl
 have⟨x,g,N,i,w,l,u,O,s,rfl,r,p,ok,y,z,m,L,q⟩:=h;show wSs _ _ _ [wc (.int w),wc x,wc (.int i),wc (.ref g),we] M;delta JR;simp!;erw[OR r p ?_];delta JQ;cases s with
 |take f x=>
  simp only[Stp.mv];simp!;delta Aj;simp!;erw[q]
 |give f U=>
  simp only[Stp.mv];simp!;delta Aj;simp!;erw[q]
 |put x U=>
  simp only[Stp.mv];simp!;delta Aj;simp!;erw[q]
 |jump U j=>
  simp only[Stp.mv];simp!;erw[ex5 U w g l u ⟨rfl,Xv ok.1.1 (by decide),y,z,m,L.tm ok.1,?_⟩]
  simp!;erw[XU (λc=>?_) (λc=>?_)]
  .have e:XV (.jump U j) u w i=j:=if_pos c;rw[e]at q;delta JP;simp!;erw[q]
  .have e:XV (.jump U j) u w i=(i:Int)+1:=if_neg c;rw[e]at q;delta Aj;simp!;erw[q]
abbrev OS:SpM:=λm M Q=>∃(l:Addr) (w:Nat) (j:List (Key×MV)) (u:Str->Int) (y:List Str) (s:Stp) (k:Nat) (z:MV),m=[.int w,s.mv,.ref l,z]/\s.ok y k/\1<=w/\w<=64/\M l=wc (.dic j)/\j.length<=1000/\readsOk y j u w/\
 ∀p,M p=we->Q (.ref p) (updM M p (.dic (YG s j u w z)))
def _6h:MonW OS:=by walk_at "m"
def _aa(T:Txt K mg t):FO P w K mg base 50 "words_after" OS:=by
 erw[T.bN.ok T.g _6h 4 ["width","step","words","word","behind"] (fC T (fc (Ce T 40) f0)) JV (fun c M Q h=>?_) (fun c M Q h=>?_)]
 .have⟨_,_,_,_,_,_,_,_,rfl,_⟩:=h;rfl
 have⟨g,w,l,r,R,s,k,e,rfl,ok,z,m,u,L,N,q⟩:=h;show wSs _ _ _ [wc (.int w),wc s.mv,wc (.ref g),wc e,we] M;delta JV
 simp![u]
 intro p d;have y:=SameM.new d (.dic l) _ _ u;have O:updM M p (.dic l) p=wc (.dic l):=Xb;have q:=q p d;delta JU;cases s with
 |take f x=>
  simp only[Stp.mv];simp!;delta JT;simp!;erw[⟨by lia,?_⟩]
  rw[YN];delta Al;simp!;delta Ak;simp!;erw[q]
 |give f U=>
  simp only[Stp.mv];simp!;delta Al;simp!;delta Ak;simp!;erw[q]
 |put x U=>
  simp only[Stp.mv];simp!;delta Al;simp!;delta JS;simp!;erw[ex5 U w g l r ⟨rfl,Xv ok.2.1 (by decide),z,m,y,N.tm ok.2,?_⟩]
  simp!;erw[⟨by lia,?_⟩]
  rw[YN];delta Ak;simp!;erw[q]
 |jump U j=>
  simp only[Stp.mv];simp!;delta Al;simp!;delta Ak;simp!;erw[q]
abbrev EH:SpM:=λg M Q=>∃(x:MV) (y:Addr) (l:List Stp) (i w:Nat) (j:List (Key×MV)) (u:Str->Int) (z:List Str) (s:Stp) (m:MV),g=[.int w,x,.int i,.ref y,m]/\Cc M x (l.map Stp.mv)/\l[i]?=wc s/\s.ok z l.length/\1<=w/\w<=64/\M y=wc (.dic j)/\j.length<=1000/\readsOk z j u w/\
 ∀p,M p=we->Q (.tup [.int (XV s u w i),.ref p]) (updM M p (.dic (YG s j u w m)))
def _cI:MonW EH:=by walk_at "m"
def OT(T:Txt K mg t):FO P w K mg base 51 "after" EH:=by
 erw[T.ca.ok T.g _cI 5 ["width","steps","number","words","word"] (fC T (fc (_98 T) (fc (_aa T) f0))) JW (fun L M Q h=>?_) (fun L M Q h=>?_)]
 .have⟨_,_,_,_,_,_,_,_,_,_,rfl,_⟩:=h;rfl
 have⟨x,z,N,i,w,j,g,d,s,c,rfl,f,r,ok,l,u,y,m,e,q⟩:=h;show wSs _ _ _ [wc (.int w),wc x,wc (.int i),wc (.ref z),wc c] M;delta JW;simp!;erw[ex9 x z N i w j g d s ⟨rfl,f,r,ok,l,u,y,e,?_⟩];erw[OR f r ?_];erw[ex8 z w j g d s _ c ⟨rfl,ok,l,u,y,m,e,λp O=>?_⟩];erw[q p O]
def szs(j:List Tm):Nat:=(j.map Tm.size).sum
def OU(a b:List Tm):szs (a++b)=szs a+szs b:=by unfold szs;rw[XY,List.sum_append]
def _kO(a:Tm):szs [a]=a.size:=by simp[szs]
theorem OV{T:Tm}:∀{j:List Tm},T∈j->T.size<=szs j
 |U::j,h=>by
  have e:szs (U::j)=U.size+szs j:=by simp[szs]
  rcases Xj.mp h with z|z
  .subst z;lia
  .have:=OV z;lia
noncomputable def Tm.kids:Tm->List Tm
 |.num _=>[]
 |.var _=>[]
 |.two _ a b=>[a,b]
 |.pick c a b=>[c,a,b]
def Tm.size_kids:∀T:Tm,T.size=1+szs T.kids
 |.num _=>rfl
 |.var _=>rfl
 |.two _ a b=>by simp[Tm.size,Tm.kids,szs]
 |.pick c a b=>by simp[Tm.size,Tm.kids,szs]
noncomputable def mxd(j:List Tm):Nat:=j.foldl (λa T=>max a T.depth) 0
def _lL(j:List Tm)(T:Tm):mxd (j++[T])=max (mxd j) T.depth:=by unfold mxd;rw[AS];rfl
def Tm.depth_kids:∀T:Tm,T.depth=mxd T.kids+1
 |.num _=>rfl
 |.var _=>rfl
 |.two _ a b=>by simp[Tm.depth,Tm.kids,mxd];lia
 |.pick c a b=>by simp[Tm.depth,Tm.kids,mxd];lia
def Tm.kid_depth{T U:Tm}(h:U∈T.kids):U.depth<T.depth:=by
 cases T<;>simp[Tm.kids]at h
 .rcases h with rfl|rfl<;>(simp only[Tm.depth];lia)
 .rcases h with rfl|rfl|rfl<;>(simp only[Tm.depth];lia)
def Tm.kid_size{T U:Tm}(h:U∈T.kids):U.size<T.size:=by
 rw[T.size_kids];have:=OV h;lia
def rds(j:List Tm):List Str:=(j.map Tm.reads).flatten
def _kY(j:List Tm)(T:Tm):rds (j++[T])=rds j++T.reads:=by simp[rds]
def Tm.reads_kids:∀T:Tm,(∀x,T≠.var x)->T.reads=rds T.kids
 |.num _,_=>rfl
 |.var x,h=>absurd rfl (h x)
 |.two _ a b,_=>by simp[Tm.reads,Tm.kids,rds]
 |.pick c a b,_=>by simp[Tm.reads,Tm.kids,rds]
theorem Tm.reads_len:∀T:Tm,T.reads.length<=T.size
 |.num _=>by simp[Tm.reads]
 |.var _=>by simp[Tm.reads,Tm.size]
 |.two _ a b=>by
  have:=a.reads_len;have:=b.reads_len;simp[Tm.reads,Tm.size];lia
 |.pick c a b=>by
  have:=a.reads_len;have:=b.reads_len;have:=c.reads_len;simp[Tm.reads,Tm.size];lia
theorem OW:∀j:List Tm,(rds j).length<=szs j
 |[]=>X9 _
 |T::j=>by
  have:=OW j;have:=T.reads_len;have e:szs (T::j)=T.size+szs j:=by simp[szs]
  have l:rds (T::j)=T.reads++rds j:=by simp[rds]
  rw[e,l,Ya];lia
def _iy(j:List Tm)(i:Nat):szs (j.take i)<=szs j:=by
 have l:=OU (j.take i) (j.drop i);rw[List.take_append_drop]at l;lia
def OX(x:MV)(j:List MV):cutM (x::j) (wc 1) we=j:=by
 have:=_fH (x::j) 1
 simpa using this
abbrev EI:SpM:=λj M Q=>∃T:Tm,j=[T.mv]/\∀p,M p=we->Q (.ref p) (updM M p (.lst (T.kids.map Tm.mv)))
def _5S:MonW EI:=by walk_at "m"
def OY(T:Txt K mg t):FO P w K mg base 1 "parts_within" EI:=by
 erw[T.bK.ok T.g _5S 1 ["T"] (fC T f0) Jq (fun j M Q h=>?_) (fun j M Q h=>?_)]
 .have⟨T,rfl,_⟩:=h;rfl
 have⟨U,rfl,q⟩:=h;show wSs _ _ _ [wc U.mv] M;delta Jq;cases U with
 |num m=>
  simp only[Tm.mv];simp!;delta E1;simp!;erw[q]
 |var x=>
  simp only[Tm.mv];simp!;delta E1;simp!;erw[q]
 |two f a b=>
  simp only[Tm.mv];simp!;rw[if_neg (OL f),if_neg (EG f),DZ];simp!;rw[OX];erw[q]
 |pick c a b=>
  simp only[Tm.mv];simp!;delta DZ;simp!;rw[OX];erw[q]
abbrev EJ(n:Nat):SpM:=λl M Q=>∃T:Tm,l=[T.mv]/\T.depth<=n/\∀j,SameM M j->Q (.tup [.int (T.size:Nat),.int (T.depth:Nat)]) j
def _aj(n:Nat):MonW (EJ n):=by walk_at "m"
theorem OZ(T:Txt K mg t):∀n:Nat,FO P w K mg base (n+8) "size_of" (EJ n)
 |0=>by
  have L:∀z M Q,¬EJ 0 z M Q:=λz M Q h=>by
   have⟨T,_,A,_⟩:=h;have:=T.depth_pos;lia
  erw[T.aw.nn T.g ["T"] L]
 |n+1=>by
  have N:=OZ T n;erw[T.aw.ok T.g (_aj _) 1 ["T","parts","deepest","part","size"] (fC T (fc (OY T) (fc N f0 (X9 _)) (by lia))) E2 (fun z M Q h=>?_) (fun z M Q h=>?_) (hc:=_fJ)]
  .have⟨T,rfl,_⟩:=h;rfl
  have⟨U,rfl,B,q⟩:=h;show wSs _ _ _ [wc U.mv,we,we,we,we] M;delta E2;simp!;delta Jw;simp!;delta Jv;simp!;erw[⟨U,rfl,λm g=>?_⟩];have O:=SameM.new g (.lst (U.kids.map Tm.mv));have f:updM M m (.lst (U.kids.map Tm.mv)) m=wc (.lst (U.kids.map Tm.mv)):=Xb;generalize updM M m (.lst (U.kids.map Tm.mv))=M1 at*
  simp![f]
  obtain⟨J,j⟩:∃J:Nat->Sm->MH->Prop,∀i l M2,J i l M2↔∃(d c:Option MV),SameM M1 M2/\l=[wc U.mv,wc (.int ((1+szs (U.kids.take i):Nat):Int)),wc (.int ((mxd (U.kids.take i):Nat):Int)),d,c]:=⟨_,λ_ _ _=>Yd⟩;erw[⟨J,(j _ _ _).2 ⟨_,_,SameM.refl _,rfl⟩,λi l M2 u=>?_,λi x l M2 R u=>?_,λl M2 u=>?_⟩]
  .have⟨_,_,y,_⟩:=(j _ _ _).1 u;erw[y _ _ f]
  .have⟨d,c,y,rfl⟩:=(j _ _ _).1 u;have⟨r,rfl⟩:=YO R;have C:=U.kid_depth (XS r);delta Ju;simp!;erw[⟨U.kids[i],rfl,by lia,λD W=>?_⟩]
   delta Jt;simp!;delta Js;simp!;have p:U.kids.take (i+1)=U.kids.take i++[U.kids[i]]:=by rw[Zp,X6 r];rfl
   have Y:((1+szs (U.kids.take i):Nat):Int)+(U.kids[i].size:Nat)=((1+szs (U.kids.take (i+1)):Nat):Int):=by rw[p,OU,_kO];lia
   have Z:(if((U.kids[i].depth:Nat):Int)>(mxd (U.kids.take i):Nat)then((U.kids[i].depth:Nat):Int)else(mxd (U.kids.take i):Nat))=((mxd (U.kids.take (i+1)):Nat):Int):=by
    rw[p,_lL];split<;>lia
   rw[Y,Z];erw[(j _ _ _).2 ⟨_,_,y.trans W,rfl⟩]
  .have⟨d,c,y,rfl⟩:=(j _ _ _).1 u;have e:U.kids.take (Src.lst m (U.kids.map Tm.mv)).len=U.kids:=by simp[Src.len]
   rw[e];delta Jr;simp!;have:=q M2 (O.trans y);rw[U.size_kids,U.depth_kids]at this;erw[this]
abbrev Cf(n:Nat):SpM:=λl M Q=>∃T:Tm,l=[T.mv]/\T.depth<=n/\T.size<=4000/\∀p j,SameM M j->M p=we->j p=wc (.lst (T.reads.map MV.str))->Q (.ref p) j
def _72(n:Nat):MonW (Cf n):=by walk_at "m"
theorem P0(T:Txt K mg t):∀n:Nat,FO P w K mg base (n+8) "names_read" (Cf n)
 |0=>by
  have I:∀L M Q,¬Cf 0 L M Q:=λL M Q h=>by
   have⟨T,_,N,_⟩:=h;have:=T.depth_pos;lia
  erw[T.ak.nn T.g ["T"] I]
 |n+1=>by
  have S:=P0 T n;erw[T.ak.ok T.g (_72 _) 1 ["T","names","part"] (fC T (fc S (fc (OY T) f0 (by lia)) (X9 _))) E4 (fun L M Q h=>?_) (fun L M Q h=>?_) (hc:=_c5)]
  .have⟨T,rfl,_⟩:=h;rfl
  have⟨U,rfl,hn,hz,q⟩:=h;show wSs _ _ _ [wc U.mv,we,we] M;have rest:(∀x,U≠.var x)->wSs [("names_read",Cf n),("parts_within",EI)] E3 {nx:=fun x X=>Q MV.non X,rt:=Q} [wc U.mv,we,we] M:=by
   intro H;delta E3;simp!;intro l u;have D:=SameM.new u (.lst []);have N:updM M l (.lst []) l=wc (.lst ([]:List MV)):=Xb;generalize updM M l (.lst [])=M0 at*;delta Jz;simp!;erw[⟨U,rfl,λy j=>?_⟩];have E:=SameM.new j (.lst (U.kids.map Tm.mv));have F:updM M0 y (.lst (U.kids.map Tm.mv)) y=wc (.lst (U.kids.map Tm.mv)):=Xb;have R:=E _ _ N;have v:=D.trans E;have nk:M y=we:=D.free j;generalize updM M0 y (.lst (U.kids.map Tm.mv))=M1 at*
   simp![F]
   have o:l≠y:=by
    intro e;rw[e]at N;rw[N]at j;cases j
   obtain⟨J,z⟩:∃J:Nat->Sm->MH->Prop,∀i g M2,J i g M2↔∃(W:Option MV),SameM M M2/\M2 y=wc (.lst (U.kids.map Tm.mv))/\M2 l=wc (.lst ((rds (U.kids.take i)).map MV.str))/\g=[wc U.mv,wc (.ref l),W]:=⟨_,λ_ _ _=>Yd⟩;erw[⟨J,(z _ _ _).2 ⟨_,v,F,R,rfl⟩,λi g M2 d=>?_,λi x g M2 s d=>?_,λg M2 d=>?_⟩]
   .have⟨_,_,O,_⟩:=(z _ _ _).1 d;erw[O]
   .have⟨W,Y,O,r,rfl⟩:=(z _ _ _).1 d;have⟨Z,rfl⟩:=YO s;have hk:=U.kid_depth (XS Z);have hk2:=U.kid_size (XS Z);delta Jy;simp!;simp only[r];simp!;erw[⟨⟨_,rfl⟩,?_⟩];erw[⟨U.kids[i],rfl,by lia,by lia,λp3 M3 A n3 g3=>?_⟩]
    have B:=A _ _ O;have C:=A _ _ r;simp!;have l1:=OW (U.kids.take i);have l2:=_iy U.kids i;have l3:=U.size_kids;have l4:=U.kids[i].reads_len;erw[⟨_,C,_,g3,by simp only[X5];lia,(z _ _ _).2 ⟨_,(Y.trans A).upd u _,by rw[X7 o.symm];erw[B],?_,rfl⟩⟩]
    rw[Xb,Zp,X6 Z,Option.toList_some,_kY,XY]
   .have⟨W,Y,O,r,rfl⟩:=(z _ _ _).1 d;have e:U.kids.take (Src.lst y (U.kids.map Tm.mv)).len=U.kids:=by simp[Src.len]
    rw[e,<-U.reads_kids H]at r;delta Jx;simp!;erw[q l M2 Y u r]
  delta E4;cases U with
  |num m=>
   simp only[Tm.mv];simp!;erw[rest (λ_ e=>by cases e)]
  |var x=>
   simp only[Tm.mv];simp!;delta JA;simp!;erw[λp G=>q p _ (SameM.new G _) G Xb]
  |two f a b=>
   simp only[Tm.mv];simp!;rw[if_neg (EG f)];erw[rest (λ_ e=>by cases e)]
  |pick c a b=>
   simp only[Tm.mv];simp!;erw[rest (λ_ e=>by cases e)]
abbrev P1:SpM:=λu M Q=>∃(T:Tm) (N:List Str),u=[T.mv]/\T.depth<=40/\T.size<=4000/\(∀x∈T.reads,x∈N)/\N.length<64/\
 ∀p l (j:List Str),SameM M l->M p=we->l p=wc (.lst (j.map MV.str))->j.Nodup->(∀y,y∈j↔y∈T.reads)->PyProof.Rows.sortedS j=wf->Q (.ref p) l
def _ai:MonW P1:=by walk_at "m"
def _fi(T:Txt K mg t):FO P w K mg base 50 "vars_in" P1:=by
 erw[T.be.ok T.g _ai 1 ["T"] (fC T (fc (P0 T 40) f0)) JB (fun u M Q h=>?_) (fun u M Q h=>?_)]
 .have⟨T,N,rfl,_⟩:=h;rfl
 have⟨U,N,rfl,y,z,m,g,q⟩:=h;show wSs _ _ _ [wc U.mv] M;delta JB;simp!;erw[⟨U,rfl,y,z,λd M1 j O c=>?_⟩];have R:scanBound=4096:=rfl;have:=U.reads_len;erw[⟨d,U.reads,N,rfl,c,by lia,m,g,λp f l r e L=>q p _ f (j.trans (SameM.new l _)) (j.free l) Xb r e L⟩]
noncomputable abbrev Zn5:SpM:=λ_ _ _=>False
noncomputable def Zu(z:Str):Prop:=1<=z.length/\z.length<=8/\∀c∈z.cps.toList,97<=c/\c<=122
def P2{a b:Nat}:([a]:List Nat)<[b]↔a<b:=by
 rw[List.cons_lt_cons_iff];constructor
 .rintro(h|⟨_,h⟩)
  .erw[h]
  .erw[absurd h (by simp)]
 .erw[.inl]
def _qI:(("a":Str)).cps.toList=[97]:=by decide+kernel
def _qH:(("z":Str)).cps.toList=[122]:=by decide+kernel
def le_a{c:Nat}(h:97<=c):(!decide ((⟨#[c]⟩:Str).cps.toList<(("a":Str)).cps.toList))=wf:=by
 rw[_qI];have:¬((⟨#[c]⟩:Str).cps.toList<[97]):=λz=>by
  have z:([c]:List Nat)<[97]:=z;rw[P2]at z;lia
 simpa using this
def le_z{c:Nat}(h:c<=122):(!decide ((("z":Str)).cps.toList<(⟨#[c]⟩:Str).cps.toList))=wf:=by
 rw[_qH];have:¬([122]<(⟨#[c]⟩:Str).cps.toList):=λz=>by
  have z:([122]:List Nat)<[c]:=z;rw[P2]at z;lia
 simpa using this
abbrev P3:SpM:=λl M Q=>∃z:Str,l=[.str z]/\Zu z/\∀j,SameM M j->Q (.bl wf) j
def _al:MonW P3:=by walk_at "m"
def _fj(T:Txt K mg t):FO P w K mg base 1 "is_name" P3:=by
 erw[T.aP.ok T.g _al 1 ["text"] (fC T f0) JX (fun l M Q h=>?_) (fun l M Q h=>?_)]
 .have⟨z,rfl,_⟩:=h;rfl
 have⟨z,rfl,⟨r,p,u⟩,q⟩:=h;show wSs _ _ _ [wc (.str z)] M;delta JX;simp!;erw[⟨by lia,?_⟩]
 rw[if_pos (by lia:(1:Int)<=(z.length:Int))]
 rw[if_pos (by lia:(z.length:Int)<=8)]
 erw[_O z.cps.toList (λc=>.str ⟨#[c]⟩) (λ_=>.bl wf) ?_ ?_ (λj f L h=>by simp at h) λD y=>?_]
 .simp!;have:z.cps.toList.length=z.length:=Yg;erw[⟨rfl,by lia,trivial⟩]
 .intro c m N s;have⟨g,d⟩:=u c m;simp only[sCm,Xt,Yb,YK,Yr,Yz,Yk];simp!;rw[if_pos (by simpa using le_a g)]
  simpa using le_z d
 simp!;erw[⟨z.cps.toList.map λ_=>wf,by rw[XZ];rfl,?_⟩]
 have e:((z.cps.toList.map λ_=>wf).all id)=wf:=by simp
 rw[e];erw[q _ (SameM.new y _)]
def Cg{z:Str}{j:List Str}:inV (toV (.str z)) ((j.map MV.str).map toV)=decide (z∈j):=by
 unfold inV
 induction j with
 |nil=>simp
 |cons a r l=>
  rw[Xt,Xt,ZW,l];have e:eqV (toV (.str a)) (toV (.str z))=decide (a=z):=by
   show(a==z)=decide (a=z);by_cases h:a=z
   .subst h;simp
   .simp[h]
  rw[e];by_cases h:a=z
  .simp[h]
  .have u:¬z=a:=λw=>h w.symm;simp[h,u]
def EK(j:List Str):(j.map MV.str).all Yh=wf:=by
 rw[AV];intro v l;have⟨x,_,rfl⟩:=XA.mp l
 rfl
abbrev P4:SpM:=λu M Q=>∃(z:Str) (e:Addr) (j:List Str),u=[.str z,.ref e]/\M e=wc (.lst (j.map MV.str))/\Zu z/\z∉j/\∀l,SameM M l->Q .non l
def _6j:MonW P4:=by walk_at "m"
def EL(T:Txt K mg t):FO P w K mg base 2 "refuse_name" P4:=by
 erw[T.cq.ok T.g _6j 2 ["text","earlier"] (fC T (fc (_fj T) f0)) JZ (fun u M Q h=>?_) (fun u M Q h=>?_)]
 .have⟨z,a,j,rfl,_⟩:=h;rfl
 have⟨z,a,j,rfl,y,m,g,q⟩:=h;show wSs _ _ _ [wc (.str z),wc (.ref a)] M;delta JZ;simp!;erw[⟨z,rfl,m,λM1 l=>?_⟩];simp!;delta JY;simp!;erw[.inl ⟨_,l _ _ y,rfl,EK j,?_⟩];rw[Cg,decide_eq_false g];simp!;erw[q M1 l]
noncomputable def Leaf(v:MV):Prop:=(∃i,v=.int i)\/∃z,v=.str z
def FroD:Nat->MH->MV->MV->Prop
 |0,_,v,v'=>Leaf v/\v'=v
 |n+1,M,v,v'=>(Leaf v/\v'=v)\/∃j:List (MV×MV),(v=.tup (j.map (·.1))\/∃a,v=.ref a/\M a=wc (.lst (j.map (·.1))))/\v'=.tup (j.map (·.2))/\j.length<=1000/\∀p∈j,FroD n M p.1 p.2
theorem FroD.keep{M M':MH}(s:SameM M M'):∀{n:Nat} {v l:MV},FroD n M v l->FroD n M' v l
 |0,_,_,h=>h
 |n+1,v,l,h=>by
  rcases h with h|⟨u,j,y,z,m⟩
  .erw[.inl h]
  .erw[.inr ⟨u,?_,y,z,λp g=>(m p g).keep s⟩];rcases j with j|⟨a,e,j⟩
   .erw[.inl j]
   .erw[.inr ⟨a,e,s _ _ j⟩]
abbrev UX(n:Nat):SpM:=λu M Q=>∃v j,u=[v]/\FroD n M v j/\∀l,SameM M l->Q j l
def Ch(n:Nat):MonW (UX n):=by walk_at "m"
def _dT{n:Nat}(m:∀(j:Nat)f g,([("frozen",UX n)]:List (Str×SpM))[j]?=wc (f,g)->MonW g){d:List MV} {M:MH} {Q:QM} (h:UX (n+1) d M Q):wSs [("frozen",UX n)] Wk {nx:=fun _ u=>Q .non u,rt:=Q} (UU 1 d) M:=by
 have⟨v,T,rfl,r,q⟩:=h;show wSs _ _ _ [wc v] M;delta Wk;rcases r with⟨l,rfl⟩|⟨e,c,rfl,U,L⟩
 .rcases l with⟨i,rfl⟩|⟨z,rfl⟩
  .simp!;simp only[decide_false,Bk,Z4,if_false,reduceCtorEq,ne_eq,not_false_eq_true,true_and];delta Wj;simp!;erw[q M (SameM.refl _)]
  .simp!;simp only[decide_false,Bk,Z4,if_false,reduceCtorEq,ne_eq,not_false_eq_true,true_and];delta Wj;simp!;erw[q M (SameM.refl _)]
 .have go:wSs [("frozen",UX n)] Ee {nx:=fun N M=>wSs [("frozen",UX n)] Wj {nx:=fun _ u=>Q .non u,rt:=Q} N M,rt:=Q} [wc v] M:=by
   delta Ee;simp!;erw[Jb e (·.1) (·.2) ?_ ?_ m λD u W s hd=>?_]
   .rcases c with rfl|⟨a,rfl,y⟩
    .simp!;erw[⟨rfl,by lia,trivial,λ_ _ h=>h⟩]
    .simp![y]
     erw[⟨rfl,by lia,y,λ_ _ h=>h⟩]
   .intro p O u s;simp only[sCm,Xt,Yb,YK,Yr,Yz,Yk];simp!;erw[⟨p.1,p.2,rfl,(L p O).keep s,λM2 R=>⟨rfl,R⟩⟩]
   simp![hd]
   erw[q u s]
  rcases c with rfl|⟨a,rfl,y⟩
  .simp!;simp only[decide_true,Bool.or_true,Bool.true_or,if_true,reduceCtorEq,ne_eq,not_false_eq_true,true_and];erw[go]
  .simp![y]
   simp only[decide_true,Bool.or_true,Bool.true_or,if_true,reduceCtorEq,ne_eq,not_false_eq_true,true_and];erw[go]
theorem P5(T:Txt K mg t):∀n:Nat,FO P w K mg base (n+8) "frozen" (UX n)
 |0=>by
  erw[T.aj.ok T.g (Ch _) 1 ["value"] (fC T (fc (T.aj.nn (k:=0) (sp:=Zn5) T.g ["value"] fun _ _ _ h=>h) f0)) Wk (fun j M Q h=>?_) (fun j M Q h=>?_)]
  .have⟨v,u,rfl,_⟩:=h;rfl
  have⟨v,u,rfl,⟨l,rfl⟩,q⟩:=h;show wSs _ _ _ [wc u] M;delta Wk;rcases l with⟨i,rfl⟩|⟨z,rfl⟩
  .simp!;simp only[decide_false,Bk,Z4,if_false,reduceCtorEq,ne_eq,not_false_eq_true,true_and];delta Wj;simp!;erw[q M (SameM.refl _)]
  .simp!;simp only[decide_false,Bk,Z4,if_false,reduceCtorEq,ne_eq,not_false_eq_true,true_and];delta Wj;simp!;erw[q M (SameM.refl _)]
 |n+1=>by
  have y:=P5 T n;erw[T.aj.ok T.g (Ch _) 1 ["value"] (fC T (fc y f0 (X9 _))) Wk (fun j M Q h=>?_) (fun j M Q h=>?_) (hc:=_hY)]
  .have⟨v,u,rfl,_⟩:=h;rfl
  erw[_dT (_6 (fMc (Ch n) nl0)) h]
structure Isl where
 name:Str
 prs:List (Str×Int)
 stps:List Stp
structure Fer where
 name:Str
 giver:Str
 taker:Str
 k:Nat
 st:Nat
structure Wld where
 w:Nat
 isl:List Isl
 fer:List Fer
noncomputable def prV(p:Str×Int):MV:=.tup [.str p.1,.int p.2]
noncomputable def Fer.mv(f:Fer):MV:=.tup [.str f.name,.str f.giver,.str f.taker,.int f.k,.int f.st]
def Isl.mv(I:Isl):MV:=.tup [.str I.name,.tup (I.prs.map prV),.tup (I.stps.map Stp.mv)]
def Wld.mv(W:Wld):MV:=.tup [.int W.w,.tup (W.isl.map Isl.mv),.tup (W.fer.map Fer.mv)]
noncomputable def Isl.vars(I:Isl):List Str:=I.prs.map (·.1)
noncomputable def Wld.fns(W:Wld):List Str:=W.fer.map (·.name)
noncomputable def Wld.ins(W:Wld):List Str:=W.isl.map (·.name)
noncomputable def TmIn(j:List Str)(T:Tm):Prop:=T.depth<=8/\T.size<=30/\∀x∈T.reads,x∈j
def Zj(fs:List Str)(j:List Str)(n:Nat):Stp->Prop
 |.take f x=>f∈fs/\x∈j
 |.give f T=>f∈fs/\TmIn j T
 |.put x T=>x∈j/\TmIn j T
 |.jump T i=>TmIn j T/\0<=i/\i<=(n:Int)
structure IslOk (w:Nat)(fs:List Str)(I:Isl):Prop where
 nv:I.prs.length<=6
 ns:I.stps.length<=12
 nd:I.vars.Nodup
 gd:∀x∈I.vars,Zu x
 wd:∀p∈I.prs,0<=p.2/\p.2<2^w
 st:∀s∈I.stps,Zj fs I.vars I.stps.length s
structure FerOk (is:List Str)(f:Fer):Prop where
 g:f.giver∈is
 t:f.taker∈is
 ne:f.giver≠f.taker
 k3:f.k<=3
 s1:1<=f.st
 s3:f.st<=3
noncomputable def U5(F:List Fer)(z:Str):Stp->Prop
 |.take f _=>∀x∈F,x.name=f->x.taker=z
 |.give f _=>∀x∈F,x.name=f->x.giver=z
 |_=>True
structure Wld.Good (W:Wld):Prop where
 w1:1<=W.w
 w2:W.w<=64
 i5:W.isl.length<=5
 f6:W.fer.length<=6
 fg:∀z∈W.fns,Zu z
 ig:∀z∈W.ins,Zu z
 nd:(W.fns++W.ins).Nodup
 io:∀I∈W.isl,IslOk W.w W.fns I
 fo:∀f∈W.fer,FerOk W.ins f
 en:∀I∈W.isl,∀s∈I.stps,U5 W.fer I.name s
def IslIn(M:MH)(I:Isl)(y:MV):Prop:=∃a b,y=.tup [.str I.name,.ref a,.ref b]/\M a=wc (.lst (I.prs.map prV))/\M b=wc (.lst (I.stps.map Stp.mv))
def IslIn.keep{M M':MH}(s:SameM M M'){I:Isl}{y:MV}(h:IslIn M I y):IslIn M' I y:=by
 have⟨a,b,e,j,l⟩:=h;erw[⟨a,b,e,s _ _ j,s _ _ l⟩]
def IslsIn(M:MH)(Is:List Isl)(j:List MV):Prop:=j.length=Is.length/\∀(i:Nat)(I:Isl)(y:MV),Is[i]?=wc I->j[i]?=wc y->IslIn M I y
theorem IslsIn.keep{M M':MH}(s:SameM M M'){Is:List Isl}{j:List MV}(h:IslsIn M Is j):IslsIn M' Is j:=⟨h.1,λi z y a b=>(h.2 i z y a b).keep s⟩
def IslsIn.mem{M:MH}{Is:List Isl}{l:List MV}(h:IslsIn M Is l){y:MV}(z:y∈l):∃I∈Is,IslIn M I y:=by
 have⟨i,u,rfl⟩:=Yn z;have j:i<Is.length:=by rw[<-h.1];erw[u]
 erw[⟨Is[i],XS j,h.2 i _ _ (X6 j) (X6 u)⟩]
def IslsIn.fst{M:MH}{Is:List Isl}{l:List MV}(h:IslsIn M Is l){f:MV->MV}(u:∀z r,f (.tup (.str z::r))=.str z):l.map f=(Is.map (·.name)).map MV.str:=by
 apply WB;intro i;rw[Xe,Xe,Xe];by_cases hi:i<l.length
 .have j:i<Is.length:=by rw[<-h.1];erw[hi]
  have⟨a,b,e,_⟩:=h.2 i _ _ (X6 j) (X6 hi);rw[X6 j,X6 hi,e];show wc (f _)=_;rw[u];rfl
 .have j:¬i<Is.length:=by rw[<-h.1];erw[hi]
  rw[ZC (by lia),ZC (by lia)];rfl
noncomputable abbrev P6:SpM:=λj M Q=>∃i:Int,j=[.int i]/\Q (.bl wf) M
def _9f:MonW P6:=by walk_at "m"
def P7(T:Txt K mg t):FO P w K mg base 1 "is_whole" P6:=by
 erw[T.bq.ok T.g _9f 1 ["value"] (fC T f0) Jg (fun j M Q h=>?_) (fun j M Q h=>?_)]
 .have⟨i,rfl,_⟩:=h;rfl
 have⟨i,rfl,q⟩:=h;show wSs _ _ _ [wc (.int i)] M;delta Jg;simp!
 simpa using q
noncomputable abbrev EM:SpM:=λj M Q=>∃i:Int,j=[.int i]/\1<=i/\i<=64/\Q (.bl wf) M
def P8:MonW EM:=by walk_at "m"
def _dv(T:Txt K mg t):FO P w K mg base 2 "is_width" EM:=by
 erw[T.cb.ok T.g P8 1 ["number"] (fC T (fc (P7 T) f0)) Jh (fun j M Q h=>?_) (fun j M Q h=>?_)]
 .have⟨i,rfl,_⟩:=h;rfl
 have⟨i,rfl,l,u,q⟩:=h;show wSs _ _ _ [wc (.int i)] M;delta Jh;simp!;erw[⟨i,rfl,?_⟩];simp!;rw[if_pos l,decide_eq_true u];erw[q]
noncomputable abbrev P9:SpM:=λj M Q=>∃(k:Nat) (i:Int),j=[.int k,.int i]/\k<=64/\0<=i/\i<2^k/\Q (.bl wf) M
def _dD:MonW P9:=by walk_at "m"
def _lD(T:Txt K mg t):FO P w K mg base 2 "fits" P9:=by
 erw[T.bM.ok T.g _dD 2 ["width","number"] (fC T (fc (P7 T) (fc (Aq T) f0))) Jn (fun j M Q h=>?_) (fun j M Q h=>?_)]
 .have⟨k,i,rfl,_⟩:=h;rfl
 have⟨k,i,rfl,l,u,y,q⟩:=h;show wSs _ _ _ [wc (.int k),wc (.int i)] M;delta Jn;simp!;erw[⟨i,rfl,?_⟩];simp!;rw[if_pos u];erw[⟨k,rfl,l,?_⟩];simp!;rw[decide_eq_true y];erw[q]
noncomputable abbrev Pa:SpM:=λl M Q=>∃(z:Str) (e:Addr) (j:List Str),l=[.str z,.ref e]/\M e=wc (.lst (j.map MV.str))/\z∈j/\Q .non M
def _44:MonW Pa:=by walk_at "m"
def EN(T:Txt K mg t):FO P w K mg base 1 "refuse_unknown" Pa:=by
 erw[T.ao.ok T.g _44 2 ["name","known"] (fC T f0) C8 (fun l M Q h=>?_) (fun l M Q h=>?_)]
 .have⟨z,a,j,rfl,_⟩:=h;rfl
 have⟨z,a,j,rfl,u,y,q⟩:=h;show wSs _ _ _ [wc (.str z),wc (.ref a)] M;delta C8;simp!;erw[.inl ⟨_,u,rfl,EK j,?_⟩];rw[Cg,decide_eq_true y];simp!;erw[q]
def EO{l:Type} [DecidableEq l] {u:List l}(m:u.Nodup){j:Nat}{z:l}(g:u[j]?=wc z):z∉u.take j:=λd=>by
 have⟨q,rfl⟩:=Xm.mp g;have⟨k,c,y⟩:=Yn d;have f:k<j:=by rw[Yf]at c;lia
 rw[List.getElem_take]at y;have:=(AT m).mp y;lia
def EQ{l y:Type}{f:l->y}{u:List l}{j:Nat}{z:l}(m:u[j]?=wc z):(u.take j).map f++[f z]=(u.take (j+1)).map f:=by
 rw[Zp,m,XY];rfl
abbrev ER:SpM:=λl M Q=>∃(f:Addr) (F:List Fer),l=[.ref f]/\M f=wc (.lst (F.map Fer.mv))/\F.length<=6/\(F.map (·.name)).Nodup/\(∀x∈F,Zu x.name)/\∀j,SameM M j->Q .non j
def Pb:MonW ER:=by walk_at "m"
def _3Z(T:Txt K mg t):FO P w K mg base 3 "refuse_ferry_names" ER:=by
 erw[T.aD.ok T.g Pb 1 ["ferries","earlier","ferry"] (fC T (fc (EL T) f0)) K4 (fun Y M Q h=>?_) (fun Y M Q h=>?_)]
 .have⟨f,F,rfl,_⟩:=h;rfl
 have⟨f,F,rfl,N,C,Z,A,q⟩:=h;show wSs _ _ _ [wc (.ref f),we,we] M;delta K4;simp!;intro p O;have R:=SameM.new O (.lst []);have d:=R _ _ N;have c:updM M p (.lst []) p=wc (.lst []):=Xb;have r:∀a o,M a=wc o->a≠p:=λa o h=>neM h O;generalize updM M p _=M1 at*;delta K3
 simp![d]
 obtain⟨J,u⟩:∃J:Nat->Sm->MH->Prop,∀j z l,J j z l↔SameM M l/\l p=wc (.lst (((F.map (·.name)).take j).map MV.str))/\∃v,z=[wc (.ref f),wc (.ref p),v]:=⟨_,λ_ _ _=>Yd⟩;erw[⟨J,(u _ _ _).mpr ⟨R,by simpa using c,_,rfl⟩,λj z l h=>((u _ _ _).mp h).1 _ _ N,?_,?_⟩]
 .rintro j y z l B h;have⟨e,m,v,rfl⟩:=(u _ _ _).mp h;have⟨g,rfl⟩:=YO B;have g:j<F.length:=g;have U:(F.map (·.name))[j]?=wc F[j].name:=by rw[Xe,X6 g];rfl
  delta K1
  simp![Fer.mv]
  erw[ex3 (F[j].name) p ((F.map (·.name)).take j) ⟨rfl,m,A _ (XS g),EO Z U,λD W=>?_⟩];have L:=W _ _ m;simp!;delta K0
  simp![Fer.mv,L,X5,Yf]
  erw[⟨⟨_,rfl⟩,by lia,(u _ _ _).mpr ⟨λa o h=>by rw[X7 (r a o h)];erw[W _ _ (e _ _ h)],?_,_,rfl⟩⟩]
  rw[Xb,EQ U]
 .rintro z l h;have⟨e,_⟩:=(u _ _ _).mp h;erw[q _ e]
abbrev ES:SpM:=λu M Q=>∃(k:Nat) (f:Addr) (j:List (Str×Int)),u=[.int k,.ref f]/\M f=wc (.lst (j.map prV))/\k<=64/\j.length<=6/\(j.map (·.1)).Nodup/\(∀x∈j,Zu x.1/\0<=x.2/\x.2<2^k)/\∀l,SameM M l->Q .non l
def Pc:MonW ES:=by walk_at "m"
def _5N(T:Txt K mg t):FO P w K mg base 3 "refuse_variables" ES:=by
 erw[T.bF.ok T.g Pc 2 ["width","pairs","earlier","pair","name"] (fC T (fc (_lD T) (fc (EL T) f0))) Kd (fun Z M Q h=>?_) (fun Z M Q h=>?_)]
 .have⟨k,f,F,rfl,_⟩:=h;rfl
 have⟨k,f,F,rfl,N,A,S,B,C,q⟩:=h;show wSs _ _ _ [wc (.int k),wc (.ref f),we,we,we] M;delta Kd;simp!;intro p O;have R:=SameM.new O (.lst []);have d:=R _ _ N;have c:updM M p (.lst []) p=wc (.lst []):=Xb;have r:∀a o,M a=wc o->a≠p:=λa o h=>neM h O;generalize updM M p _=M1 at*;delta Kc
 simp![d]
 obtain⟨J,u⟩:∃J:Nat->Sm->MH->Prop,∀j z l,J j z l↔SameM M l/\l p=wc (.lst (((F.map (·.1)).take j).map MV.str))/\∃v U,z=[wc (.int k),wc (.ref f),wc (.ref p),v,U]:=⟨_,λ_ _ _=>Yd⟩;erw[⟨J,(u _ _ _).mpr ⟨R,by simpa using c,_,_,rfl⟩,λj z l h=>((u _ _ _).mp h).1 _ _ N,?_,?_⟩]
 .rintro j y z l D h;have⟨e,m,v,U,rfl⟩:=(u _ _ _).mp h;have⟨g,rfl⟩:=YO D;have g:j<F.length:=g;have W:(F.map (·.1))[j]?=wc F[j].1:=by rw[Xe,X6 g];rfl
  have⟨E,G,I⟩:=C _ (XS g);delta Kb
  simp![prV]
  delta Ka;simp!;erw[ex3 (F[j].1) p ((F.map (·.1)).take j) ⟨rfl,m,E,EO B W,λX Y=>?_⟩];have L:=Y _ _ m;simp!;delta K9
  simp![L,X5,Yf]
  erw[⟨⟨_,rfl⟩,by lia,?_⟩]
  delta K6
  simp![prV]
  erw[⟨k,F[j].2,rfl,A,G,I,?_⟩];simp!;erw[(u _ _ _).mpr ⟨λa o h=>by rw[X7 (r a o h)];erw[Y _ _ (e _ _ h)],?_,_,_,rfl⟩]
  rw[Xb,EQ W]
 .rintro z l h;have⟨e,_⟩:=(u _ _ _).mp h;erw[q _ e]
abbrev Pd:SpM:=λu M Q=>∃(U:Tm) (e:Addr) (j:List Str),u=[U.mv,.ref e]/\M e=wc (.lst (j.map MV.str))/\j.length<=6/\TmIn j U/\∀l,SameM M l->Q .non l
def _6i:MonW Pd:=by walk_at "m"
def _ab(T:Txt K mg t):FO P w K mg base 51 "refuse_term" Pd:=by
 erw[T.aL.ok T.g _6i 2 ["T","known","size","name"] (fC T (fc (EN T) (fc (OZ T 8) (fc (_fi T) f0)))) Kh (fun e M Q h=>?_) (fun e M Q h=>?_)]
 .have⟨U,a,g,rfl,_⟩:=h;rfl
 have⟨U,a,g,rfl,L,Y,⟨hd,Z,d⟩,q⟩:=h;show wSs _ _ _ [wc U.mv,wc (.ref a),we,we] M;delta Kh;simp!;erw[⟨U,rfl,hd,λM1 c=>?_⟩];simp!;delta Kg;simp!;rw[if_neg (by lia:¬((U.size:Nat):Int)>30)]
 rw[if_neg (by lia:¬((U.depth:Nat):Int)>8)]
 delta Kf;simp!;erw[⟨U,g,rfl,by lia,by lia,d,by lia,λp M2 N f A l B O _=>?_⟩]
 simp![l]
 obtain⟨J,u⟩:∃J:Nat->Sm->MH->Prop,∀j z m,J j z m↔m=M2/\∃v r,z=[wc U.mv,wc (.ref a),v,r]:=⟨_,λ_ _ _=>Yd⟩;erw[⟨J,(u _ _ _).mpr ⟨rfl,_,_,rfl⟩,λj z m h=>by rw[((u _ _ _).mp h).1];erw[l],?_,?_⟩]
 .rintro j y z m R h;have⟨rfl,v,r,rfl⟩:=(u _ _ _).mp h;have⟨W,rfl⟩:=YO R;delta Ke;simp!;erw[ex3 (N[j]) a g ⟨rfl,f _ _ (c _ _ L),d _ ((O _).mp (XS W)),?_⟩];simp!;erw[(u _ _ _).mpr ⟨rfl,_,_,rfl⟩]
 .rintro z m h;have⟨rfl,_⟩:=(u _ _ _).mp h;erw[q _ (c.trans f)]
def ET{f x:Str}:(Stp.take f x).mv=.tup [.str "take",.str f,.str x]:=rfl
def EU{f:Str}{U:Tm}:(Stp.give f U).mv=.tup [.str "give",.str f,U.mv]:=rfl
def EV{f:Str}{U:Tm}:(Stp.put f U).mv=.tup [.str "put",.str f,U.mv]:=rfl
def EW{i:Int}{U:Tm}:(Stp.jump U i).mv=.tup [.str "jump",U.mv,.int i]:=rfl
abbrev EX:SpM:=λu M Q=>∃(S:Stp) (a b:Addr) (j fs:List Str) (n:Nat),u=[S.mv,.ref a,.int n,.ref b]/\M a=wc (.lst (j.map MV.str))/\M b=wc (.lst (fs.map MV.str))/\j.length<=6/\Zj fs j n S/\∀l,SameM M l->Q .non l
def Pe:MonW EX:=by walk_at "m"
def _ac(T:Txt K mg t):FO P w K mg base 52 "refuse_step" EX:=by
 erw[T.aI.ok T.g Pe 4 ["step","known","count","ferry_names"] (fC T (fc (_ab T) (fc (EN T) f0))) Ks (fun c M Q h=>?_) (fun c M Q h=>?_)]
 .have⟨S,a,b,u,fs,n,rfl,_⟩:=h;rfl
 have⟨S,a,b,u,fs,n,rfl,y,d,g,m,q⟩:=h;show wSs _ _ _ [wc S.mv,wc (.ref a),wc (.int n),wc (.ref b)] M;delta Ks;cases S with
 |take f x=>
  have⟨j,l⟩:=m
  simp![ET]
  delta Kj;simp!;erw[ex3 f b fs ⟨rfl,d,j,?_⟩];simp!;delta Ki;simp!;erw[ex3 x a u ⟨rfl,y,l,?_⟩];simp!;erw[q _ (SameM.refl _)]
 |give f U=>
  have⟨j,l⟩:=m
  simp![EU]
  delta C9;simp!;delta Kl;simp!;erw[ex3 f b fs ⟨rfl,d,j,?_⟩];simp!;delta Kk;simp!;erw[ex3 U a u ⟨rfl,y,g,l,λM1 z=>?_⟩];simp!;erw[q _ z]
 |put f U=>
  have⟨j,l⟩:=m
  simp![EV]
  delta C9;simp!;delta Ed;simp!;delta Ko;simp!;erw[ex3 f a u ⟨rfl,y,j,?_⟩];simp!;delta Km;simp!;erw[ex3 U a u ⟨rfl,y,g,l,λM1 z=>?_⟩];simp!;erw[q _ z]
 |jump U i=>
  have⟨j,l,r⟩:=m
  simp![EW]
  delta C9;simp!;delta Ed;simp!;delta Kr;simp!;erw[ex3 U a u ⟨rfl,y,g,j,λM1 z=>?_⟩];simp!;delta Kq;simp!;rw[if_pos l];rw[if_neg (by lia:¬¬i<=(n:Int))]
  erw[q _ z]
abbrev Pf:SpM:=λl M Q=>∃(k:Nat) (I:Isl) (y:MV) (b:Addr) (fs:List Str),l=[.int k,y,.ref b]/\k<=64/\IslIn M I y/\M b=wc (.lst (fs.map MV.str))/\IslOk k fs I/\∀j,SameM M j->Q .non j
def _4V:MonW Pf:=by walk_at "m"
def _8v(T:Txt K mg t):FO P w K mg base 53 "refuse_island" Pf:=by
 erw[T.bR.ok T.g _4V 3 ["width","island","ferry_names","known","step"] (fC T (fc (_ac T) (fc (_5N T) f0))) Ky (fun A M Q h=>?_) (fun A M Q h=>?_)]
 .have⟨k,I,y,b,fs,rfl,_⟩:=h;rfl
 have⟨k,I,y,f,fs,rfl,B,⟨a,b,rfl,r,U⟩,e,ok,q⟩:=h;show wSs _ _ _ [wc (.int k),wc (.tup [.str I.name,.ref a,.ref b]),wc (.ref f),we,we] M;have W:=ok.nv;have S:=ok.ns;delta Ky
 simp![r,X5]
 erw[XU (λz=>by lia) (λ_=>?_)]
 delta Kx
 simp![U,X5]
 erw[XU (λz=>by lia) (λ_=>?_)]
 delta Kw;simp!;erw[ex3 k a I.prs ⟨rfl,r,B,W,ok.nd,λx Y=>⟨ok.gd _ (XA.mpr ⟨x,Y,rfl⟩),ok.wd _ Y⟩,λM1 Z=>?_⟩];simp!;have g:=Z _ _ r;delta Kv;simp!;erw[_O I.prs prV (fun p=>.str p.1) ?_ ?_ (_6 (u:=[("refuse_step",EX),("refuse_variables",ES)]) (fMc Pe (fMc Pc nl0))) fun D C=>?_]
 .simp![g]
  erw[⟨rfl,by lia,g⟩]
 .intro p X u s;simp only[sCm,Xt,Yb,YK,Yr,Yz,Yk]
  simp![prV]
  try erw[⟨rfl,rfl⟩]
 have E:(I.prs.map λp=>MV.str p.1)=I.vars.map MV.str:=by unfold Isl.vars;rw[XZ];rfl
 rw[E];have L:=Z.trans (SameM.new C (.lst (I.vars.map MV.str)));have N:updM M1 D (.lst (I.vars.map MV.str)) D=wc (.lst (I.vars.map MV.str)):=Xb;generalize updM M1 D _=M2 at*;have l:=L _ _ U;delta Ku
 simp![l]
 obtain⟨J,d⟩:∃J:Nat->Sm->MH->Prop,∀j c u,J j c u↔SameM M2 u/\∃v,c=[wc (.int k),wc (.tup [.str I.name,.ref a,.ref b]),wc (.ref f),wc (.ref D),v]:=⟨_,λ_ _ _=>Yd⟩;erw[⟨J,(d _ _ _).mpr ⟨SameM.refl _,_,rfl⟩,λj c u h=>((d _ _ _).mp h).1 _ _ l,?_,?_⟩]
 .rintro j y c u F h;have⟨m,v,rfl⟩:=(d _ _ _).mp h;have⟨O,rfl⟩:=YO F;have O:j<I.stps.length:=O;have R:=m _ _ l;delta Kt
  simp![R,X5]
  erw[ex6 (I.stps[j]) D f I.vars fs I.stps.length ⟨rfl,m _ _ N,m _ _ (L _ _ e),by unfold Isl.vars;rw[X5];erw[W],ok.st _ (XS O),λH G=>?_⟩]
  simp!;erw[(d _ _ _).mpr ⟨m.trans G,_,rfl⟩]
 .rintro c u h;have⟨m,_⟩:=(d _ _ _).mp h;erw[q _ (L.trans m)]
abbrev EY:SpM:=λy M Q=>∃(k:Nat) (p b:Addr) (j:List Isl) (l:List MV) (fs:List Str),y=[.int k,.ref p,.ref b]/\k<=64/\M p=wc (.lst l)/\IslsIn M j l/\j.length<=5/\fs.length<=6/\M b=wc (.lst (fs.map MV.str))/\(fs++j.map (·.name)).Nodup/\(∀I∈j,Zu I.name)/\(∀I∈j,IslOk k fs I)/\∀u,SameM M u->Q .non u
def Pg:MonW EY:=by walk_at "m"
def _6W(T:Txt K mg t):FO P w K mg base 54 "refuse_islands" EY:=by
 erw[T.bA.ok T.g Pg 3 ["width","islands","ferry_names","earlier","island"] (fC T (fc (_8v T) (fc (EL T) f0))) KD (fun n M Q h=>?_) (fun n M Q h=>?_)]
 .have⟨k,p,b,l,E,fs,rfl,_⟩:=h;rfl
 have⟨k,p,f,l,E,fs,rfl,x,F,L,h5,hf6,G,N,hg,ok,q⟩:=h;show wSs _ _ _ [wc (.int k),wc (.ref p),wc (.ref f),we,we] M;delta KD
 simp![G]
 intro e I;have S:=SameM.new I (.lst (fs.map MV.str));have O:updM M e (.lst (fs.map MV.str)) e=wc (.lst (fs.map MV.str)):=Xb;have R:=S _ _ F;have U:∀a o,M a=wc o->a≠e:=λa o h=>neM h I;generalize updM M e _=M1 at*;delta KC
 simp![R]
 obtain⟨J,m⟩:∃J:Nat->Sm->MH->Prop,∀j g u,J j g u↔SameM M u/\u e=wc (.lst ((fs++(l.map (·.name)).take j).map MV.str))/\∃v,g=[wc (.int k),wc (.ref p),wc (.ref f),wc (.ref e),v]:=⟨_,λ_ _ _=>Yd⟩;erw[⟨J,(m _ _ _).mpr ⟨S,by simpa using O,_,rfl⟩,λj g u h=>((m _ _ _).mp h).1 _ _ F,?_,?_⟩]
 .rintro j y g u d h;have⟨r,c,v,rfl⟩:=(m _ _ _).mp h;have d:E[j]?=wc y:=d;have X:j<l.length:=by rw[<-L.1];erw[(Xm.mp d).1]
  have W:l[j]?=wc l[j]:=X6 X;have H:(l.map (·.name))[j]?=wc l[j].name:=by rw[Xe,W];rfl
  have Y:=XS X;have⟨a,b,rfl,_⟩:=(L.keep r).2 j l[j] y W d;have Z:l[j].name∉fs++(l.map (·.name)).take j:=by
   rw[YS]at N;intro z;rcases Yo.mp z with z|z
   .erw[N.2.2 _ z _ (XA.mpr ⟨_,Y,rfl⟩) rfl]
   .erw[EO N.2.1 H z]
  delta KB;simp!;erw[ex3 (l[j].name) e (fs++(l.map (·.name)).take j) ⟨rfl,c,hg _ Y,Z,λA s=>?_⟩];have B:=s _ _ c;simp!;delta KA
  simp![B,X5,Ya,Yf]
  erw[⟨⟨_,rfl⟩,by lia,?_⟩]
  have C:SameM M (updM A e (.lst ((fs++(l.map (·.name)).take j).map MV.str++[.str l[j].name]))):=λa o h=>by rw[X7 (U a o h)];erw[s _ _ (r _ _ h)]
  have D:updM A e (.lst ((fs++(l.map (·.name)).take j).map MV.str++[.str l[j].name])) e=wc (.lst ((fs++(l.map (·.name)).take (j+1)).map MV.str)):=by
   rw[Xb,XY,XY,Vb,EQ H]
  generalize updM A e _=M4 at*;delta Kz;simp!;erw[ex5 k (l[j]) _ f fs ⟨rfl,x,(L.keep C).2 j _ _ W d,C _ _ G,ok _ Y,λM5 i=>?_⟩];simp!;erw[(m _ _ _).mpr ⟨C.trans i,i _ _ D,_,rfl⟩]
 .rintro g u h;have⟨r,_⟩:=(m _ _ _).mp h;erw[q _ r]
noncomputable abbrev EZ:SpM:=λl M Q=>∃(x:Fer) (e:Addr) (j:List Str),l=[x.mv,.ref e]/\M e=wc (.lst (j.map MV.str))/\FerOk j x/\Q .non M
def Ph:MonW EZ:=by walk_at "m"
def _97(T:Txt K mg t):FO P w K mg base 2 "refuse_ferry" EZ:=by
 erw[T.bo.ok T.g Ph 2 ["ferry","island_names"] (fC T (fc (EN T) f0)) KI (fun u M Q h=>?_) (fun u M Q h=>?_)]
 .have⟨x,a,j,rfl,_⟩:=h;rfl
 have⟨x,a,j,rfl,l,ok,q⟩:=h;show wSs _ _ _ [wc (.tup [.str x.name,.str x.giver,.str x.taker,.int x.k,.int x.st]),wc (.ref a)] M;have y:=ok.k3;have z:=ok.s1;have m:=ok.s3;delta KI;simp!;erw[ex3 _ a j ⟨rfl,l,ok.g,?_⟩];simp!;delta KH;simp!;erw[ex3 _ a j ⟨rfl,l,ok.t,?_⟩];simp!;delta KG;simp!;rw[if_neg ok.ne];delta KF;simp!;rw[if_pos (by lia:(0:Int)<=(x.k:Int))]
 rw[if_neg (by lia:¬¬(x.k:Int)<=3)]
 delta KE;simp!;rw[if_pos (by lia:(1:Int)<=(x.st:Int))]
 rw[if_neg (by lia:¬¬(x.st:Int)<=3)]
 erw[q]
def _fd{F:List Fer}{g:Fer->Str}:∀{c:List (Key×MV)},(F.map (·.name)).Nodup->(∀x∈F,valM c (Xn x.name)=we)->∀x∈F,valM ((F.map λy=>((Xn y.name:Key),MV.str (g y))).foldl (λc z=>putM c z.1 z.2) c) (Xn x.name)=wc (.str (g x)):=by
 have stay:∀(F:List Fer)(c:List (Key×MV))(z:Str),(∀y∈F,y.name≠z)->valM ((F.map λy=>((Xn y.name:Key),MV.str (g y))).foldl (λc z=>putM c z.1 z.2) c) (Xn z)=valM c (Xn z):=by
  intro F
  induction F with
  |nil=>intro c z _;rfl
  |cons y r m=>
   intro c z h;rw[Xt,Ve,m _ _ (λy d=>h y (XJ _ d)),Ca,if_neg (λe=>h y (Y2 ..) (Vo e).symm)]
 induction F with
 |nil=>intro c _ _ x j;cases j
 |cons y r m=>
  intro c l h x j;rw[Xt,Yc]at l;rw[Xt,Ve];rcases Xj.mp j with rfl|j
  .rw[stay _ _ _ (λz u e=>l.1 (XA.mpr ⟨z,u,e⟩)),Ca,if_pos rfl]
  .erw[m l.2 (λz u=>?_) x j];rw[Ca,if_neg (λe=>l.1 (XA.mpr ⟨z,u,Vo e⟩))];erw[h z (XJ _ u)]
def dirK(F:List Fer)(g:Fer->Str):List (Key×MV):=U2 (F.map λy=>((Xn y.name:Key),MV.str (g y)))
def Pi{F:List Fer}{g:Fer->Str}(j:(F.map (·.name)).Nodup){x:Fer}(l:x∈F):valM (dirK F g) (Xn x.name)=wc (.str (g x)):=_fd j (λ_ _=>rfl) x l
abbrev F0:SpM:=λj M Q=>∃(z:Str) (S:Stp) (a b:Addr) (F:List Fer),j=[.str z,S.mv,.ref a,.ref b]/\M a=wc (.dic (dirK F (·.giver)))/\M b=wc (.dic (dirK F (·.taker)))/\(F.map (·.name)).Nodup/\U5 F z S/\(∀f,(∃x,S=.take f x)\/(∃U,S=.give f U)->f∈F.map (·.name))/\Q .non M
def Pj:MonW F0:=by walk_at "m"
def _5M(T:Txt K mg t):FO P w K mg base 1 "refuse_wrong_end" F0:=by
 erw[T.cu.ok T.g Pj 4 ["name","step","givers","takers"] (fC T f0) KJ (fun d M Q h=>?_) (fun d M Q h=>?_)]
 .have⟨z,S,a,b,F,rfl,_⟩:=h;rfl
 have⟨z,S,a,b,F,rfl,c,r,l,u,m,q⟩:=h;show wSs _ _ _ [wc (.str z),wc S.mv,wc (.ref a),wc (.ref b)] M;delta KJ;cases S with
 |take f x=>
  have⟨y,j,rfl⟩:=XA.mp (m f (.inl ⟨x,rfl⟩));have v:=Pi (g:=(·.taker)) l j;have e:=u y j rfl
  simp![ET,r,v,e]
  delta Am
  simp![ET]
  erw[q]
 |give f U=>
  have⟨y,j,rfl⟩:=XA.mp (m f (.inr ⟨U,rfl⟩));have v:=Pi (g:=(·.giver)) l j;have e:=u y j rfl
  simp![EU]
  delta Am
  simp![EU,c,v,e]
  erw[q]
 |put f U=>
  simp![EV]
  delta Am
  simp![EV]
  erw[q]
 |jump U i=>
  simp![EW]
  delta Am
  simp![EW]
  erw[q]
def _bJ{fs j:List Str}{n:Nat}{S:Stp}(h:Zj fs j n S):∀f,(∃x,S=.take f x)\/(∃U,S=.give f U)->f∈fs:=by
 rintro f (⟨x,rfl⟩|⟨U,rfl⟩)
 .erw[h.1]
 .erw[h.1]
abbrev F1:SpM:=λy M Q=>∃(p f:Addr) (l:List MV) (j:List Isl) (F:List Fer),y=[.ref p,.ref f]/\M p=wc (.lst l)/\IslsIn M j l/\j.length<=5/\M f=wc (.lst (F.map Fer.mv))/\F.length<=6/\(F.map (·.name)).Nodup/\
 (∀I∈j,I.stps.length<=12/\∀s∈I.stps,U5 F I.name s/\∃z n,Zj (F.map (·.name)) z n s)/\∀u,SameM M u->Q .non u
def Pk:MonW F1:=by walk_at "m"
def Pl(F:List Fer)(g:Fer->Str):(F.map λx=>MV.tup [.str x.name,.str (g x)])=(F.map λy=>((Xn y.name:Key),MV.str (g y))).map prM:=by rw[XZ];rfl
def _4U(T:Txt K mg t):FO P w K mg base 2 "refuse_wrong_ends" F1:=by
 erw[T.bX.ok T.g Pk 2 ["islands","ferries","givers","takers","island","step"] (fC T (fc (_5M T) f0)) KP (fun o M Q h=>?_) (fun o M Q h=>?_)]
 .have⟨p,f,ys,Is,F,rfl,_⟩:=h;rfl
 have⟨p,f,ys,Is,F,rfl,hp,hI,h5,N,h6,nd,hE,q⟩:=h;show wSs _ _ _ [wc (.ref p),wc (.ref f),we,we,we,we] M;have g:=(_6 (u:=[("refuse_wrong_end",F0)]) (fMc Pj nl0));delta KP;simp!;erw[_O F Fer.mv (λx=>.tup [.str x.name,.str x.giver]) ?_ ?_ g λD hD=>?_]
 .simp![N]
  erw[⟨rfl,by lia,N⟩]
 .intro x O z s;simp only[sCm,Xt,Yb,YK,Yr,Yz,Yk]
  simp![Fer.mv]
  try erw[⟨rfl,rfl⟩]
 rw[Pl F (·.giver)];have s1:=SameM.new hD (.lst ((F.map λy=>((Xn y.name:Key),MV.str y.giver)).map prM));have d1:updM M D (.lst ((F.map λy=>((Xn y.name:Key),MV.str y.giver)).map prM)) D=wc (.lst ((F.map λy=>((Xn y.name:Key),MV.str y.giver)).map prM)):=Xb;generalize updM M D _=M1 at*;simp!;erw[⟨_,d1,λa ha=>?_⟩];have X:=s1.trans (SameM.new ha (.dic (dirK F (·.giver))));have R:updM M1 a (.dic (dirK F (·.giver))) a=wc (.dic (dirK F (·.giver))):=Xb
 change wSs _ _ _ _ (updM M1 a (.dic (dirK F (·.giver))))
 generalize updM M1 a _=M2 at*;have r:=X _ _ N;delta KO;simp!;erw[_O F Fer.mv (λx=>.tup [.str x.name,.str x.taker]) ?_ ?_ g λU W=>?_]
 .simp![r]
  erw[⟨rfl,by lia,r⟩]
 .intro x O z s;simp only[sCm,Xt,Yb,YK,Yr,Yz,Yk]
  simp![Fer.mv]
  try erw[⟨rfl,rfl⟩]
 rw[Pl F (·.taker)];have s3:=SameM.new W (.lst ((F.map λy=>((Xn y.name:Key),MV.str y.taker)).map prM));have d3:updM M2 U (.lst ((F.map λy=>((Xn y.name:Key),MV.str y.taker)).map prM)) U=wc (.lst ((F.map λy=>((Xn y.name:Key),MV.str y.taker)).map prM)):=Xb;generalize updM M2 U _=M3 at*;simp!;erw[⟨_,d3,λb hb=>?_⟩];have H:=s3.trans (SameM.new hb (.dic (dirK F (·.taker))));have Y:updM M3 b (.dic (dirK F (·.taker))) b=wc (.dic (dirK F (·.taker))):=Xb
 change wSs _ _ _ _ (updM M3 b (.dic (dirK F (·.taker))))
 generalize updM M3 b _=M4 at*;have Z:=H _ _ R;have A:=X.trans H;have e:=A _ _ hp;have B:=hI.keep A;delta KN
 simp![e]
 obtain⟨J,L⟩:∃J:Nat->Sm->MH->Prop,∀j l z,J j l z↔z=M4/\∃v m,l=[wc (.ref p),wc (.ref f),wc (.ref a),wc (.ref b),v,m]:=⟨_,λ_ _ _=>Yd⟩;erw[⟨J,(L _ _ _).mpr ⟨rfl,_,_,rfl⟩,λj l z h=>by rw[((L _ _ _).mp h).1];erw[e],?_,?_⟩]
 .rintro j y l z hy h;have⟨rfl,v,m,rfl⟩:=(L _ _ _).mp h;have⟨I,hm,c,d,rfl,hc,hd⟩:=B.mem (Xd hy);have⟨l12,hS⟩:=hE I hm;delta KM
  simp![hd]
  obtain⟨C,u⟩:∃C:Nat->Sm->MH->Prop,∀j l M,C j l M↔M=z/\∃m,l=[wc (.ref p),wc (.ref f),wc (.ref a),wc (.ref b),wc (.tup [.str I.name,.ref c,.ref d]),m]:=⟨_,λ_ _ _=>Yd⟩;erw[⟨C,(u _ _ _).mpr ⟨rfl,_,rfl⟩,λj l M h=>by rw[((u _ _ _).mp h).1];erw[hd],?_,?_⟩]
  .rintro i x l E O G;have⟨rfl,m,rfl⟩:=(u _ _ _).mp G;have⟨S,rfl⟩:=YO O;have S:i<I.stps.length:=S;have⟨e1,ns,n,e2⟩:=hS _ (XS S);delta KL;simp!;erw[ex5 I.name (I.stps[i]) a b F ⟨rfl,Z,Y,nd,e1,_bJ e2,?_⟩];simp!;erw[(u _ _ _).mpr ⟨rfl,_,rfl⟩]
  .rintro l E G;have⟨rfl,m,rfl⟩:=(u _ _ _).mp G
   try walk_at "s"
   erw[(L _ _ _).mpr ⟨rfl,_,_,rfl⟩]
 .rintro l z h;have⟨rfl,_⟩:=(L _ _ _).mp h;erw[q _ A]
theorem FroD.up{M:MH}:∀{n:Nat} {v j:MV},FroD n M v j->FroD (n+1) M v j
 |0,_,_,h=>.inl h
 |n+1,v,j,h=>by
  rcases h with h|⟨l,u,y,z,m⟩
  .erw[.inl h]
  .erw[.inr ⟨l,u,y,z,λp g=>(m p g).up⟩]
def FroD.to{M:MH}{n m:Nat}{v j:MV}(h:FroD n M v j)(l:n<=m):FroD m M v j:=by
 obtain⟨d,rfl⟩:∃d,m=n+d:=⟨m - n,by lia⟩
 clear l
 induction d with
 |zero=>erw[h]
 |succ d u=>erw[u.up]
def fro_str{M:MH}{z:Str}:FroD 0 M (.str z) (.str z):=⟨.inr ⟨z,rfl⟩,rfl⟩
def fro_int{M:MH}{i:Int}:FroD 0 M (.int i) (.int i):=⟨.inl ⟨i,rfl⟩,rfl⟩
def U6{M:MH}{n:Nat}{j:List MV}(l:j.length<=1000)(h:∀x∈j,FroD n M x x):FroD (n+1) M (.tup j) (.tup j):=by
 have u:(j.map λx=>(x,x)).map (·.1)=j:=by rw[XZ];erw[AY j]
 have y:(j.map λx=>(x,x)).map (·.2)=j:=by rw[XZ];erw[AY j]
 erw[.inr ⟨j.map λx=>(x,x),.inl (by rw[u]),by rw[y],by rw[X5];erw[l],λp z=>?_⟩]
 have⟨x,m,rfl⟩:=XA.mp z;erw[h x m]
def F2{M:MH}{n:Nat}{a:Addr}{j:List MV}(e:M a=wc (.lst j))(l:j.length<=1000)(h:∀x∈j,FroD n M x x):FroD (n+1) M (.ref a) (.tup j):=by
 have u:(j.map λx=>(x,x)).map (·.1)=j:=by rw[XZ];erw[AY j]
 have y:(j.map λx=>(x,x)).map (·.2)=j:=by rw[XZ];erw[AY j]
 erw[.inr ⟨j.map λx=>(x,x),.inr ⟨a,rfl,by rw[u];erw[e]⟩,by rw[y],by rw[X5];erw[l],λp z=>?_⟩]
 have⟨x,m,rfl⟩:=XA.mp z;erw[h x m]
theorem UY{M:MH}:∀U:Tm,FroD U.depth M U.mv U.mv
 |.num n=>U6 (j:=[.str "num",.int n]) (by simp) (by
   intro x j;simp only[Xj,XM,or_false]at j;rcases j with rfl|rfl
   .erw[fro_str]
   .erw[fro_int])
 |.var z=>U6 (j:=[.str "var",.str z]) (by simp) (by
   intro x j;simp only[Xj,XM,or_false]at j;rcases j with rfl|rfl
   .erw[fro_str]
   .erw[fro_str])
 |.two f a b=>by
  have l:=UY (M:=M) a;have u:=UY (M:=M) b;show FroD (1+max a.depth b.depth) M (.tup [.str f.str,a.mv,b.mv]) (.tup [.str f.str,a.mv,b.mv]);rw[UM];erw[U6 (by simp) λx j=>?_]
  simp only[Xj,XM,or_false]at j;rcases j with rfl|rfl|rfl
  .erw[fro_str.to (YB _)]
  .erw[l.to (by lia)]
  .erw[u.to (by lia)]
 |.pick c a b=>by
  have y:=UY (M:=M) c;have l:=UY (M:=M) a;have u:=UY (M:=M) b;show FroD (1+max c.depth (max a.depth b.depth)) M (.tup [.str "pick",c.mv,a.mv,b.mv]) (.tup [.str "pick",c.mv,a.mv,b.mv]);rw[UM];erw[U6 (by simp) λx j=>?_]
  simp only[Xj,XM,or_false]at j;rcases j with rfl|rfl|rfl|rfl
  .erw[fro_str.to (YB _)]
  .erw[y.to (by lia)]
  .erw[l.to (by lia)]
  .erw[u.to (by lia)]
def _kP{M:MH}{fs l:List Str}{n:Nat}{S:Stp}(h:Zj fs l n S):FroD 9 M S.mv S.mv:=by
 cases S with
 |take f x=>
  erw[U6 (j:=[.str "take",.str f,.str x]) (by simp) fun v j=>?_]
  simp only[Xj,XM,or_false]at j;rcases j with rfl|rfl|rfl<;>erw[fro_str.to (by decide)]
 |give f U=>
  erw[U6 (j:=[.str "give",.str f,U.mv]) (by simp) fun v j=>?_]
  simp only[Xj,XM,or_false]at j;rcases j with rfl|rfl|rfl
  .erw[fro_str.to (by decide)]
  .erw[fro_str.to (by decide)]
  .erw[(UY U).to h.2.1]
 |put f U=>
  erw[U6 (j:=[.str "put",.str f,U.mv]) (by simp) fun v j=>?_]
  simp only[Xj,XM,or_false]at j;rcases j with rfl|rfl|rfl
  .erw[fro_str.to (by decide)]
  .erw[fro_str.to (by decide)]
  .erw[(UY U).to h.2.1]
 |jump U i=>
  erw[U6 (j:=[.str "jump",U.mv,.int i]) (by simp) fun v j=>?_]
  simp only[Xj,XM,or_false]at j;rcases j with rfl|rfl|rfl
  .erw[fro_str.to (by decide)]
  .erw[(UY U).to h.1.1]
  .erw[fro_int.to (by decide)]
def _m1{M:MH}{k:Nat}{fs:List Str}{I:Isl}{y:MV}(ok:IslOk k fs I)(h:IslIn M I y):FroD 11 M y I.mv:=by
 have⟨a,b,rfl,z,m⟩:=h;have d:=ok.nv;have c:=ok.ns;erw[.inr ⟨[(.str I.name,.str I.name),(.ref a,.tup (I.prs.map prV)),(.ref b,.tup (I.stps.map Stp.mv))],.inl rfl,rfl,by simp,λp l=>?_⟩]
 simp only[Xj,XM,or_false]at l;rcases l with rfl|rfl|rfl
 .erw[fro_str.to (by decide)]
 .erw[F2 z (by rw[X5];lia) λx j=>?_]
  have⟨q,_,rfl⟩:=XA.mp j;erw[(U6 (n:=0) (j:=[.str q.1,.int q.2]) (by simp) λv u=>?_).to (by decide)]
  simp only[Xj,XM,or_false]at u;rcases u with rfl|rfl
  .erw[fro_str]
  .erw[fro_int]
 .erw[F2 m (by rw[X5];lia) λx j=>?_]
  have⟨S,g,rfl⟩:=XA.mp j;erw[_kP (ok.st S g)]
def _mp{M:MH}(f:Fer):FroD 1 M f.mv f.mv:=by
 erw[U6 (j:=[.str f.name,.str f.giver,.str f.taker,.int f.k,.int f.st]) (by simp) λv j=>?_]
 simp only[Xj,XM,or_false]at j;rcases j with rfl|rfl|rfl|rfl|rfl
 .erw[fro_str]
 .erw[fro_str]
 .erw[fro_str]
 .erw[fro_int]
 .erw[fro_int]
def _ji{M:MH}{k:Nat}{fs:List Str}{Is:List Isl}{j:List MV}{p:Addr}(z:M p=wc (.lst j))(h:IslsIn M Is j)(l:Is.length<=5)(ok:∀I∈Is,IslOk k fs I):FroD 12 M (.ref p) (.tup (Is.map Isl.mv)):=by
 have f:=h.1;have m:(j.zip (Is.map Isl.mv)).map (·.1)=j:=List.map_fst_zip (by rw[X5];lia)
 have g:(j.zip (Is.map Isl.mv)).map (·.2)=Is.map Isl.mv:=List.map_snd_zip (by rw[X5];lia)
 erw[.inr ⟨j.zip (Is.map Isl.mv),.inr ⟨p,rfl,by rw[m];erw[z]⟩,by rw[g],by rw[List.length_zip,X5];lia,λq d=>?_⟩]
 have⟨i,c,rfl⟩:=Yn d;rw[List.length_zip,X5]at c;have y:i<j.length:=by lia
 have u:i<Is.length:=by lia
 rw[List.getElem_zip,CY];erw[_m1 (ok _ (XS u)) (h.2 i _ _ (X6 u) (X6 y))]
noncomputable def fstM:MV->MV
 |.tup (x::_)=>x
 |v=>v
abbrev Ci:SpM:=λu M Q=>∃(p f:Addr) (j:List MV) (W:Wld),u=[.int W.w,.ref p,.ref f]/\M p=wc (.lst j)/\IslsIn M W.isl j/\M f=wc (.lst (W.fer.map Fer.mv))/\W.Good/\∀l,SameM M l->Q W.mv l
def Pm:MonW Ci:=by walk_at "m"
def _lC(T:Txt K mg t):FO P w K mg base 56 "made" Ci:=by
 erw[T.aV.ok T.g Pm 3 ["width","islands","ferries","island_names","ferry"] (fC T (fc (P5 T 13) (fc (_dv T) (fc (_97 T) (fc (_3Z T) (fc (_6W T) (fc (_4U T) f0))))))) L3 (fun vs M Q h=>?_) (fun vs M Q h=>?_)]
 .have⟨p,f,d,W,rfl,_⟩:=h;rfl
 have⟨p,f,d,W,rfl,c,m,g,G,q⟩:=h;have e:=_6 (u:=[("frozen",UX 13),("is_width",EM),("refuse_ferry",EZ),("refuse_ferry_names",ER),("refuse_islands",EY),("refuse_wrong_ends",F1)]) (fMc (Ch 13) (fMc P8 (fMc Ph (fMc Pb (fMc Pg (fMc Pk (fun _ h=>nomatch h)))))));show wSs _ _ _ [wc (.int W.w),wc (.ref p),wc (.ref f),we,we] M;have w1:=G.w1;have w2:=G.w2;have C:=G.i5;have E:=G.f6;have hl:=m.1;have nd:=YS.mp G.nd;delta L3;simp!;erw[⟨W.w,rfl,by lia,by lia,?_⟩]
 simp!;delta L1
 simp![c]
 erw[XU (λz=>by lia) (λ_=>?_)]
 delta L0
 simp![g,X5]
 erw[XU (λz=>by lia) (λ_=>?_)]
 delta KZ;simp!;erw[⟨f,W.fer,rfl,g,E,nd.1,λx Y=>G.fg _ (XA.mpr ⟨x,Y,rfl⟩),λM1 s1=>?_⟩];simp!;have L:=s1 _ _ g;delta KY;simp!;erw[_O W.fer Fer.mv (λx=>.str x.name) ?_ ?_ e λD F=>?_]
 .simp![L]
  erw[⟨rfl,by lia,L⟩]
 .intro x Y l s;simp only[sCm,Xt,Yb,YK,Yr,Yz,Yk]
  simp![Fer.mv]
  try erw[⟨rfl,rfl⟩]
 have eF:(W.fer.map λx=>MV.str x.name)=W.fns.map MV.str:=by unfold Wld.fns;rw[XZ];rfl
 rw[eF];have X:=s1.trans (SameM.new F (.lst (W.fns.map MV.str)));have H:updM M1 D (.lst (W.fns.map MV.str)) D=wc (.lst (W.fns.map MV.str)):=Xb;generalize updM M1 D _=M2 at*
 try walk_at "s"
 erw[ex6 W.w p D W.isl d W.fns ⟨rfl,w2,X _ _ c,m.keep X,C,by unfold Wld.fns;rw[X5];erw[E],H,G.nd,λI N=>G.ig _ (XA.mpr ⟨I,N,rfl⟩),G.io,λM3 s3=>?_⟩]
 have Z:=X.trans s3;have O:=Z _ _ c;have hf3:=Z _ _ g;have o:=m.keep Z;simp!;delta KW;simp!;erw[_O d (λy=>y) fstM ?_ ?_ e λD F=>?_]
 .simp![O]
  erw[⟨by simp[Src.items],by lia,O⟩]
 .intro y i l s;have⟨I,_,a,b,rfl,_⟩:=o.mem i;simp only[sCm,Xt,Yb,YK,Yr,Yz,Yk];simp!
  rfl
 have eI:d.map fstM=W.ins.map MV.str:=m.fst λz r=>rfl;rw[eI];have A:=Z.trans (SameM.new F (.lst (W.ins.map MV.str)));have hD5:updM M3 D (.lst (W.ins.map MV.str)) D=wc (.lst (W.ins.map MV.str)):=Xb;generalize updM M3 D _=M5 at*;have u:=A _ _ g;delta KU
 simp![u]
 obtain⟨J,R⟩:∃J:Nat->Sm->MH->Prop,∀j U l,J j U l↔l=M5/\∃v,U=[wc (.int W.w),wc (.ref p),wc (.ref f),wc (.ref D),v]:=⟨_,λ_ _ _=>Yd⟩;erw[⟨J,(R _ _ _).mpr ⟨rfl,_,rfl⟩,λj U l h=>by rw[((R _ _ _).mp h).1];erw[u],?_,?_⟩]
 .rintro j y U l i h;have⟨rfl,v,rfl⟩:=(R _ _ _).mp h;have⟨hj,rfl⟩:=YO i;have hj:j<W.fer.length:=hj;delta KS;simp!;erw[ex3 (W.fer[j]) D W.ins ⟨rfl,hD5,G.fo _ (XS hj),?_⟩];simp!;erw[(R _ _ _).mpr ⟨rfl,_,rfl⟩]
 .rintro U l h;have⟨rfl,v,rfl⟩:=(R _ _ _).mp h;delta KR;simp!;erw[ex5 p f d W.isl W.fer ⟨rfl,A _ _ c,m.keep A,C,u,E,nd.1,λI N=>⟨(G.io I N).ns,λS hS=>⟨G.en I N S hS,_,_,(G.io I N).st S hS⟩⟩,λM6 s6=>?_⟩];have B:=A.trans s6;simp!;delta KQ;simp!;erw[⟨_,W.mv,rfl,?_,λl s'=>q l (B.trans s')⟩];erw[.inr ⟨[(.int W.w,.int W.w),(.ref p,.tup (W.isl.map Isl.mv)),(.ref f,.tup (W.fer.map Fer.mv))],.inl rfl,rfl,by simp,λz hz=>?_⟩]
  simp only[Xj,XM,or_false]at hz;rcases hz with rfl|rfl|rfl
  .erw[fro_int.to (by decide)]
  .erw[_ji (B _ _ c) (m.keep B) C G.io]
  .erw[(F2 (n:=1) (B _ _ g) (by rw[X5];lia) λx Y=>?_).to (by decide)]
   have⟨y,_,rfl⟩:=XA.mp Y;erw[_mp y]
def _dz(m:Nat):∀n:Nat,(m^^^n)+2*(m&&& n)=m+n:=by
 induction m using Nat.strongRecOn with
 |ind m l=>
  intro n;by_cases h0:m=0
  .subst h0;simp
  .have j:=l (m/2) (by lia) (n/2)
   rw[<-Nat.xor_div_two,<-Nat.and_div_two]at j;have u:=@Nat.xor_mod_two_eq_one m n;have y:=@Nat.and_mod_two_eq_one m n;lia
noncomputable def seen(o n c:Nat):Nat:=o^^^((o^^^n)&&& c)
def Cj(m n:Nat):Bz (m:Int) (n:Int)=((m^^^n:Nat):Int):=by
 rw[PyProof.Rows.bitXor_and,FR (Ul m) (Ul n),YT,YT];have:=_dz m n;lia
def _jB(m n:Nat):By (m:Int) (n:Int)=((m&&& n:Nat):Int):=by
 rw[FR (Ul m) (Ul n),YT,YT]
noncomputable def gray(n:Nat):Nat:=n^^^(n/2)
noncomputable def ugF:Nat->Nat->Nat->Nat
 |0,n,_=>n
 |k+1,n,a=>if a=0 then n else ugF k (n^^^a) (a/2)
def _ip:∀k n,ugF k n 0=n
 |0,_=>rfl
 |k+1,n=>by simp[ugF]
def Wl(w:Nat):Nat:=ugF 64 w (w/2)
noncomputable def Ck(x:Nat):Bool:=x==1||x==2||x==4||x==8
def Zn0(m:Nat):Bool:=(Xq (2^(m+1))).all λn=>decide (gray n<16)&&decide (Wl (gray n)=n)&&Ck (gray n^^^gray ((n+1)%2^(m+1)))
def _iq:(Xq 4).all Zn0=wf:=by decide+kernel
def Pn{m n:Nat}(l:m<4)(u:n<2^(m+1)):gray n<16/\Wl (gray n)=n/\Ck (gray n^^^gray ((n+1)%2^(m+1)))=wf:=by
 have y:=AV.mp _iq m (Zd.mpr l);have j:=AV.mp y n (Zd.mpr u);simp only[XQ,decide_eq_true_eq]at j;erw[⟨j.1.1,j.1.2,j.2⟩]
def _mC{x c:Nat}(h:Ck x=wf):x&&& c=0\/x&&& c=x:=by
 have l:∀i:Nat,(2^i&&& c)=0\/(2^i&&& c)=2^i:=λi=>by
  cases h:c.testBit i with
  |false=>
   left
   erw[Nat.eq_of_testBit_eq λj=>?_];rw[Nat.testBit_and,Nat.testBit_two_pow,Nat.zero_testBit];by_cases e:i=j
   .subst e;rw[h,Bh]
   .rw[decide_eq_false e,WI]
  |true=>
   right
   erw[Nat.eq_of_testBit_eq λj=>?_];rw[Nat.testBit_and,Nat.testBit_two_pow];by_cases e:i=j
   .subst e;rw[h,Bool.and_true]
   .rw[decide_eq_false e,WI]
 unfold Ck at h;simp only[Dd,beq_iff_eq]at h;rcases h with((rfl|rfl)|rfl)|rfl
 .erw[l 0]
 .erw[l 1]
 .erw[l 2]
 .erw[l 3]
set_option tactic.hygienic true in
def _gm{m a b c:Nat}(u:m<4)(h:a=b\/a=b+1):
  seen (gray (b%2^(m+1))) (gray (a%2^(m+1))) c=if c&&&(gray (a%2^(m+1))^^^gray (b%2^(m+1)))=0 then gray (b%2^(m+1))else gray (a%2^(m+1)):=by
 have l:0<2^(m+1):=ZI _;have y:=Pn u (UN b l);have g:a=b+1->(b%2^(m+1)+1)%2^(m+1)=a%2^(m+1):=λe=>by rw[e,Nat.mod_add_mod]
 unfold seen;rcases h with rfl|h
 .rw[Nat.xor_self,Nat.and_zero,if_pos rfl,Nat.zero_and,Nat.xor_zero]
 .have j:=y.2.2;rw[g h]at j;rw[Nat.and_comm c,Nat.xor_comm (gray (a%2^(m+1)))];rcases _mC (c:=c) j with e|e
  .rw[e,if_pos rfl,Nat.xor_zero]
  .rw[e,<-Nat.xor_assoc,Nat.xor_self,Nat.zero_xor];split
   .rename_i z
    rw[z]at j;cases j
   .rfl
structure Ab where
 k:Nat
 ws:List Nat
 tn:Nat
 gp:Nat
 tp:Nat
 gm:Int
 tm:Int
 gx:List Nat
 tx:List Nat
 lg:Nat
 lt:Nat
def ZP(k n p:Nat)(fresh:Bool)(c:Nat):Nat:=if fresh=wf/\c&&&(gray (n%2^(k+1))^^^gray (p%2^(k+1)))=0 then p else n
noncomputable def XF(j:List Nat):Nat:=j.getLastD 0
def Ab.gSamp(A:Ab)(c:Nat):Nat:=ZP A.k A.tn A.tp (decide (A.gm<A.tm)) c
def Ab.tSamp(A:Ab)(c:Nat):Nat:=ZP A.k A.ws.length A.gp (decide (A.tm<A.gm)) c
def Ab.gives(A:Ab)(w:Option Nat):Bool:=w.isSome&&decide (A.ws.length<XF A.gx+2^A.k)
def Ab.takes(A:Ab)(w:Bool):Bool:=w&&decide (XF A.tx≠A.tn)
noncomputable def Ab.giver(A:Ab)(m:Int)(c:Nat)(w:Option Nat):Ab:=
 {A with ws:=if A.gives w=wf then A.ws++[w.getD 0]else A.ws,gp:=A.ws.length,gm:=m,gx:=A.gSamp c::A.gx.dropLast,lg:=A.tn}
noncomputable def Ab.taker(A:Ab)(m:Int)(c:Nat)(w:Bool):Ab:=
 {A with tn:=if A.takes w=wf then A.tn+1 else A.tn,tp:=A.tn,tm:=m,tx:=A.tSamp c::A.tx.dropLast,lt:=A.ws.length}
structure Ab.Ok (A:Ab):Prop where
 k4:A.k<4
 gl:1<=A.gx.length/\A.gx.length<=3
 tl:A.tx.length=A.gx.length
 g1:A.gp<=A.ws.length/\A.ws.length<=A.gp+1
 t1:A.tp<=A.tn/\A.tn<=A.tp+1
 gs:A.gx.Pairwise (·>= ·)
 ts:A.tx.Pairwise (·>= ·)
 gb:∀d∈A.gx,d<=A.lg/\A.ws.length<=d+2^A.k
 tb:∀c∈A.tx,c<=A.lt/\A.tn<=c
 lg1:A.lg<=A.tn
 lt1:A.lt<=A.ws.length
 lg2:A.gm<A.tm->A.lg<=A.tp
 lt2:A.tm<A.gm->A.lt<=A.gp
theorem Wm:∀{j:List Nat},1<=j.length->j=j.dropLast++[XF j]
 |[],h=>by simp at h
 |[a],_=>rfl
 |a::b::s,_=>by
  have l:=Wm (j:=b::s) (by simp)
  have e:XF (a::b::s)=XF (b::s):=by simp[XF]
  rw[e];show a::b::s=a::((b::s).dropLast++[XF (b::s)]);rw[<-l]
def _v{j:List Nat}(h:1<=j.length):XF j∈j:=by
 have e:=Wm h;rw[e];have l:XF (j.dropLast++[XF j])=XF j:=by rw[<-e]
 rw[l];simp
def _ik{k n p:Nat}{f:Bool}{c:Nat}:ZP k n p f c=p\/ZP k n p f c=n:=by
 unfold ZP;split
 .erw[.inl rfl]
 .erw[.inr rfl]
def _ij{k n p:Nat}{c:Nat}:ZP k n p wg c=n:=by simp[ZP]
def Po{k n p l:Nat}{f:Bool}{c:Nat}(u:p<=n)(j:l<=n)(y:f=wf->l<=p):l<=ZP k n p f c/\ZP k n p f c<=n:=by
 cases f with
 |false=>rw[_ij];erw[⟨j,X9 _⟩]
 |true=>
  rcases @_ik k n p wf c with e|e
  all_goals first|erw[⟨by rw[e];erw[y rfl],by rw[e];erw[u]⟩]|erw[⟨by rw[e];erw[j],by rw[e];erw[X9 _]⟩]
theorem Ab.Ok.gSamp{A:Ab}(h:A.Ok)(c:Nat):A.lg<=A.gSamp c/\A.gSamp c<=A.tn:=Po h.t1.1 h.lg1 (λf=>h.lg2 (of_decide_eq_true f))
theorem Ab.Ok.tSamp{A:Ab}(h:A.Ok)(c:Nat):A.lt<=A.tSamp c/\A.tSamp c<=A.ws.length:=Po h.g1.1 h.lt1 (λf=>h.lt2 (of_decide_eq_true f))
def Ab.Ok.room{A:Ab}(h:A.Ok):A.tn<=A.ws.length/\A.ws.length<=A.tn+2^A.k:=by
 have a:=h.gb _ (_v h.gl.1);have b:=h.tb _ (_v (by rw[h.tl];erw[h.gl.1]))
 have:=h.lg1;have:=h.lt1;lia
set_option tactic.hygienic true in
theorem Ab.Ok.giver{A:Ab}(h:A.Ok){m:Int}{c:Nat}{w:Option Nat}(l:A.tm<m):(A.giver m c w).Ok:=by
 have y:=h.gSamp c;have g:=h.gb _ (_v h.gl.1);have r:=h.room;have f:∃n,(A.giver m c w).ws.length=n/\A.ws.length<=n/\n<=A.ws.length+1/\n<=XF A.gx+2^A.k:=by
  unfold Ab.giver;dsimp only;split
  .rename_i e
   unfold Ab.gives at e;simp only[XQ,decide_eq_true_eq]at e;erw[⟨_,rfl,by simp,by simp,by simp;lia⟩]
  .erw[⟨_,rfl,by lia,by lia,by lia⟩]
 have⟨n,j,u,q,L⟩:=f;erw[⟨h.k4,?_,?_,?_,h.t1,?_,h.ts,?_,?_,X9 _,?_,λz=>?_,λz=>?_⟩]
 .show 1<=(A.gSamp c::A.gx.dropLast).length/\(A.gSamp c::A.gx.dropLast).length<=3;have:=h.gl;simp only[Yj,Va];lia
 .show A.tx.length=(A.gSamp c::A.gx.dropLast).length;have:=h.gl;have:=h.tl;simp[Va];lia
 .rw[j];erw[⟨u,q⟩]
 .show(A.gSamp c::A.gx.dropLast).Pairwise (·>= ·);rw[CU];erw[⟨λd hd=>?_,Gk (List.dropLast_sublist _) h.gs⟩];have:=(h.gb d (AR _ hd)).1;show d<=A.gSamp c;lia
 .intro d hd;rw[j];show d<=A.tn/\n<=d+2^A.k;rcases Xj.mp hd with rfl|hd
  .have:=g.1;erw[⟨y.2,by lia⟩]
  .have l:=AR _ hd;erw[⟨Xv (h.gb d l).1 h.lg1,?_⟩];have:XF A.gx<=d:=by
    have e:=Wm h.gl.1;have p:=h.gs;rw[e]at p;erw[(List.pairwise_append.mp p).2.2 d hd _ (Ye.mpr rfl)]
   lia
 .erw[h.tb]
 .rw[j];erw[Xv h.lt1 u]
 .erw[absurd z (by show¬m<A.tm;lia)]
 .erw[h.lt1]
set_option tactic.hygienic true in
theorem Ab.Ok.taker{A:Ab}(h:A.Ok){m:Int}{c:Nat}{w:Bool}(u:A.gm<m):(A.taker m c w).Ok:=by
 have g:=h.tSamp c;have j:1<=A.tx.length:=by rw[h.tl];erw[h.gl.1]
 have f:=h.tb _ (_v j);have L:=h.room;have q:∃n,(A.taker m c w).tn=n/\A.tn<=n/\n<=A.tn+1/\n<=XF A.tx:=by
  unfold Ab.taker;dsimp only;split
  .rename_i e
   unfold Ab.takes at e;simp only[XQ,decide_eq_true_eq]at e;erw[⟨_,rfl,by simp,by simp,by lia⟩]
  .erw[⟨_,rfl,by lia,by lia,by lia⟩]
 have⟨n,l,y,r,N⟩:=q;erw[⟨h.k4,h.gl,?_,h.g1,?_,h.gs,?_,?_,?_,?_,X9 _,λz=>?_,λz=>?_⟩]
 .show(A.tSamp c::A.tx.dropLast).length=A.gx.length;have:=h.tl;simp[Va];lia
 .rw[l];erw[⟨y,r⟩]
 .show(A.tSamp c::A.tx.dropLast).Pairwise (·>= ·);rw[CU];erw[⟨λd hd=>?_,Gk (List.dropLast_sublist _) h.ts⟩];have:=(h.tb d (AR _ hd)).1;show d<=A.tSamp c;lia
 .erw[h.gb]
 .intro d hd;rw[l];show d<=A.ws.length/\n<=d;rcases Xj.mp hd with rfl|hd
  .erw[⟨g.2,by have:=f.1;lia⟩]
  .have u:=AR _ hd;erw[⟨Xv (h.tb d u).1 h.lt1,?_⟩];have:XF A.tx<=d:=by
    have e:=Wm j;have p:=h.ts;rw[e]at p;erw[(List.pairwise_append.mp p).2.2 d hd _ (Ye.mpr rfl)]
   lia
 .rw[l];erw[Xv h.lg1 y]
 .erw[h.lg1]
 .erw[absurd z (by show¬m<A.gm;lia)]
noncomputable def ab0(k st:Nat):Ab:=⟨k,[],0,0,0,-1,-1,Xi st 0,Xi st 0,0,0⟩
def Pp(n:Nat):(Xi n 0).Pairwise (·>= ·):=by
 induction n with
 |zero=>erw[.nil]
 |succ n j=>rw[Zo,CU];erw[⟨λd hd=>by rw[V9 hd];erw[X9 _],j⟩]
def _p4{k st:Nat}(j:k<4)(l:1<=st)(u:st<=3):(ab0 k st).Ok:=by
 erw[⟨j,by simpa [ab0]using⟨l,u⟩,by simp[ab0],by simp[ab0],by simp[ab0],Pp _,Pp _,?_,?_,X9 _,X9 _,λz=>X9 _,λz=>X9 _⟩]
 .intro d hd;rw[V9 hd];erw[⟨X9 _,YB _⟩]
 .intro d hd;rw[V9 hd];erw[⟨X9 _,X9 _⟩]
noncomputable def PlOk(A:Ab)(l:List (Nat×Nat×Int)):Prop:=l.length=2^A.k/\∀j (y:j<A.ws.length),A.ws.length<=j+2^A.k->∃u,l[j%2^A.k]?=wc (A.ws[j],u,A.gm)/\(j<A.gp->u=A.ws[j])
noncomputable def YW(A:Ab)(m:Int)(w:Option Nat)(j:List (Nat×Nat×Int)):List (Nat×Nat×Int):=
 (Xq j.length).map λi=>((if A.gives w=wf/\i=A.ws.length%2^A.k then w.getD 0 else(j.getD i (0,0,0)).1),(j.getD i (0,0,0)).1,m)
def _on{a b n:Nat}(l:a<b)(u:b<a+n):a%n≠b%n:=by
 intro e;have j:(b - a)%n=0:=Nat.sub_mod_eq_zero_of_mod_eq e.symm;rw[Nat.mod_eq_of_lt (by lia)]at j
 lia
def _ff{A:Ab}{m:Int}{c:Nat}{w:Option Nat}{l:List (Nat×Nat×Int)}(h:PlOk A l):PlOk (A.giver m c w) (YW A m w l):=by
 have r:0<2^A.k:=ZI _;erw[⟨?_,?_⟩]
 .show(YW A m w l).length=2^A.k;simp[YW,h.1]
 .intro j p f;have f:(A.giver m c w).ws.length<=j+2^A.k:=f;show∃q,(YW A m w l)[j%2^A.k]?=wc ((A.giver m c w).ws[j],q,m)/\(j<A.ws.length->q=(A.giver m c w).ws[j]);have lt:j%2^A.k<l.length:=by rw[h.1];erw[UN _ r]
  have get:(YW A m w l)[j%2^A.k]?=wc ((if A.gives w=wf/\j%2^A.k=A.ws.length%2^A.k then w.getD 0 else(l.getD (j%2^A.k) (0,0,0)).1),(l.getD (j%2^A.k) (0,0,0)).1,m):=by
   unfold YW;rw[Xe,Wy lt]
   rfl
  rw[get];by_cases g:A.gives w=wf
  .have d:(A.giver m c w).ws=A.ws++[w.getD 0]:=by unfold Ab.giver;rw[if_pos g]
   have O:j<A.ws.length+1:=by rw[d]at p;simpa using p
   have R:A.ws.length+1<=j+2^A.k:=by rw[d]at f;simpa using f
   by_cases e:j=A.ws.length
   .subst e;erw[⟨(l.getD (A.ws.length%2^A.k) (0,0,0)).1,?_,λz=>absurd z (Ze _)⟩];rw[if_pos ⟨g,rfl⟩];simp[d]
   .have u:j<A.ws.length:=by lia
    have⟨q,L,_⟩:=h.2 j u (by lia)
    have T:=_on (n:=2^A.k) u (by lia)
    have N:l.getD (j%2^A.k) (0,0,0)=(A.ws[j],q,A.gm):=by rw[Y1,L];rfl
    have y:(A.giver m c w).ws[j]=A.ws[j]:=by simp[d,u]
    erw[⟨A.ws[j],?_,λ_=>y.symm⟩];rw[if_neg (λz=>T z.2),N,y]
  .have d:(A.giver m c w).ws=A.ws:=by unfold Ab.giver;rw[if_neg g]
   have u:j<A.ws.length:=by rw[d]at p;erw[p]
   have⟨q,L,_⟩:=h.2 j u (by rw[d]at f;erw[f])
   have N:l.getD (j%2^A.k) (0,0,0)=(A.ws[j],q,A.gm):=by rw[Y1,L];rfl
   have y:(A.giver m c w).ws[j]=A.ws[j]:=by simp[d]
   erw[⟨A.ws[j],?_,λ_=>y.symm⟩];rw[if_neg (λz=>g z.1),N,y]
def _g2{A:Ab}(h:A.Ok){y:List (Nat×Nat×Int)}(m:PlOk A y)(f:XF A.tx≠A.tn):∃(l:A.tn<A.ws.length) (j:Nat),y[A.tn%2^A.k]?=wc (A.ws[A.tn],j,A.gm)/\(A.tm<A.gm->j=A.ws[A.tn]):=by
 have u:1<=A.tx.length:=by rw[h.tl];erw[h.gl.1]
 have q:=h.tb _ (_v u);have g:=h.room;have r:=h.lt1;have l:A.tn<A.ws.length:=by lia
 have⟨j,d,c⟩:=m.2 A.tn l g.2;erw[⟨l,j,d,λz=>c (by have:=h.lt2 z;lia)⟩]
def _gl(a c:Nat):seen a a c=a:=by simp[seen]
def _iK{A:Ab}(h:A.Ok):(((A.ws.length:Int) - ((XF A.gx%2^(A.k+1):Nat):Int))%((2^(A.k+1):Nat):Int)<((2^A.k:Nat):Int))↔A.ws.length<XF A.gx+2^A.k:=by
 have a:=h.gb _ (_v h.gl.1);have j:=h.room;have l:=h.lg1;have e:((A.ws.length:Int) - ((XF A.gx%2^(A.k+1):Nat):Int))%((2^(A.k+1):Nat):Int)=((A.ws.length - XF A.gx:Nat):Int):=by
  rw[Di,Bn,Int.emod_emod,<-Bn];have:(A.ws.length:Int) - (XF A.gx:Int)=((A.ws.length - XF A.gx:Nat):Int):=by lia
  rw[this,<-Di,Nat.mod_eq_of_lt (by rw[Nat.pow_succ];have:=ZI A.k;lia)]
 rw[e];lia
def Pq{A:Ab}(h:A.Ok):(((A.tn:Int) - ((XF A.tx%2^(A.k+1):Nat):Int))%((2^(A.k+1):Nat):Int)=0)↔XF A.tx=A.tn:=by
 have j:1<=A.tx.length:=by rw[h.tl];erw[h.gl.1]
 have a:=h.tb _ (_v j);have y:=h.room;have m:=h.lt1;have p:=ZI A.k;rw[Di,Bn,Int.emod_emod,<-Bn];constructor
 .intro z;have d:=Int.dvd_of_emod_eq_zero z;have l:((2^(A.k+1):Nat):Int)∣((XF A.tx - A.tn:Nat):Int):=by
   have:((XF A.tx - A.tn:Nat):Int)= -((A.tn:Int) - (XF A.tx:Int)):=by lia
   rw[this];erw[Int.dvd_neg.mpr d]
  have u:=Int.natCast_dvd_natCast.mp l;have:=Nat.eq_zero_of_dvd_of_lt u (by rw[Nat.pow_succ];lia)
  lia
 .intro z;rw[z,Int.sub_self];rfl
abbrev Pr:SpM:=λj M Q=>∃(o n c:Nat),j=[.int o,.int n,.int c]/\Q (.int (seen o n c:Nat)) M
def _dE:MonW Pr:=by walk_at "m"
def _lE(T:Txt K mg t):FO P w K mg base 1 "amid" Pr:=by
 erw[T.b7.ok T.g _dE 3 ["old","new","choice"] (fC T f0) Jp (fun j M Q h=>?_) (fun j M Q h=>?_)]
 .have⟨o,n,c,rfl,_⟩:=h;rfl
 have⟨o,n,c,rfl,q⟩:=h;show wSs _ _ _ [wc (.int o),wc (.int n),wc (.int c)] M;delta Jp;simp!;rw[Cj,_jB,Cj];erw[q]
noncomputable abbrev F3:SpM:=λj M Q=>∃w:Int,j=[.int w]/\Q (.tup [.int w,.int w,.int (-1)]) M
def _74:MonW F3:=by walk_at "m"
def Ps(T:Txt K mg t):FO P w K mg base 1 "first_sign" F3:=by
 erw[T.aO.ok T.g _74 1 ["word"] (fC T f0) Mb (fun j M Q h=>?_) (fun j M Q h=>?_)]
 .have⟨n,rfl,_⟩:=h;rfl
 have⟨n,rfl,q⟩:=h;show wSs _ _ _ [wc (.int n)] M;delta Mb;simp!;erw[q]
noncomputable abbrev Wn:SpM:=λj M Q=>∃a b c w m:Int,j=[.tup [.int a,.int b,.int c],.int w,.int m]/\Q (.tup [.int w,.int a,.int m]) M
def Pt:MonW Wn:=by walk_at "m"
def Pu(T:Txt K mg t):FO P w K mg base 1 "shown" Wn:=by
 erw[T.c9.ok T.g Pt 3 ["sign","word","moment"] (fC T f0) Mc (fun j M Q h=>?_) (fun j M Q h=>?_)]
 .have⟨a,b,c,w,m,rfl,_⟩:=h;rfl
 have⟨a,b,c,w,m,rfl,q⟩:=h;show wSs _ _ _ [wc (.tup [.int a,.int b,.int c]),wc (.int w),wc (.int m)] M;delta Mc;simp!;erw[q]
abbrev Ar:SpM:=λj M Q=>∃(a b:Nat) (m s:Int) (c:Nat),j=[.tup [.int a,.int b,.int m],.int s,.int c]/\Q (.int ((if s<m then seen b a c else a:Nat):Int)) M
def _ak:MonW Ar:=by walk_at "m"
def Pv(T:Txt K mg t):FO P w K mg base 2 "sampled" Ar:=by
 erw[T.cj.ok T.g _ak 3 ["sign","since","choice"] (fC T (fc (_lE T) f0)) Mg (fun j M Q h=>?_) (fun j M Q h=>?_)]
 .have⟨a,b,m,s,c,rfl,_⟩:=h;rfl
 have⟨a,b,m,s,c,rfl,q⟩:=h;show wSs _ _ _ [wc (.tup [.int a,.int b,.int m]),wc (.int s),wc (.int c)] M;delta Mg;simp!;erw[XU (λh=>?_) (λh=>?_)]
 .rw[if_pos h]at q;delta Mf;simp!;erw[ex3 b a c ⟨rfl,q⟩]
 .rw[if_neg h]at q;delta Me;simp!;erw[q]
noncomputable abbrev Pw:SpM:=λj M Q=>∃(w:Int) (k:Nat),j=[.int w,.int k]/\1<=k/\k<=3/\Q (.tup ((Xi k w).map MV.int)) M
def _6k:MonW Pw:=by walk_at "m"
theorem F4{j:Type}(x:j):∀k:Nat,(Xi k [x]).flatten=Xi k x
 |0=>rfl
 |k+1=>by rw[Zo,ZD,F4 x k];rfl
def _ae(T:Txt K mg t):FO P w K mg base 1 "first_sight" Pw:=by
 erw[T.bO.ok T.g _6k 2 ["word","stages"] (fC T f0) Md (fun j M Q h=>?_) (fun j M Q h=>?_)]
 .have⟨w,k,rfl,_⟩:=h;rfl
 have⟨w,k,rfl,l,u,q⟩:=h;show wSs _ _ _ [wc (.int w),wc (.int k)] M;delta Md;simp!;erw[⟨by lia,by lia,?_⟩]
 rw[YT,F4];rw[Wz]at q;erw[q]
noncomputable abbrev Px:SpM:=λj M Q=>∃(l:List Int) (a:Int),j=[.tup ((l++[a]).map MV.int)]/\Q (.int a) M
def _dC:MonW Px:=by walk_at "m"
def _mE(j:List Int)(a:Int):atI ((j++[a]).map MV.int) (-1)=wc (.int a):=by
 unfold atI ixN;rw[if_neg (by decide),if_pos (by simp;lia)]
 have e:((-1:Int)+(((j++[a]).map MV.int).length:Int)).toNat=j.length:=by simp;lia
 rw[e];simp
def _lB(T:Txt K mg t):FO P w K mg base 1 "used" Px:=by
 erw[T.aY.ok T.g _dC 1 ["sight"] (fC T f0) Mi (fun l M Q h=>?_) (fun l M Q h=>?_)]
 .have⟨j,a,rfl,_⟩:=h;rfl
 have⟨j,a,rfl,q⟩:=h;show wSs _ _ _ [wc (.tup ((j++[a]).map MV.int))] M;delta Mi;simp!;erw[⟨_,_mE j a,q⟩]
noncomputable abbrev F5:SpM:=λl M Q=>∃(j:List Int) (a w:Int),l=[.tup ((j++[a]).map MV.int),.int w]/\j.length<=100/\Q (.tup ((w::j).map MV.int)) M
def _cH:MonW F5:=by walk_at "m"
def _j7(T:Txt K mg t):FO P w K mg base 1 "moved" F5:=by
 erw[T.bv.ok T.g _cH 2 ["sight","word"] (fC T f0) Mh (fun l M Q h=>?_) (fun l M Q h=>?_)]
 .have⟨j,a,w,rfl,_⟩:=h;rfl
 have⟨j,a,w,rfl,y,q⟩:=h;show wSs _ _ _ [wc (.tup ((j++[a]).map MV.int)),wc (.int w)] M;delta Mh;simp!;have len:([MV.int w]++(j++[a]).map MV.int).length=j.length+2:=by simp
 have u:HT.sIx (j.length+2) (j.length+2) (wc (-1))=j.length+1:=by
  unfold HT.sIx;dsimp only;rw[if_pos (by decide)]
  lia
 have cut:cutM ([MV.int w]++(j++[a]).map MV.int) we (wc (-1))=(w::j).map MV.int:=by
  unfold cutM;rw[len,u,HT.sIx_none,Nat.sub_zero,List.drop_zero,XY,<-Vb];rw[FF (by simp),VI (by simp)]
  rfl
 erw[⟨by simp;lia,?_⟩]
 rw[cut];erw[q]
abbrev F6:SpM:=λj M Q=>∃n:Nat,j=[.int n]/\Q (.int (gray n:Nat)) M
def _ao:MonW F6:=by walk_at "m"
def Py(T:Txt K mg t):FO P w K mg base 1 "code_of" F6:=by
 erw[T.ci.ok T.g _ao 1 ["n"] (fC T f0) LU (fun j M Q h=>?_) (fun j M Q h=>?_)]
 .have⟨n,rfl,_⟩:=h;rfl
 have⟨n,rfl,q⟩:=h;show wSs _ _ _ [wc (.int n)] M;delta LU;simp!;have e:(n:Int)/2=((n/2:Nat):Int):=by lia
 rw[e,Cj];erw[q]
abbrev Pz:SpM:=λl M Q=>∃j:Nat,l=[.int j]/\j<2^60/\Q (.int (Wl j:Nat)) M
def _8z:MonW Pz:=by walk_at "m"
def _cw(T:Txt K mg t):FO P w K mg base 1 "number_of" Pz:=by
 erw[T.ax.ok T.g _8z 1 ["word","n","above"] (fC T f0) Ma (fun f M Q h=>?_) (fun f M Q h=>?_)]
 .have⟨n,rfl,_⟩:=h;rfl
 have⟨l,rfl,p,q⟩:=h;show wSs _ _ _ [wc (.int l),we,we] M;have j:∀a:Nat,(a:Int)/2=((a/2:Nat):Int):=λa=>by lia
 delta Ma;simp!;delta LZ;simp!;rw[j];delta LY;simp!;erw[⟨λm z g=>g=M/\∃n a k:Nat,a=m/\a<2^k/\ugF k n a=Wl l/\z=[wc (.int l),wc (.int n),wc (.int a)],⟨l/2,rfl,l,l/2,64,rfl,by lia,rfl,rfl⟩,?_⟩]
 rintro m z g ⟨rfl,n,a,k,rfl,d,u,rfl⟩;simp!;erw[XU (λc=>?_) (λc=>?_)]
 .delta LX;simp!;rw[Cj];delta LW;simp!;rw[j];obtain⟨y,rfl⟩:∃y,k=y+1:=⟨k - 1,by
   cases k with
   |zero=>simp at d;lia
   |succ k=>rfl⟩
  erw[⟨a/2,by lia,?_⟩]
  erw[⟨_,y,by rw[Nat.pow_succ]at d;lia,?_,rfl⟩]
  rw[ugF,if_neg (by lia)]at u
  erw[u]
 .have r:a=0:=by lia
  subst r;rw[_ip]at u;rw[u];delta LV;simp!;erw[q]
noncomputable abbrev natM:Nat->MV:=λn=>.int n
noncomputable abbrev sgnM(s:Nat×Nat×Int):MV:=.tup [.int s.1,.int s.2.1,.int s.2.2]
def Xk(j n:Nat)(s:Nat×Nat×Int)(l:List Nat):MO:=.ins "Side" [("turn",.int j),("total",.int n),("sign",sgnM s),("sight",.tup (l.map natM))]
def F7(j:List Nat):j.map natM=(j.map λn:Nat=>(n:Int)).map MV.int:=by rw[XZ];rfl
def F8(a b:Nat):(a:Int)%(b:Int)=((a%b:Nat):Int):=by lia
def PB{k n p:Nat}(j:k<4)(h:p<=n/\n<=p+1)(s m:Int)(c:Nat):(if s<m then seen (gray (p%2^(k+1))) (gray (n%2^(k+1))) c else gray (n%2^(k+1)))=gray (ZP k n p (decide (s<m)) c%2^(k+1)):=by
 unfold ZP;by_cases e:s<m
 .rw[if_pos e,_gm j (a:=n) (b:=p) (by lia)]
  by_cases f:c&&&(gray (n%2^(k+1))^^^gray (p%2^(k+1)))=0
  .rw[if_pos f,if_pos ⟨decide_eq_true e,f⟩]
  .rw[if_neg f,if_neg (λz=>f z.2)]
 .rw[if_neg e,if_neg (λz=>e (of_decide_eq_true z.1))]
abbrev Cm:SpM:=fun l M Q=>∃(a:Addr) (j st:Nat),l=[.ref a,.int j,.int st]/\M a=wc (.ins "Side" [])/\1<=st/\st<=3/\Q .non (updM M a (Xk j 0 (0,0,-1) (Xi st 0)))
def _4W:MonW Cm:=by walk_at "m"
def _8w(T:Txt K mg t):FI P w K mg base 2 "Side" Cm:=by
 erw[T.aX.oi T.ac T.ae T.g 3 ["self","turn","stages"] (fC T (fc (Py T) (fc (_ae T) (fc (Ps T) f0)))) Mn (fun l M Q h=>?_) (fun l M Q h=>?_)]
 .have⟨a,j,st,rfl,_⟩:=h;rfl
 have⟨a,j,st,rfl,u,y,z,q⟩:=h;show wSs _ _ _ [wc (.ref a),wc (.int j),wc (.int st)] M;have m:gray 0=0:=by decide
 delta Mn
 simp![u,putM]
 delta Mm
 simp![putM,YN]
 delta Ml
 simp![putM,YN]
 erw[⟨0,rfl,?_⟩]
 simp![putM,YN]
 erw[⟨_,rfl,?_⟩]
 simp![putM,YN]
 delta Mj
 simp![putM,YN]
 erw[⟨0,rfl,?_⟩]
 simp![putM,YN]
 erw[⟨_,st,rfl,y,z,?_⟩]
 simp![putM,YN]
 rw[m];have e:List.map MV.int (Xi st (((0:Nat):Int)))=(Xi st 0).map natM:=by rw[Wz,Wz]
 rw[e];erw[q]
abbrev Vv:SpM:=λj M Q=>∃(a:Addr) (l n:Nat) (s:Nat×Nat×Int) (u:List Nat),j=[.ref a]/\M a=wc (Xk l n s u)/\Q (.int s.2.2) M
def PC:MonW Vv:=by walk_at "m"
def PD(T:Txt K mg t):FM P w K mg base 1 "Side" "ring_ahead" Vv:=by
 erw[T.bV.ok T.ac T.ae 1 ["self"] (fC T f0) Mo (fun j M Q h=>?_) (fun j M Q h=>?_)]
 .have⟨a,l,n,s,u,rfl,_⟩:=h;rfl
 have⟨a,l,n,s,u,rfl,y,q⟩:=h;show wSs _ _ _ [wc (.ref a)] M;delta Mo
 simp![y,Xk,valM]
 erw[q]
abbrev Uz:SpM:=λl M Q=>∃(a:Addr) (j n:Nat) (s:Nat×Nat×Int) (y:List Nat) (u:Nat),l=[.ref a]/\M a=wc (Xk j n s (y++[u]))/\u<2^60/\0<j/\Q (.int (((n:Int) - (Wl u:Nat))%(j:Int))) M
def F9:MonW Uz:=by walk_at "m"
def PF(T:Txt K mg t):FM P w K mg base 2 "Side" "less_the_seen" Uz:=by
 erw[T.aN.ok T.ac T.ae 1 ["self"] (fC T (fc (_cw T) (fc (_lB T) f0))) Mp (fun y M Q h=>?_) (fun y M Q h=>?_)]
 .have⟨a,z,n,s,l,u,rfl,_⟩:=h;rfl
 have⟨a,z,n,s,l,u,rfl,j,m,g,q⟩:=h;show wSs _ _ _ [wc (.ref a)] M;delta Mp
 simp![j,Xk,valM]
 erw[⟨l.map (λn:Nat=>(n:Int)),(u:Int),by rw[F7,XY];rfl,?_⟩]
 simp![j,Xk,valM]
 erw[⟨u,rfl,m,?_⟩]
 simp![j,Xk,valM]
 erw[⟨by lia,q⟩]
abbrev UA:SpM:=λu M Q=>∃(a:Addr) (j n:Nat) (s:Nat×Nat×Int) (l:List Nat),u=[.ref a]/\M a=wc (Xk j n s l)/\Q .non (updM M a (Xk j (n+1) s l))
def Fa:MonW UA:=by walk_at "m"
def PH(T:Txt K mg t):FM P w K mg base 1 "Side" "grow" UA:=by
 erw[T.ce.ok T.ac T.ae 1 ["self"] (fC T f0) Mq (fun j M Q h=>?_) (fun j M Q h=>?_)]
 .have⟨a,l,n,s,u,rfl,_⟩:=h;rfl
 have⟨a,l,n,s,u,rfl,y,q⟩:=h;show wSs _ _ _ [wc (.ref a)] M;delta Mq
 simp![y,Xk,valM,putM]
 erw[q]
abbrev UB:SpM:=λy M Q=>∃(a:Addr) (j n:Nat) (s:Nat×Nat×Int) (l:List Nat) (u:Nat) (m:Int) (c:Nat) (o:Nat×Nat×Int),y=[.ref a,.int m,.int c,sgnM o]/\M a=wc (Xk j n s (l++[u]))/\l.length<=100/\0<j/\
 ∀d:Nat,(if s.2.2<o.2.2 then seen o.2.1 o.1 c else o.1)=d->Q (.int d) (updM M a (Xk j n (gray (n%j),s.1,m) (d::l)))
def Fc:MonW UB:=by walk_at "m"
def PJ(T:Txt K mg t):FM P w K mg base 3 "Side" "show_and_see" UB:=by
 erw[T.bJ.ok T.ac T.ae 4 ["self","moment","choice","other_sign","seen"] (mC T [("code_of",F6),("moved",F5),("sampled",Ar),("shown",Wn),("Side_ring_ahead",Vv)] [("Side_ring_ahead",Vv)] [(4,"Side","ring_ahead")] [] (fc (Py T) (fc (_j7 T) (fc (Pv T) (fc (Pu T) f0)))) (fMc PC nl0) (fMc ⟨_,_,rfl,fM (PD T)⟩ nl0) nl0) Mu (fun g M Q h=>?_) (fun g M Q h=>?_)]
 .have⟨a,y,n,s,l,u,m,c,o,rfl,_⟩:=h;rfl
 have⟨a,y,n,s,l,u,m,c,o,rfl,j,f,r,q⟩:=h;show wSs _ _ _ [wc (.ref a),wc (.int m),wc (.int c),wc (sgnM o),we] M;delta Mu
 simp![j,Xk,valM]
 erw[ex5 a y n s (l++[u]) ⟨rfl,j,?_⟩]
 simp![j,Xk,valM]
 erw[ex5 o.1 o.2.1 o.2.2 s.2.2 c ⟨rfl,?_⟩];obtain⟨d,hd⟩:∃d:Nat,(if s.2.2<o.2.2 then seen o.2.1 o.1 c else o.1)=d:=⟨_,rfl⟩;rw[hd];delta Mt
 simp![j,Xk,valM]
 erw[⟨by lia,?_⟩]
 rw[F8];erw[⟨_,rfl,?_⟩]
 simp![j,Xk,valM,putM]
 erw[ex5 s.1 s.2.1 s.2.2 _ m ⟨rfl,?_⟩]
 simp![j,Xk,valM,putM]
 delta Ms
 simp![j,Xk,valM,putM,YN]
 erw[ex3 (l.map (λn:Nat=>(n:Int))) (u:Int) (d:Int) ⟨by rw[F7,XY];rfl,by rw[X5];erw[f],?_⟩]
 simp![j,Xk,valM,putM,YN]
 delta Mr
 simp![j,Xk,valM,putM,YN]
 have e:MV.int (d:Int)::List.map MV.int (l.map λn:Nat=>(n:Int))=(d::l).map natM:=by rw[Xt,F7]
 have z:=q d hd;rw[Xk,<-e]at z
 simpa only[Xt]using z
noncomputable def XW(p g u:Addr):MO:=.ins "Ferry" [("places",.ref p),("giver",.ref g),("taker",.ref u)]
abbrev Xh(k n:Nat):Nat:=gray (n%2^(k+1))
noncomputable def wM:Option Nat->MV
 |we=>.non
 |wc x=>.int x
structure FyAt (M:MH)(f p g u:Addr)(A:Ab):Prop where
 ok:A.Ok
 fe:M f=wc (XW p g u)
 pls:∃pl,M p=wc (.lst (pl.map sgnM))/\PlOk A pl
 gi:M g=wc (Xk (2^(A.k+1)) A.ws.length (Xh A.k A.ws.length,Xh A.k A.gp,A.gm) (A.gx.map (Xh A.k)))
 ta:M u=wc (Xk (2^(A.k+1)) A.tn (Xh A.k A.tn,Xh A.k A.tp,A.tm) (A.tx.map (Xh A.k)))
 ne:g≠u
noncomputable def FrM(M j:MH)(l:List Addr):Prop:=∀a o,M a=wc o->a∉l->j a=wc o
def FrM.refl(M:MH)(l:List Addr):FrM M M l:=λ_ _ h _=>h
def FrM.new{M M':MH}{l:List Addr}(h:FrM M M' l){p:Addr}(j:M' p=we)(o:MO):FrM M (updM M' p o) l:=λa u e n=>by
 have:=h a u e n;rw[X7 (neM this j)];erw[this]
def FrM.upd{M M':MH}{l:List Addr}(h:FrM M M' l){p:Addr}(j:p∈l)(o:MO):FrM M (updM M' p o) l:=λa u e n=>by
 rw[X7 (λz=>n (by rw[z];erw[j]))];erw[h a u e n]
def Cn{j n:Nat}{s:Nat×Nat×Int}{l:List Nat}{p g u:Addr}:Xk j n s l≠XW p g u:=by
 intro e;unfold Xk XW at e;injection e with e1 _;erw[absurd e1 (by rw[_t];decide)]
def YQ{M:MH}{a b:Addr}{o u:MO}(l:M a=wc o)(j:M b=wc u)(n:o≠u):a≠b:=by
 intro e;subst e;rw[l]at j;cases j;erw[n rfl]
def PK{k n:Nat}(j:k<4):Xh k n<2^60/\Wl (Xh k n)=n%2^(k+1):=by
 have h:=Pn j (UN n (ZI (k+1)));erw[⟨YA h.1 (by decide),h.2.1⟩]
def PL{k:Nat}{j:List Nat}(h:1<=j.length):j.map (Xh k)=j.dropLast.map (Xh k)++[Xh k (XF j)]:=by
 have e:=Wm h;have:j.map (Xh k)=(j.dropLast++[XF j]).map (Xh k):=by rw[<-e]
 rw[this,XY];rfl
def _m0{n j:Nat}(h:j<n):ixN n (j:Int)=wc j:=by
 unfold ixN;rw[if_pos (by lia),if_pos (by lia),YT]
abbrev UC:SpM:=fun l M Q=>∃(f:Addr) (k st:Nat),l=[.ref f,.int k,.int st]/\M f=wc (.ins "Ferry" [])/\k<4/\1<=st/\st<=3/\∀p g u j,M p=we->M g=we->M u=we->FrM M j [f]->FyAt j f p g u (ab0 k st)->Q .non j
def PM:MonW UC:=by walk_at "m"
def _6Z(T:Txt K mg t):FI P w K mg base 4 "Ferry" UC:=by
 erw[T.bw.oi T.ag T.ai T.g 3 ["self","k","stages"] (mC T [("first_sign",F3),("two_to",UW),("Side___init__",Cm)] [("Side___init__",Cm)] [] [(2,"Side")] (fc (Ps T) (fc (Aq T) f0)) (fMc _4W nl0) nl0 (fMc ⟨_,_,rfl,fI (_8w T)⟩ nl0)) Mx (fun vs M Q h=>?_) (fun vs M Q h=>?_)]
 .have⟨f,k,st,rfl,_⟩:=h;rfl
 have⟨f,k,st,rfl,hM,hk,I,J,q⟩:=h;show wSs _ _ _ [wc (.ref f),wc (.int k),wc (.int st)] M;have S:∀j:Nat,((2:Int)^j)=((2^j:Nat):Int):=λj=>by rw[Vk];rfl
 have kp0:(0:Int)<=((2^k:Nat):Int):=Ul _;have k16:2^k<=8:=B9 (by lia) (by lia:k<=3)
 delta Mx
 simp![putM]
 erw[⟨0,rfl,?_⟩]
 simp![putM]
 intro F U;have W:=(FrM.refl M [f]).new U (.lst [.tup [.int 0,.int 0,.int (-1)]]);have c:updM M F (.lst [.tup [.int 0,.int 0,.int (-1)]]) f=wc (.ins "Ferry" []):=by rw[X7 (neM hM U)];erw[hM]
 have X:updM M F (.lst [.tup [.int 0,.int 0,.int (-1)]]) F=wc (.lst [.tup [.int 0,.int 0,.int (-1)]]):=Xb;generalize updM M F _=M0 at*;erw[⟨k,rfl,by lia,?_⟩]
 simp![X,S]
 rw[YT];erw[⟨by lia,by lia,by lia,λp O=>?_⟩]
 have H:M p=we:=by
  cases e:M p with
  |none=>rfl
  |some o=>
   by_cases ez:p=f
   .subst ez;rw[c]at O;cases O
   .rw[W p o e (by simpa using ez)]at O;cases O
 have v:=W.new O (.lst (Xi (2^k) [MV.tup [.int 0,.int 0,.int (-1)]]).flatten);have Y:updM M0 p (.lst (Xi (2^k) [MV.tup [.int 0,.int 0,.int (-1)]]).flatten) f=wc (.ins "Ferry" []):=by rw[X7 (neM c O)];erw[c]
 have Z:updM M0 p (.lst (Xi (2^k) [MV.tup [.int 0,.int 0,.int (-1)]]).flatten) p=wc (.lst (Xi (2^k) [MV.tup [.int 0,.int 0,.int (-1)]]).flatten):=Xb;generalize updM M0 p _=M1 at*
 simp![Y,putM]
 have A:=v.upd (Ye.mpr rfl) (.ins "Ferry" [("places",.ref p)]);have l:updM M1 f (.ins "Ferry" [("places",.ref p)]) f=wc (.ins "Ferry" [("places",.ref p)]):=Xb;have cB:updM M1 f (.ins "Ferry" [("places",.ref p)]) p=wc (.lst (Xi (2^k) [MV.tup [.int 0,.int 0,.int (-1)]]).flatten):=by rw[X7 (YQ Z Y (by intro z;cases z))];erw[Z]
 have free:∀z,updM M1 f (.ins "Ferry" [("places",.ref p)]) z=we->M z=we:=fun z d=>by
  cases e:M z with
  |none=>rfl
  |some o=>
   by_cases ez:z=f
   .subst ez;rw[l]at d;cases d
   .rw[A z o e (by simpa using ez)]at d;cases d
 generalize updM M1 f _=M2 at*;delta Mw
 simp![l,putM]
 erw[⟨k+1,rfl,by lia,?_⟩]
 simp![l,putM,S]
 intro g G;erw[ex3 g (2^(k+1)) st ⟨rfl,Xb,I,J,rfl,?_⟩];rw[YN];have s:=A.new G (Xk (2^(k+1)) 0 (0,0,-1) (Xi st 0));have r:updM M2 g (Xk (2^(k+1)) 0 (0,0,-1) (Xi st 0)) f=wc (.ins "Ferry" [("places",.ref p)]):=by rw[X7 (neM l G)];erw[l]
 have cC:updM M2 g (Xk (2^(k+1)) 0 (0,0,-1) (Xi st 0)) p=wc (.lst (Xi (2^k) [MV.tup [.int 0,.int 0,.int (-1)]]).flatten):=by rw[X7 (neM cB G)];erw[cB]
 have B:updM M2 g (Xk (2^(k+1)) 0 (0,0,-1) (Xi st 0)) g=wc (Xk (2^(k+1)) 0 (0,0,-1) (Xi st 0)):=Xb;have i:=free g G;generalize updM M2 g _=M3 at*
 simp![r,putM]
 have gf:g≠f:=YQ B r (by intro z;unfold Xk at z;injection z with z1 _;erw[absurd z1 (by rw[_t];decide)])
 have C:=s.upd (Ye.mpr rfl) (.ins "Ferry" [("places",.ref p),("giver",.ref g)]);have y:updM M3 f (.ins "Ferry" [("places",.ref p),("giver",.ref g)]) f=wc (.ins "Ferry" [("places",.ref p),("giver",.ref g)]):=Xb;have cD:updM M3 f (.ins "Ferry" [("places",.ref p),("giver",.ref g)]) p=wc (.lst (Xi (2^k) [MV.tup [.int 0,.int 0,.int (-1)]]).flatten):=by rw[X7 (YQ cC r (by intro z;cases z))];erw[cC]
 have m:updM M3 f (.ins "Ferry" [("places",.ref p),("giver",.ref g)]) g=wc (Xk (2^(k+1)) 0 (0,0,-1) (Xi st 0)):=by rw[X7 gf];erw[B]
 generalize updM M3 f _=M4 at*;have L:∀z,M4 z=we->M z=we:=λz d=>by
  cases e:M z with
  |none=>rfl
  |some o=>
   by_cases ez:z=f
   .subst ez;rw[y]at d;cases d
   .rw[C z o e (by simpa using ez)]at d;cases d
 delta Mv
 simp![y,putM]
 erw[⟨k+1,rfl,by lia,?_⟩]
 simp![y,putM,S]
 intro u R;erw[ex3 u (2^(k+1)) st ⟨rfl,Xb,I,J,rfl,?_⟩];rw[YN];have n:=C.new R (Xk (2^(k+1)) 0 (0,0,-1) (Xi st 0));have N:updM M4 u (Xk (2^(k+1)) 0 (0,0,-1) (Xi st 0)) f=wc (.ins "Ferry" [("places",.ref p),("giver",.ref g)]):=by rw[X7 (neM y R)];erw[y]
 have cE:updM M4 u (Xk (2^(k+1)) 0 (0,0,-1) (Xi st 0)) p=wc (.lst (Xi (2^k) [MV.tup [.int 0,.int 0,.int (-1)]]).flatten):=by rw[X7 (neM cD R)];erw[cD]
 have D:updM M4 u (Xk (2^(k+1)) 0 (0,0,-1) (Xi st 0)) g=wc (Xk (2^(k+1)) 0 (0,0,-1) (Xi st 0)):=by rw[X7 (neM m R)];erw[m]
 have E:updM M4 u (Xk (2^(k+1)) 0 (0,0,-1) (Xi st 0)) u=wc (Xk (2^(k+1)) 0 (0,0,-1) (Xi st 0)):=Xb;have gu:=neM m R;have x:=L u R;generalize updM M4 u _=M5 at*
 simp![N,putM]
 have uf:u≠f:=YQ E N (by intro z;unfold Xk at z;injection z with z1 _;erw[absurd z1 (by rw[_t];decide)])
 have b:=n.upd (Ye.mpr rfl) (XW p g u);have g0:gray 0=0:=by decide
 have a:∀j,Xh j 0=0:=λj=>by unfold Xh;rw[Nat.zero_mod,g0]
 have gr:(Xi st 0).map (Xh k)=Xi st 0:=by rw[Wz,a]
 erw[q p g u _ H i x b ⟨_p4 hk I J,Xb,⟨Xi (2^k) (0,0,-1),?_,by simp[ab0],λj hj=>absurd hj (by simp[ab0])⟩,?_,?_,gu⟩]
 .rw[X7 (YQ cE N (by intro z;cases z)),cE,F4,Wz]
  rfl
 .rw[X7 gf,D];show wc (Xk _ 0 (0,0,-1) _)=wc (Xk (2^(k+1)) 0 (Xh k 0,Xh k 0,-1) ((Xi st 0).map (Xh k)));rw[a,gr]
 .rw[X7 uf,E];show wc (Xk _ 0 (0,0,-1) _)=wc (Xk (2^(k+1)) 0 (Xh k 0,Xh k 0,-1) ((Xi st 0).map (Xh k)));rw[a,gr]
abbrev Vw:SpM:=λy M Q=>∃(f p g u:Addr) (A:Ab) (m:Int) (c:Nat) (x:Option Nat),y=[.ref f,.int m,.int c,wM x]/\FyAt M f p g u A/\A.gm<m/\A.tm<m/\
 ∀l j,M l=we->FrM M j [f,g,u]->FyAt j f l g u (A.giver m c x)->Q (.tup [.bl (A.gives x),.int (Xh A.k (A.gSamp c):Nat)]) j
def _3x:MonW Vw:=by walk_at "m"
def _5P(T:Txt K mg t):FM P w K mg base 4 "Ferry" "ring_giver" Vw:=by
 erw[T.bD.ok T.ag T.ai 4 ["self","moment","choice","word","words","gives"] (mC T [("shown",Wn),("Side_grow",UA),("Side_less_the_seen",Uz),("Side_show_and_see",UB)] [("Side_grow",UA),("Side_less_the_seen",Uz),("Side_show_and_see",UB)] [(1,"Side","grow"),(2,"Side","less_the_seen"),(3,"Side","show_and_see")] [] (fc (Pu T) f0) (fMc Fa (fMc F9 (fMc Fc nl0))) (fMc ⟨_,_,rfl,fM (PH T)⟩ (fMc ⟨_,_,rfl,fM (PF T)⟩ (fMc ⟨_,_,rfl,fM (PJ T)⟩ nl0))) nl0) ME (fun vs M Q h=>?_) (fun vs M Q h=>?_)]
 .have⟨f,p,g,u,A,m,c,x,rfl,_⟩:=h;rfl
 have⟨f,p,g,u,A,m,c,x,rfl,I,h1,h2,q⟩:=h;have hf:=I.fe;have⟨j,hp,hpl⟩:=I.pls;have hg:=I.gi;have hu:=I.ta;have ok:=I.ok;have hΦ:=(_6 (u:=[("shown",Wn),("Side_grow",UA),("Side_less_the_seen",Uz),("Side_show_and_see",UB)]) (fMc Pt (fMc Fa (fMc F9 (fMc Fc nl0)))));have kpos:0<2^A.k:=ZI _;have k8:2^A.k<=8:=B9 (by lia) (by have:=ok.k4;lia:A.k<=3)
 have pll:j.length=2^A.k:=hpl.1;have gs:=PK (n:=XF A.gx) ok.k4;have eg:=PL (k:=A.k) ok.gl.1;have gf:g≠f:=YQ hg hf Cn;have uf:u≠f:=YQ hu hf Cn;have W:∀(M1:MH)(D:Addr)(n:Nat),FrM M M1 [f,g,u]->M1 f=wc (XW p g u)->M1 p=wc (.lst (j.map sgnM))->M1 u=M u->M1 g=wc (Xk (2^(A.k+1)) n (Xh A.k A.ws.length,Xh A.k A.gp,A.gm) (A.gx.map (Xh A.k)))->n=(A.giver m c x).ws.length->
   M1 D=wc (.lst ((Xq j.length).map λi=>MV.int ((if A.gives x=wf/\i=A.ws.length%2^A.k then x.getD 0 else(j.getD i (0,0,0)).1:Nat):Int)))->
   wSs ([("shown",Wn),("Side_grow",UA),("Side_less_the_seen",Uz),("Side_show_and_see",UB)]:List (Str×SpM)) Et {nx:=fun _ M'=>Q .non M',rt:=Q} [wc (.ref f),wc (.int m),wc (.int c),wc (wM x),wc (.ref D),wc (.bl (A.gives x))] M1:=by
  intro M1 D n fr N C Y L hn O;delta Et;simp!;erw[_O (Xq j.length) (λi=>.int (0+(i:Nat))) (λi=>sgnM ((if A.gives x=wf/\i=A.ws.length%2^A.k then x.getD 0 else(j.getD i (0,0,0)).1),(j.getD i (0,0,0)).1,m)) ?_ ?_ hΦ λr l=>?_]
  .simp![O,X5,Ud]
   rw[YT];erw[⟨by lia,by lia,rfl,by lia,trivial⟩]
  .intro i E M' s;have E:i<j.length:=by simpa using E
   have f':=s _ _ N;have p':=s _ _ C;have d':=s _ _ O;simp only[sCm,Xt,Yb,YK,Yr,Yz,Yk];have a1:atI (j.map sgnM) (0+(i:Int))=wc (sgnM (j.getD i (0,0,0))):=by
    rw[Um];erw[Yl ?_];rw[Xe,X6 E,Y1,X6 E];rfl
   have a2:atI ((Xq j.length).map λi=>MV.int ((if A.gives x=wf/\i=A.ws.length%2^A.k then x.getD 0 else(j.getD i (0,0,0)).1:Nat):Int)) (0+(i:Int))=wc (.int ((if A.gives x=wf/\i=A.ws.length%2^A.k then x.getD 0 else(j.getD i (0,0,0)).1:Nat):Int)):=by
    rw[Um];erw[Yl ?_];rw[Xe,Wy E];rfl
   simp![f',p',d',a1,a2,XW,valM]
   erw[ex5 _ _ _ _ _ ⟨rfl,rfl,rfl⟩]
  have md2:M r=we:=by
   cases e:M r with
   |none=>rfl
   |some o=>
    by_cases e1:r=f
    .subst e1;rw[N]at l;cases l
    .by_cases e2:r=g
     .subst e2;rw[L]at l;cases l
     .by_cases e3:r=u
      .subst e3;rw[Y,hu]at l;cases l
      .rw[fr r o e (by simp[e1,e2,e3])]at l;cases l
  have F:=fr.new l (.lst ((Xq j.length).map λi=>sgnM ((if A.gives x=wf/\i=A.ws.length%2^A.k then x.getD 0 else(j.getD i (0,0,0)).1),(j.getD i (0,0,0)).1,m)));have hpl2:(Xq j.length).map (λi=>sgnM ((if A.gives x=wf/\i=A.ws.length%2^A.k then x.getD 0 else(j.getD i (0,0,0)).1),(j.getD i (0,0,0)).1,m))=(YW A m x j).map sgnM:=by
   unfold YW;rw[XZ];rfl
  rw[hpl2]at F ⊢;have hf2:updM M1 r (.lst ((YW A m x j).map sgnM)) f=wc (XW p g u):=by rw[X7 (neM N l)];erw[N]
  have hg2:updM M1 r (.lst ((YW A m x j).map sgnM)) g=wc (Xk (2^(A.k+1)) n (Xh A.k A.ws.length,Xh A.k A.gp,A.gm) (A.gx.map (Xh A.k))):=by rw[X7 (neM L l)];erw[L]
  have hu2:updM M1 r (.lst ((YW A m x j).map sgnM)) u=M u:=by rw[X7 (neM (Y.trans hu) l)];erw[Y]
  have hd2:updM M1 r (.lst ((YW A m x j).map sgnM)) r=wc (.lst ((YW A m x j).map sgnM)):=Xb;generalize updM M1 r _=M2 at*
  simp![hf2,XW,putM]
  have fr3:=F.upd (p:=f) (by simp) (XW r g u)
  have S:updM M2 f (XW r g u) f=wc (XW r g u):=Xb;have Z:updM M2 f (XW r g u) g=wc (Xk (2^(A.k+1)) n (Xh A.k A.ws.length,Xh A.k A.gp,A.gm) (A.gx.map (Xh A.k))):=by rw[X7 gf];erw[hg2]
  have G:updM M2 f (XW r g u) u=M u:=by rw[X7 uf];erw[hu2]
  have X:updM M2 f (XW r g u) r=wc (.lst ((YW A m x j).map sgnM)):=by rw[X7 (YQ hd2 hf2 (by intro z;cases z))];erw[hd2]
  rw[XW]at fr3 S Z G X;generalize updM M2 f _=M3 at*;delta Mz;rw[hu]at G
  simp![S,Z,G,Xk,valM]
  rw[eg]at Z;erw[ex9 g (2^(A.k+1)) n (Xh A.k A.ws.length,Xh A.k A.gp,A.gm) (A.gx.dropLast.map (Xh A.k)) (Xh A.k (XF A.gx)) m c (Xh A.k A.tn,Xh A.k A.tp,A.tm) ⟨rfl,Z,?_,ZI _,?_⟩]
  .have:=ok.gl;rw[X5,Va];lia
  intro d hd;have ed:d=Xh A.k (A.gSamp c):=by
   rw[<-hd];erw[PB ok.k4 ok.t1 _ _ c]
  simp![ed]
  have fr4:=fr3.upd (p:=g) (by simp) (Xk (2^(A.k+1)) n (gray (n%2^(A.k+1)),Xh A.k A.ws.length,m) (d::A.gx.dropLast.map (Xh A.k)))
  rw[ed]at fr4;erw[q r _ md2 fr4 ⟨ok.giver h2,?_,⟨YW A m x j,?_,_ff hpl⟩,?_,?_,I.ne⟩]
  .rw[X7 gf.symm];erw[S]
  .rw[X7 (YQ X Z (by intro z;unfold Xk at z;cases z))];erw[X]
  .rw[Xb];show _=wc (Xk (2^(A.k+1)) (A.giver m c x).ws.length (Xh A.k (A.giver m c x).ws.length,Xh A.k A.ws.length,m) ((A.gSamp c::A.gx.dropLast).map (Xh A.k)));rw[<-hn];rfl
  .rw[X7 I.ne.symm];erw[G]
 show wSs _ _ _ [wc (.ref f),wc (.int m),wc (.int c),wc (wM x),we,we] M;delta ME;simp!;erw[_O j sgnM (λs=>.int s.1) ?_ ?_ hΦ λD O=>?_]
 .simp![hf,hp,XW,valM]
  erw[⟨rfl,by lia,hp⟩]
 .intro s hs M' same;simp only[sCm,Xt,Yb,YK,Yr,Yz,Yk];simp!
 have H:=(FrM.refl M [f,g,u]).new O (.lst (j.map λs=>MV.int s.1));have B:updM M D (.lst (j.map λs=>MV.int s.1)) f=wc (XW p g u):=by rw[X7 (neM hf O)];erw[hf]
 have v:updM M D (.lst (j.map λs=>MV.int s.1)) p=wc (.lst (j.map sgnM)):=by rw[X7 (neM hp O)];erw[hp]
 have R:updM M D (.lst (j.map λs=>MV.int s.1)) g=wc (Xk (2^(A.k+1)) A.ws.length (Xh A.k A.ws.length,Xh A.k A.gp,A.gm) (A.gx.map (Xh A.k))):=by rw[X7 (neM hg O)];erw[hg]
 have b:updM M D (.lst (j.map λs=>MV.int s.1)) u=M u:=by rw[X7 (neM hu O)]
 have U:updM M D (.lst (j.map λs=>MV.int s.1)) D=wc (.lst (j.map λs=>MV.int s.1)):=Xb;generalize updM M D _=M0 at*;have no:¬A.gives x=wf->j.map (λs=>MV.int s.1)=(Xq j.length).map λi=>MV.int ((if A.gives x=wf/\i=A.ws.length%2^A.k then x.getD 0 else(j.getD i (0,0,0)).1:Nat):Int):=λz=>by
  erw[AW (by simp) λi h1 h2=>?_]
  have E:i<j.length:=by simpa using h1
  simp[z,E]
 delta MD;cases x with
 |none=>
  have z:¬A.gives we=wf:=by simp[Ab.gives]
  have z':A.gives we=wg:=by simpa using z
  simp![wM]
  delta Eu
  simp![true_and]
  rw[no z]at U;have J:=W M0 D A.ws.length H B v b R (by unfold Ab.giver;rw[if_neg z]) U
  rw[z',wM]at J;erw[J]
 |some y=>
  have cF:=R;rw[eg]at cF
  simp![wM,B,R,XW,Xk,valM]
  erw[ex6 g _ _ _ _ _ ⟨rfl,cF,gs.1,ZI _,?_⟩]
  simp![U]
  rw[gs.2,X5,pll];have er:decide ((((A.ws.length:Int) - ((XF A.gx%2^(A.k+1):Nat):Int))%((2^(A.k+1):Nat):Int)<((2^A.k:Nat):Int)))=A.gives (wc y):=by
   unfold Ab.gives;simp only[Option.isSome_some,Bj];erw[decide_eq_decide.mpr (_iK ok)]
  rw[er];delta Eu;cases z:A.gives (wc y)with
  |false=>
   simp![true_and]
   rw[no (by rw[z];erw[XD])]at U
   have J:=W M0 D A.ws.length H B v b R (by unfold Ab.giver;rw[if_neg (by rw[z];erw[XD])]) U
   rw[z,wM]at J;erw[J]
  |true=>
   simp![true_and]
   delta MC
   simp![wM,B,R,U,XW,Xk,valM,X5]
   rw[pll,F8];erw[⟨by lia,A.ws.length%2^A.k,_m0 (UN _ kpos),?_⟩]
   have fr1:FrM M (updM M0 D (.lst ((j.map λs=>MV.int s.1).set (A.ws.length%2^A.k) (.int y)))) [f,g,u]:=λa o e n=>by
    rw[X7 (neM e O)];erw[H a o e n]
   have eset:(j.map λs=>MV.int s.1).set (A.ws.length%2^A.k) (.int y)=(Xq j.length).map λi=>MV.int ((if A.gives (wc y)=wf/\i=A.ws.length%2^A.k then(wc y).getD 0 else(j.getD i (0,0,0)).1:Nat):Int):=by
    erw[AW (by simp) λi h1 h2=>?_]
    have E:i<j.length:=by simpa using h1
    rw[CZ];by_cases e:A.ws.length%2^A.k=i
    .subst e;rw[if_pos rfl];simp[z]
    .rw[if_neg e];have e2:¬(A.gives (wc y)=wf/\i=A.ws.length%2^A.k):=λw=>e w.2.symm;simp[e2,E]
   rw[eset]at fr1 ⊢;have N:updM M0 D (.lst ((Xq j.length).map λi=>MV.int ((if A.gives (wc y)=wf/\i=A.ws.length%2^A.k then(wc y).getD 0 else(j.getD i (0,0,0)).1:Nat):Int))) f=wc (XW p g u):=by rw[X7 (neM hf O)];erw[B]
   have C:updM M0 D (.lst ((Xq j.length).map λi=>MV.int ((if A.gives (wc y)=wf/\i=A.ws.length%2^A.k then(wc y).getD 0 else(j.getD i (0,0,0)).1:Nat):Int))) p=wc (.lst (j.map sgnM)):=by rw[X7 (neM hp O)];erw[v]
   have L:updM M0 D (.lst ((Xq j.length).map λi=>MV.int ((if A.gives (wc y)=wf/\i=A.ws.length%2^A.k then(wc y).getD 0 else(j.getD i (0,0,0)).1:Nat):Int))) g=wc (Xk (2^(A.k+1)) A.ws.length (Xh A.k A.ws.length,Xh A.k A.gp,A.gm) (A.gx.map (Xh A.k))):=by rw[X7 (neM hg O)];erw[R]
   have Y:updM M0 D (.lst ((Xq j.length).map λi=>MV.int ((if A.gives (wc y)=wf/\i=A.ws.length%2^A.k then(wc y).getD 0 else(j.getD i (0,0,0)).1:Nat):Int))) u=M u:=by rw[X7 (neM hu O)];erw[b]
   have hd1:updM M0 D (.lst ((Xq j.length).map λi=>MV.int ((if A.gives (wc y)=wf/\i=A.ws.length%2^A.k then(wc y).getD 0 else(j.getD i (0,0,0)).1:Nat):Int))) D=wc (.lst ((Xq j.length).map λi=>MV.int ((if A.gives (wc y)=wf/\i=A.ws.length%2^A.k then(wc y).getD 0 else(j.getD i (0,0,0)).1:Nat):Int))):=Xb;generalize updM M0 D _=M1 at*;delta MA
   simp![N,L,XW,Xk,valM]
   erw[ex5 g _ _ _ _ ⟨rfl,L,?_⟩];have F:=fr1.upd (p:=g) (by simp) (Xk (2^(A.k+1)) (A.ws.length+1) (Xh A.k A.ws.length,Xh A.k A.gp,A.gm) (A.gx.map (Xh A.k)))
   have J:=W _ D (A.ws.length+1) F (by rw[X7 gf.symm];erw[N]) (by rw[X7 (YQ C L (by intro z;unfold Xk at z;cases z))];erw[C]) (by rw[X7 I.ne.symm];erw[Y]) Xb
    (by unfold Ab.giver;rw[if_pos z];simp) (by rw[X7 (YQ hd1 L (by intro z;unfold Xk at z;cases z))];erw[hd1])
   rw[z,wM]at J;erw[J]
noncomputable def takM(A:Ab)(x:Bool):MV:=if A.takes x=wf then .int (A.ws.getD A.tn 0:Nat)else .non
abbrev Wo:SpM:=λl M Q=>∃(f p g u:Addr) (A:Ab) (m:Int) (c:Nat) (x:Bool),l=[.ref f,.int m,.int c,.bl x]/\FyAt M f p g u A/\A.gm<m/\A.tm<m/\
 ∀j,FrM M j [f,g,u]->FyAt j f p g u (A.taker m c x)->Q (.tup [takM A x,.int (Xh A.k (A.tSamp c):Nat)]) j
def _3w:MonW Wo:=by walk_at "m"
set_option tactic.hygienic true in
def _5O(T:Txt K mg t):FM P w K mg base 4 "Ferry" "ring_taker" Wo:=by
 erw[T.aE.ok T.ag T.ai 4 ["self","moment","choice","wished","word","place"] (mC T [("sampled",Ar),("Side_grow",UA),("Side_less_the_seen",Uz),("Side_ring_ahead",Vv),("Side_show_and_see",UB)] [("Side_grow",UA),("Side_less_the_seen",Uz),("Side_ring_ahead",Vv),("Side_show_and_see",UB)] [(1,"Side","grow"),(2,"Side","less_the_seen"),(3,"Side","ring_ahead"),(4,"Side","show_and_see")] [] (fc (Pv T) f0) (fMc Fa (fMc F9 (fMc PC (fMc Fc nl0)))) (fMc ⟨_,_,rfl,fM (PH T)⟩ (fMc ⟨_,_,rfl,fM (PF T)⟩ (fMc ⟨_,_,rfl,fM (PD T)⟩ (fMc ⟨_,_,rfl,fM (PJ T)⟩ nl0)))) nl0) MK (fun a M Q h=>?_) (fun a M Q h=>?_)]
 .have⟨f,p,g,u,A,m,c,x,rfl,_⟩:=h;rfl
 have⟨f,p,g,u,A,m,c,x,rfl,r,h1,h2,q⟩:=h;have y:=r.fe;have⟨B,W,N⟩:=r.pls;have J:=r.gi;have j:=r.ta;have ok:=r.ok;have S:0<2^A.k:=ZI _;have k8:2^A.k<=8:=B9 (by lia) (by have:=ok.k4;lia:A.k<=3)
 have D:B.length=2^A.k:=N.1;have X:=PK (n:=XF A.tx) ok.k4;have E:1<=A.tx.length:=by rw[ok.tl];erw[ok.gl.1]
 have H:=PL (k:=A.k) E;have gf:g≠f:=YQ J y Cn;have v:u≠f:=YQ j y Cn;have up:u≠p:=YQ j W (by intro z;unfold Xk at z;cases z)
 have l:∀(M1:MH)(n:Nat)(o:Option MV),FrM M M1 [f,g,u]->M1 f=wc (XW p g u)->M1 p=wc (.lst (B.map sgnM))->M1 g=M g->M1 u=wc (Xk (2^(A.k+1)) n (Xh A.k A.tn,Xh A.k A.tp,A.tm) (A.tx.map (Xh A.k)))->n=(A.taker m c x).tn->
   wSs ([("sampled",Ar),("Side_grow",UA),("Side_less_the_seen",Uz),("Side_ring_ahead",Vv),("Side_show_and_see",UB)]:List (Str×SpM)) Ev {nx:=fun _ M'=>Q .non M',rt:=Q} [wc (.ref f),wc (.int m),wc (.int c),wc (.bl x),wc (takM A x),o] M1:=by
  intro M1 n o fr Y F O R hn;rw[J]at O;delta Ev
  simp![Y,R,O,XW,Xk,valM]
  rw[H]at R;erw[ex9 u (2^(A.k+1)) n (Xh A.k A.tn,Xh A.k A.tp,A.tm) (A.tx.dropLast.map (Xh A.k)) (Xh A.k (XF A.tx)) m c (Xh A.k A.ws.length,Xh A.k A.gp,A.gm) ⟨rfl,R,?_,ZI _,?_⟩]
  .have:=ok.gl;have:=ok.tl;rw[X5,Va];lia
  intro d hd;have s:d=Xh A.k (A.tSamp c):=by
   rw[<-hd];erw[PB ok.k4 ok.g1 _ _ c]
  simp![s]
  have Z:=fr.upd (p:=u) (by simp) (Xk (2^(A.k+1)) n (gray (n%2^(A.k+1)),Xh A.k A.tn,m) (d::A.tx.dropLast.map (Xh A.k)))
  rw[s]at Z;erw[q _ Z ⟨ok.taker h1,?_,⟨B,?_,N⟩,?_,?_,r.ne⟩]
  .rw[X7 v.symm];erw[Y]
  .rw[X7 up.symm];erw[F]
  .rw[X7 r.ne];erw[O]
  .rw[Xb];show _=wc (Xk (2^(A.k+1)) (A.taker m c x).tn (Xh A.k (A.taker m c x).tn,Xh A.k A.tn,m) ((A.tSamp c::A.tx.dropLast).map (Xh A.k)));rw[<-hn];rfl
 show wSs _ _ _ [wc (.ref f),wc (.int m),wc (.int c),wc (.bl x),we,we] M;delta MK;simp!;delta MJ;cases x with
 |false=>
  have z:¬A.takes wg=wf:=by simp[Ab.takes]
  simp![true_and]
  have L:=l M A.tn we (FrM.refl _ _) y W rfl j (by unfold Ab.taker;rw[if_neg z])
  rw[takM,if_neg z]at L;erw[L]
 |true=>
  have i:=j;rw[H]at i
  simp![y,j,XW,Xk,valM]
  erw[ex6 u _ _ _ _ _ ⟨rfl,i,X.1,ZI _,?_⟩]
  simp![true_and]
  rw[X.2];erw[XU (λU=>?_) (λU=>?_)]
  .have b:XF A.tx≠A.tn:=λe=>U ((Pq ok).mpr e);have z:A.takes wf=wf:=by unfold Ab.takes;simpa using b
   have⟨hj,C,ha,hb⟩:=_g2 ok N b;delta MI
   simp![y,j,W,XW,Xk,valM,X5]
   rw[D,F8];have a1:atI (B.map sgnM) ((A.tn%2^A.k:Nat):Int)=wc (sgnM (A.ws[A.tn],C,A.gm)):=by
    erw[Yl ?_];rw[Xe,ha];rfl
   erw[⟨by lia,_,a1,?_⟩]
   delta MG
   simp![y,j,XW,Xk,valM]
   erw[ex5 u _ _ _ _ ⟨rfl,j,?_⟩]
   simp![true_and]
   erw[ex5 (A.ws[A.tn]) C A.gm A.tm c ⟨rfl,?_⟩];have ew:(if A.tm<A.gm then seen C A.ws[A.tn] c else A.ws[A.tn])=A.ws[A.tn]:=by
    split
    .rename_i w;rw[hb w,_gl]
    .rfl
   rw[ew];delta MF
   simp![y,j,XW,Xk,valM]
   erw[ex5 u _ _ _ _ ⟨rfl,j,?_⟩];have G:=(FrM.refl M [f,g,u]).upd (p:=u) (by simp) (Xk (2^(A.k+1)) (A.tn+1) (Xh A.k A.tn,Xh A.k A.tp,A.tm) (A.tx.map (Xh A.k)))
   have L:=l _ (A.tn+1) (wc (sgnM (A.ws[A.tn],C,A.gm))) G (by rw[X7 v.symm];erw[y]) (by rw[X7 up.symm];erw[W]) (by rw[X7 r.ne]) Xb (by unfold Ab.taker;rw[if_pos z])
   have I:A.ws.getD A.tn 0=A.ws[A.tn]:=by rw[Y1,X6 hj];rfl
   rw[takM,if_pos z,I]at L;erw[L]
  .have e:XF A.tx=A.tn:=(Pq ok).mp (Decidable.not_not.mp U);have z:¬A.takes wf=wf:=by unfold Ab.takes;simpa using e
   have L:=l M A.tn we (FrM.refl _ _) y W rfl j (by unfold Ab.taker;rw[if_neg z])
   rw[takM,if_neg z]at L;erw[L]
def FrM.trans{M M1 M2:MH}{l:List Addr}(a:FrM M M1 l)(b:FrM M1 M2 l):FrM M M2 l:=λc o h n=>b c o (a c o h n) n
def FyAt.same{M y:MH}{f p g u:Addr}{A:Ab}(h:FyAt M f p g u A)(s:∀a o,M a=wc o->(∀j,o=.lst j->a=p)->y a=wc o):FyAt y f p g u A:=by
 have⟨m,d,l⟩:=h.pls;erw[⟨h.ok,s _ _ h.fe (λj z=>by cases z),⟨m,s _ _ d (λj _=>rfl),l⟩,s _ _ h.gi (λj z=>by cases z),s _ _ h.ta (λj z=>by cases z),h.ne⟩]
def FyAt.put{M:MH}{f p g u q:Addr}{A:Ab}{xs:List MV}(h:FyAt M f p g u A)(j:M q=wc (.lst xs))(n:q≠p)(l:List MV):FyAt (updM M q (.lst l)) f p g u A:=h.same λa o e z=>by
 by_cases w:a=q
 .subst w;rw[j]at e;cases e;erw[absurd (z xs rfl) n]
 .rw[X7 w];erw[e]
def PN{M:MH}{f p g u q:Addr}{A:Ab}{l:List MV}(h:FyAt M f p g u A)(j:M q=wc (.lst l)):q∉ [f,g,u]:=by
 intro z;rcases Xj.mp z with rfl|z
 .rw[h.fe]at j;cases j
 rcases Xj.mp z with rfl|z
 .rw[h.gi]at j;cases j
 rcases Xj.mp z with rfl|z
 .rw[h.ta]at j;cases j
 .cases z
noncomputable abbrev Wp:SpM:=λl M Q=>∃(j:List Int) (k:Nat),l=[.frl (j.map .int),.int k]/\Q (.int (j.getD k 0)) M
def PP:MonW Wp:=by walk_at "m"
def PQ(T:Txt K mg t):FO P w K mg base 1 "_law_cell_at" Wp:=by
 erw[T.bj.ok T.g PP 2 ["script","k"] (fC T f0) Nz (fun u M Q h=>?_) (fun u M Q h=>?_)]
 .have⟨j,k,rfl,_⟩:=h;rfl
 have⟨j,k,rfl,q⟩:=h;show wSs _ _ _ [wc (.frl (j.map .int)),wc (.int k)] M;delta Nz;simp!;erw[XU (λc=>?_) (λc=>?_)]
 .rw[X5]at c;have l:k<j.length:=by lia
  delta Ny;simp!;have e:j.getD k 0=j[k]:=by simp[Y1,l]
  rw[e]at q;erw[⟨_,Yl (by rw[Xe,X6 l];rfl),q⟩]
 .rw[X5]at c;have e:j.getD k 0=0:=by simp[Y1,CO.mpr (show j.length<=k by lia)]
  rw[e]at q;delta Nw;simp!;erw[q]
noncomputable def alph:Str:="abcdefghijklmnopqrstuvwxyz"
def _jK:alph.cps.toList.length=26:=by decide+kernel
def _ii:alph.length<=16777216:=by decide+kernel
def _mL{i:Int}(l:0<=i)(y:i<26):∃c,atI alph.cps.toList i=wc c:=by
 have u:i.toNat<alph.cps.toList.length:=by rw[_jK];lia
 erw[⟨alph.cps.toList[i.toNat],?_⟩];have:=Yl (l:=alph.cps.toList) (j:=i.toNat) (X6 u)
 rwa [UQ l]at this
def Fe(a:Int):∃c,atI alph.cps.toList (a%26)=wc c:=_mL (ZL _ (by decide)) (ZY _ (by decide))
def PR(c:Nat):(⟨#[c]⟩:Str).length=1:=rfl
def _mJ(a b:Str):(a++b).length=a.length+b.length:=by
 show(a.cps++b.cps).size=_;rw[Array.size_append]
 rfl
def ltr(i:Int):Str:=match atI alph.cps.toList i with
 |wc c=>⟨#[c]⟩
 |we=>VY
def Yu(n k:Int):Str:=if n%3=2 then Txt.mul (ltr (n/192%26)) (1+(3*k+n/192)%7)++Txt.mul (ltr ((n/192%26+1+n/4992%25)%26)) (k/7)
 else Txt.mul (ltr (n/192%26)) (n/24%8%(1+n/3%8))++ltr ((n/4992+7*k)%26)++Txt.mul (ltr (n/192%26)) (1+n/3%8 - 1 - n/24%8%(1+n/3%8))
abbrev Wq:SpM:=λj M Q=>∃(n k:Int),j=[.int n,.int k]/\0<=k/\k<=50/\Q (.str (Yu n k)) M
def _8D:MonW Wq:=by walk_at "m"
def PU(T:Txt K mg t):FO P w K mg base 1 "_law_name" Wq:=by
 erw[T.bp.ok T.g _8D 2 ["number","k","letters","fill","other","long","at","sign"] (fC T f0) NI (fun L M Q h=>?_) (fun L M Q h=>?_)]
 .have⟨n,k,rfl,_⟩:=h;rfl
 have⟨n,k,rfl,N,O,q⟩:=h;show wSs _ _ _ [wc (.int n),wc (.int k),we,we,we,we,we,we] M;delta NI;simp!;delta NH;simp!;delta NG;simp!;have y:=_ii;have⟨u,g⟩:=Fe (n/192);have R:ltr (n/192%26)=⟨#[u]⟩:=by unfold ltr;rw[g]
 unfold Yu at q;rw[R]at q;erw[XU (λc=>?_) (λc=>?_)]
 .rw[if_pos c]at q;delta NF;simp!;have⟨d,r⟩:=Fe ((n/192%26+1+n/4992%25));have U:ltr ((n/192%26+1+n/4992%25)%26)=⟨#[d]⟩:=by unfold ltr;rw[r]
  rw[U]at q;erw[⟨y,d,r,?_⟩];delta NE;simp!;erw[⟨y,u,g,?_⟩];have W:=BK (z:=⟨#[u]⟩) (i:=1+(3*k+n/192)%7) 8 (by lia) (X9 1)
  have Y:=BK (z:=⟨#[d]⟩) (i:=k/7) 8 (by lia) (X9 1)
  simp only[PR];erw[⟨by decide,by lia,by lia,by decide,by lia,by lia,by lia,q⟩]
 .rw[if_neg c]at q;obtain⟨lo,m⟩:∃lo:Int,1+n/3%8=lo:=⟨_,rfl⟩;have⟨p,e⟩:=Fe ((n/4992+7*k));have Z:ltr ((n/4992+7*k)%26)=⟨#[p]⟩:=by unfold ltr;rw[e]
  rw[Z,m]at q;delta ND;simp!;rw[m];delta NC;simp!;have f:(0:Int)<lo:=by lia
  erw[⟨f,?_⟩];obtain⟨j,l⟩:∃j:Int,n/24%8%lo=j:=⟨_,rfl⟩;have A:0<=j:=by rw[<-l];erw[ZL _ (Int.ne_of_gt f)]
  have B:j<lo:=by rw[<-l];erw[ZY _ f]
  rw[l]at q;rw[l];delta NB;simp!;erw[⟨y,p,e,?_⟩];delta NA;simp!;have W:=BK (z:=⟨#[u]⟩) (i:=j) 8 (by lia) (X9 1)
  have Y:=BK (z:=⟨#[u]⟩) (i:=lo - 1 - j) 8 (by lia) (X9 1)
  erw[⟨y,u,g,?_⟩];simp only[PR,_mJ];erw[⟨by decide,by lia,by lia,by lia,y,u,g,by decide,by lia,by lia,by lia,q⟩]
theorem PV(c:Nat):∀(k:Nat)(j:Array Nat),((Xi k #[c]).foldl (·++·) j).toList=j.toList++Xi k c
 |0,j=>by simp
 |k+1,j=>by
  rw[Zo,Ve,PV c k,Array.toList_append,Vb,Zo];rfl
def mul_one(c:Nat)(i:Int):(Txt.mul (⟨#[c]⟩:Str) i).cps.toList=Xi i.toNat c:=by
 unfold Txt.mul;by_cases h:i<1
 .rw[if_pos h];have:i.toNat=0:=by lia
  rw[this];rfl
 rw[if_neg h];by_cases h2:(i==1||(⟨#[c]⟩:Str).length==0)=wf
 .rw[if_pos h2];rcases(Dd _ _).mp h2 with e|e
  .have:i=1:=by simpa using e
   subst this;rfl
  .have:(⟨#[c]⟩:Str).length=0:=by simpa using e
   cases this
 .rw[if_neg h2];show((Xi i.toNat #[c]).foldl (·++·) #[]).toList=_;rw[PV];rfl
def _mK:alph.cps.toList=(Xq 26).map (97+·):=by decide+kernel
def _oq{i:Int}(l:0<=i)(y:i<26):ltr i=⟨#[97+i.toNat]⟩:=by
 unfold ltr;have u:i.toNat<26:=by lia
 have e:atI alph.cps.toList i=wc (97+i.toNat):=by
  have:=Yl (l:=alph.cps.toList) (j:=i.toNat) (v:=97+i.toNat) (by rw[_mK,Xe,Wy u];rfl)
  rwa [UQ l]at this
 rw[e]
def Co(a:Int):ltr (a%26)=⟨#[97+(a%26).toNat]⟩:=_oq (ZL _ (by decide)) (ZY _ (by decide))
def Vx(a:Int):97<=97+(a%26).toNat/\97+(a%26).toNat<=122:=⟨Uh ..,Nat.add_le_add_left (WG ((Int.toNat_lt (ZL _ (by decide))).mpr (ZY a (by decide)))) 97⟩
def Ff(a b:Str):(a++b).cps.toList=a.cps.toList++b.cps.toList:=by
 show(a.cps++b.cps).toList=_;rw[Array.toList_append]
def Fg{n:Int}(c:n%3=2){k:Int}(u:0<=k)(y:k<=10):∃j l:Nat,j≠l/\97<=j/\j<=122/\97<=l/\l<=122/\j=97+(n/192%26).toNat/\l=97+((n/192%26+1+n/4992%25)%26).toNat/\(Yu n k).cps.toList=Xi (1+(3*k+n/192)%7).toNat j++Xi (k/7).toNat l:=by
 erw[⟨_,_,?_,(Vx _).1,(Vx _).2,(Vx _).1,(Vx _).2,rfl,rfl,?_⟩]
 .lia
 .unfold Yu;rw[if_pos c,Ff,Co,Co,mul_one,mul_one]
def Fh{n:Int}(c:¬n%3=2)(k:Int):∃j lo l:Nat,j<lo/\lo<=8/\97<=l/\l<=122/\j=(n/24%8%(1+n/3%8)).toNat/\
  (Yu n k).cps.toList=Xi j l++(97+((n/4992+7*k)%26).toNat)::Xi (lo - 1 - j) l:=by
 have u:0<=n/24%8%(1+n/3%8):=ZL _ (by lia)
 have y:n/24%8%(1+n/3%8)<1+n/3%8:=ZY _ (by lia)
 erw[ex3 ((n/24%8%(1+n/3%8)).toNat) ((1+n/3%8).toNat) (97+(n/192%26).toNat) ⟨by lia,by lia,(Vx _).1,(Vx _).2,rfl,?_⟩]
 unfold Yu;rw[if_neg c,Ff,Ff,Co,Co,mul_one,mul_one];have e:(1+n/3%8 - 1 - n/24%8%(1+n/3%8)).toNat=(1+n/3%8).toNat - 1 - (n/24%8%(1+n/3%8)).toNat:=by lia
 rw[e,Vb];rfl
def Fi{n k:Int}(m:0<=k)(g:k<=10):Zu (Yu n k):=by
 have l:∀z:Str,z.length=z.cps.toList.length:=λz=>Yg.symm;by_cases c:n%3=2
 .have⟨d,p,L,u,y,f,q,_,_,e⟩:=Fg c m g;erw[⟨?_,?_,?_⟩]
  .rw[l,e,Ya,Zc,Zc];lia
  .rw[l,e,Ya,Zc,Zc];lia
  .intro x j;rw[e]at j;rcases Yo.mp j with j|j
   .rw[V9 j];erw[⟨u,y⟩]
   .rw[V9 j];erw[⟨f,q⟩]
 .have⟨r,lo,d,N,O,u,y,_,e⟩:=Fh c k;erw[⟨?_,?_,?_⟩]
  .rw[l,e,Ya,Yj,Zc,Zc];lia
  .rw[l,e,Ya,Yj,Zc,Zc];lia
  .intro x j;rw[e]at j;rcases Yo.mp j with j|j
   .rw[V9 j];erw[⟨u,y⟩]
   .rcases Xj.mp j with j|j
    .rw[j];erw[Vx _]
    .rw[V9 j];erw[⟨u,y⟩]
def PX{n k j:Int}(r:0<=k)(L:k<=10)(u:0<=j)(y:j<=10)(h:Yu n k=Yu n j):k=j:=by
 by_cases c:n%3=2
 .have⟨N,O,z,_,_,_,_,R,T,e⟩:=Fg c r L;have⟨U,W,_,_,_,_,_,m,g,f⟩:=Fg c u y;rw[<-R]at m;rw[<-T]at g;subst m g;rw[<-h,e]at f;have d:=congrArg (VO U) f;have q:=congrArg (VO W) f;simp only[VJ,List.count_replicate,beq_iff_eq,if_true,z,XR z,if_false,Nat.add_zero,Nat.zero_add]at d q
  try simp at d q
  omega
 .have⟨Y,lo,N,B,C,D,E,Z,e⟩:=Fh c k;have⟨at2,A,O,_,_,_,_,f0,f⟩:=Fh c j;rw[<-Z]at f0;subst f0;rw[<-h,e]at f;have p:=congrArg (λl=>l[at2]?) f
  try simp only at p
  rw[Zn (by rw[Zc];erw[X9 _]),Zn (by rw[Zc];erw[X9 _]),Zc,Nat.sub_self]at p
  have p:97+((n/4992+7*k)%26).toNat=97+((n/4992+7*j)%26).toNat:=by simpa using p
  omega
abbrev As:SpM:=λl M Q=>∃(n:Int) (a:Addr) (x y:Str),l=[.int n,.ref a]/\M a=wc (.lst [.str x,.str y])/\0<=n/\n<=10^8/\∀(U:Tm)j,SameM M j->TmIn [x,y] U->Q U.mv j
def PY:MonW As:=by walk_at "m"
def _cz(T:Txt K mg t):FO P w K mg base 1 "_law_term" As:=by
 erw[T.bc.ok T.g PY 2 ["number","names","one","other"] (fC T f0) NR (fun Y M Q h=>?_) (fun Y M Q h=>?_)]
 .have⟨n,a,x,y,rfl,_⟩:=h;rfl
 have⟨n,a,x,y,rfl,R,E,F,q⟩:=h;show wSs _ _ _ [wc (.int n),wc (.ref a),we,we] M;obtain⟨z,U,Z⟩:∃z,(z=x\/z=y)/\atI [MV.str x,.str y] (n/8%2)=wc (.str z):=by
  rcases(show n/8%2=0\/n/8%2=1 by lia)with e|e<;>rw[e]
  .erw[⟨x,.inl rfl,at0⟩]
  .erw[⟨y,.inr rfl,at1⟩]
 obtain⟨A,c,L⟩:∃z,(z=x\/z=y)/\atI [MV.str x,.str y] (n/224%2)=wc (.str z):=by
  rcases(show n/224%2=0\/n/224%2=1 by lia)with e|e<;>rw[e]
  .erw[⟨x,.inl rfl,at0⟩]
  .erw[⟨y,.inr rfl,at1⟩]
 delta NR
 simp![R,Z]
 delta NQ;simp!;intro p B;obtain⟨r,C⟩:∃r:Int,atI [MV.int (n/16%7 - 3),MV.int (n/16*1000000007%100000000000000000000)] (n/112%2)=wc (.int r):=by
  rcases(show n/112%2=0\/n/112%2=1 by lia)with e|e<;>rw[e]
  .erw[⟨_,at0⟩]
  .erw[⟨_,at1⟩]
 erw[⟨_,C,?_⟩];have g:=SameM.new B (.lst [MV.int (n/16%7 - 3),MV.int (n/16*1000000007%100000000000000000000)]);generalize updM M p _=M1 at*;have N:=g _ _ R;have O:∀u,u∈ [z]->u∈ [x,y]:=λu j=>by
  rw[Ye.mp j];rcases U with rfl|rfl<;>simp
 delta NP;simp!;erw[XU (λ_=>?_) (λG=>?_)]
 .delta NO;simp!;intro W l;have d:=g.trans (SameM.new l (.lst [.tup [.str "var",.str z],.tup [.str "num",.int r]]));rcases(show n%2=0\/n%2=1 by lia)with e|e<;>rw[e]
  .erw[⟨_,at0,q (.var z) _ d ⟨by simp[Tm.depth],by simp[Tm.size],λu j=>O u j⟩⟩]
  .erw[⟨_,at1,q (.num r) _ d ⟨by simp[Tm.depth],by simp[Tm.size],λu j=>by simp[Tm.reads]at j⟩⟩]
 delta NN;simp!;erw[XU (λD=>?_) (λD=>?_)]
 .delta NM;simp!;intro W l;have d:=g.trans (SameM.new l (.lst [.str "plus",.str "minus",.str "times"]));have m:∀f:Form,Q (.tup [.str f.str,.tup [.str "var",.str z],.tup [.str "num",.int r]]) (updM M1 W (.lst [.str "plus",.str "minus",.str "times"])):=fun f=>
   q (.two f (.var z) (.num r)) _ d ⟨by simp[Tm.depth],by simp[Tm.size],λu j=>O u (by simpa [Tm.reads]using j)⟩
  rcases(show n%8 - 2=0\/n%8 - 2=1\/n%8 - 2=2 by lia)with e|e|e<;>rw[e]
  .erw[⟨_,at0,m .plus⟩]
  .erw[⟨_,at1,m .minus⟩]
  .erw[⟨_,at2,m .times⟩]
 delta NL;simp!;erw[XU (λ_=>?_) (λ_=>?_)]
 .delta NK;simp!;erw[q (.pick (.two .less (.var z) (.num r)) (.num r) (.var z)) _ g ⟨by simp[Tm.depth],by simp[Tm.size],λu j=>O u (by simpa [Tm.reads]using j)⟩]
 .delta NJ
  simp![N,L]
  erw[q (.two .plus (.var z) (.var A)) _ g ⟨by simp[Tm.depth],by simp[Tm.size],λu j=>?_⟩]
  simp only[Tm.reads,Yz,Yk,Xj,XM,or_false]at j;rcases j with rfl|rfl
  .rcases U with rfl|rfl<;>simp
  .rcases c with rfl|rfl<;>simp
def PZ{r:List (Str×SpM)}{own:List Str}{fr:List Nat}{z:ISr}{N:ITg}{u m:IE}{O:Sm}{M:MH}{Q:QM}{R:Type}(l:List R)(f g:R->MV)(b:R->Bool)
  (F:wSr r z O M λS M1=>S.items=l.map f/\l.length<sizeLine/\S.okF M1/\M1=M)
  (G:∀x∈l,∀p,SameM M p->wTg N (f x) (sCm own fr O) λd=>wE r u d p λv M2=>v=.bl (b x)/\M2=p/\(b x=wf->wE r m d p λy M2=>y=g x/\M2=p))
  (c:∀(j:Nat)f Z,r[j]?=wc (f,Z)->MonW Z)(q:∀D,M D=we->Q (.ref D) (updM M D (.lst ((l.filter b).map g)))):wE r (.comp own fr z N (.some u) m) O M Q:=by
 rw[BZ];erw[mon_sr c z (λS M1 ⟨L,I,T,J⟩=>?_) F];subst J;have A:S.len=l.length:=by rw[<-S.items_len,L,X5]
 erw[⟨by rw[A];erw[I],λD U=>⟨λi e M2=>M2=updM M1 D (.lst e)/\e=((l.take i).filter b).map g,⟨rfl,by simp⟩,?_,?_,?_⟩⟩]
 .rintro i e M2 ⟨rfl,rfl⟩;erw[⟨Xb,?_,?_⟩]
  .rw[X5];have L:=List.length_filter_le b (l.take i);rw[Yf]at L;lia
  cases S with
  |tup _=>trivial
  |rng _ _=>trivial
  |dic _ _ _=>erw[T.elim]
  |str _=>trivial
  |lst a H=>erw[SameM.new U _ _ _ T]
 .rintro i x e M2 B ⟨rfl,rfl⟩;rw[L]at B;have⟨C,rfl⟩:=YO B;erw[A7 N (λd h=>?_) (G l[i] (XS C) _ (SameM.new U (.lst (((l.take i).filter b).map g))))];rw[wI];erw[Xc c u (λv M2 ⟨W,Y,X⟩=>?_) h];subst W Y;have E:l.take (i+1)=l.take i++[l[i]]:=by rw[Zp,X6 C];rfl
  erw[⟨b l[i],rfl,?_⟩];by_cases hb:b l[i]=wf
  .rw[if_pos hb];erw[Xc c m (λy M2 ⟨W,Y⟩=>?_) (X hb)];subst W Y;erw[⟨Xb,YN,?_⟩];rw[E,List.filter_append,XY,List.filter_cons_of_pos hb]
   rfl
  .rw[if_neg hb];erw[⟨rfl,?_⟩];rw[E,List.filter_append,XY,List.filter_cons_of_neg hb];simp
 .rintro e M2 ⟨rfl,rfl⟩;rw[A,VI (X9 _),C0 T];erw[q D U]
abbrev Cp:SpM:=λl M Q=>∃(n:Int) (z:Str) (a f:Addr) (x y:Str) (F:List Fer) (m:Nat),l=[.int n,.str z,.ref a,.ref f,.int m]/\M a=wc (.lst [.str x,.str y])/\M f=wc (.lst (F.map Fer.mv))/\F.length<=6/\0<=n/\n<=10^8/\m<=100/\(F.map (·.name)).Nodup/\
 ∀(S:Stp)j,SameM M j->Zj (F.map (·.name)) [x,y] m S->U5 F z S->Q S.mv j
def _8C:MonW Cp:=by walk_at "m"
def Q0{F:List Fer}(l:(F.map (·.name)).Nodup){u v:Fer}(y:u∈F)(z:v∈F)(e:u.name=v.name):u=v:=by
 have⟨i,m,rfl⟩:=Yn y;have⟨j,g,rfl⟩:=Yn z;have:i=j:=by
  erw[(AT (xs:=F.map (·.name)) (h₀:=by simpa using m) (h₁:=by simpa using g) l).mp ?_]
  rw[CY,CY];erw[e]
 subst this;rfl
def Q1{F:List Fer}{b:Fer->Bool}{i:Int}(h:F.filter b≠ []):∃v∈F,b v=wf/\atI ((F.filter b).map λv=>MV.str v.name) (i%((F.filter b).length:Int))=wc (.str v.name):=by
 have z:0<(F.filter b).length:=CT.mpr h;have m:=ZL i (b:=((F.filter b).length:Int)) (by lia)
 have g:=ZY i (b:=((F.filter b).length:Int)) (by lia)
 obtain⟨j,y⟩:∃j:Nat,i%((F.filter b).length:Int)=(j:Int):=⟨(i%((F.filter b).length:Int)).toNat,by lia⟩
 have l:j<(F.filter b).length:=by lia
 have u:=XS l;rw[D0]at u;erw[⟨(F.filter b)[j],u.1,u.2,?_⟩];rw[y];erw[Yl (by rw[Xe,X6 l];rfl)]
def _cA(T:Txt K mg t):FO P w K mg base 2 "_law_step" Cp:=by
 erw[T.bB.ok T.g _8C 5 ["number","name","names","ferries","many","takes","gives","rest"] (fC T (fc (_cz T) f0)) NZ (fun vs M Q h=>?_) (fun vs M Q h=>?_)]
 .have⟨n,z,a,f,x,y,F,m,rfl,_⟩:=h;rfl
 have⟨n,z,a,f,x,y,F,m,rfl,ha,X,h6,n0,n1,hm,nd,q⟩:=h;show wSs _ _ _ [wc (.int n),wc (.str z),wc (.ref a),wc (.ref f),wc (.int m),we,we,we] M;have R:=(_6 (u:=[("_law_term",As)]) (fMc PY nl0));delta NZ;simp!;erw[PZ F Fer.mv (λv=>.str v.name) (λv=>decide (v.taker=z)) ?_ ?_ R λW H=>?_]
 .simp![X]
  erw[⟨rfl,by lia,X⟩]
 .intro v r Y s;simp only[sCm,Xt,Yb,YK,Yr,Yz,Yk]
  simp![Fer.mv]
  try simp
 have s1:=SameM.new H (.lst ((F.filter λv=>decide (v.taker=z)).map λv=>MV.str v.name));have d1:updM M W (.lst ((F.filter λv=>decide (v.taker=z)).map λv=>MV.str v.name)) W=wc (.lst ((F.filter λv=>decide (v.taker=z)).map λv=>MV.str v.name)):=Xb;generalize updM M W _=M1 at*;have Z:=s1 _ _ X;delta NY;simp!;erw[PZ F Fer.mv (λv=>.str v.name) (λv=>decide (v.giver=z)) ?_ ?_ R λA o=>?_]
 .simp![Z]
  erw[⟨rfl,by lia,Z⟩]
 .intro v r Y s;simp only[sCm,Xt,Yb,YK,Yr,Yz,Yk]
  simp![Fer.mv]
  try simp
 have s2:=SameM.new o (.lst ((F.filter λv=>decide (v.giver=z)).map λv=>MV.str v.name));have d2:updM M1 A (.lst ((F.filter λv=>decide (v.giver=z)).map λv=>MV.str v.name)) A=wc (.lst ((F.filter λv=>decide (v.giver=z)).map λv=>MV.str v.name)):=Xb;generalize updM M1 A _=M2 at*;have b:=s2 _ _ d1;have J:=s1.trans s2;have L:=J _ _ ha;delta NX;simp!;have d:∀l,SameM M2 l->wSs ([("_law_term",As)]:List (Str×SpM)) EA {nx:=fun x Y=>Q MV.non Y,rt:=Q} [wc (.int n),wc (.str z),wc (.ref a),wc (.ref f),wc (.int m),wc (.ref W),wc (.ref A),wc (.int (n/128))] l:=by
  intro l B;have N:=B _ _ L;have st:=J.trans B;delta EA;simp!;erw[XU (λ_=>?_) (λ_=>?_)]
  .delta NT;simp!;erw[ex4 (n/128) a x y ⟨rfl,N,by lia,by lia,λU c j C=>?_⟩]
   simp!;have O:(0:Int)<(m:Int)+1:=by lia
   erw[⟨O,q (.jump U (n/8%(m+1))) c (st.trans j) ⟨C,ZL _ (by lia),by have:=ZY (n/8) O;lia⟩ trivial⟩]
  .delta NS;obtain⟨u,D,S⟩:∃u,u∈ [x,y]/\atI [MV.str x,.str y] (n/8%2)=wc (.str u):=by
    rcases(show n/8%2=0\/n/8%2=1 by lia)with e|e<;>rw[e]
    .erw[⟨x,by simp,at0⟩]
    .erw[⟨y,by simp,at1⟩]
   simp![N,S]
   erw[ex4 (n/128) a x y ⟨rfl,N,by lia,by lia,λU c j C=>?_⟩]
   try walk_at "s"
   erw[q (.put u U) c (st.trans j) ⟨D,C⟩ trivial]
 have E:∀l,SameM M2 l->wSs ([("_law_term",As)]:List (Str×SpM)) EB {nx:=fun x Y=>Q MV.non Y,rt:=Q} [wc (.int n),wc (.str z),wc (.ref a),wc (.ref f),wc (.int m),wc (.ref W),wc (.ref A),wc (.int (n/128))] l:=by
  intro l B;delta EB;simp!;erw[XU (λ_=>?_) (λ_=>d l B)];intro p O;have j:=B.trans (SameM.new O (.lst []));have p4:updM l p (.lst []) p=wc (.lst []):=Xb;generalize updM l p _=c at*;have G:=j _ _ d2;have g:=j _ _ L;erw[J7 G p4 ?_];by_cases hn:(F.filter λv=>decide (v.giver=z))=[]
  .rw[hn];erw[d c j]
  .have he:((F.filter λv=>decide (v.giver=z)).map λv=>MV.str v.name).isEmpty=wg:=by
    cases e:F.filter λv=>decide (v.giver=z)with
    |nil=>erw[absurd e hn]
    |cons _ _=>rfl
   rw[he,if_pos rfl];delta NU;have⟨v,r,hb,I⟩:=Q1 (i:=n/8) hn;have hl:0<(F.filter λv=>decide (v.giver=z)).length:=CT.mpr hn
   simp![G,X5,I]
   erw[⟨by lia,?_⟩]
   try simp![I]
   erw[ex4 (n/128) a x y ⟨rfl,g,by lia,by lia,λU M5 s5 C=>?_⟩]
   try walk_at "s"
   erw[q (.give v.name U) M5 ((J.trans j).trans s5) ⟨XA.mpr ⟨v,r,rfl⟩,C⟩ (λu D e=>?_)];rw[Q0 nd D r e];erw[of_decide_eq_true hb]
 delta NW;simp!;erw[XU (λ_=>?_) (λ_=>E M2 (SameM.refl _))];intro p O;have j:=SameM.new O (.lst []);have p4:updM M2 p (.lst []) p=wc (.lst []):=Xb;generalize updM M2 p _=c at*;have G:=j _ _ b;have g:=j _ _ L;erw[J7 G p4 ?_];by_cases hn:(F.filter λv=>decide (v.taker=z))=[]
 .rw[hn];erw[E c j]
 .have he:((F.filter λv=>decide (v.taker=z)).map λv=>MV.str v.name).isEmpty=wg:=by
   cases e:F.filter λv=>decide (v.taker=z)with
   |nil=>erw[absurd e hn]
   |cons _ _=>rfl
  rw[he,if_pos rfl];delta NV;have⟨v,r,hb,I⟩:=Q1 (i:=n/8) hn;have hl:0<(F.filter λv=>decide (v.taker=z)).length:=CT.mpr hn;obtain⟨u,D,S⟩:∃u,u∈ [x,y]/\atI [MV.str x,.str y] (n/128%2)=wc (.str u):=by
   rcases(show n/128%2=0\/n/128%2=1 by lia)with e|e<;>rw[e]
   .erw[⟨x,by simp,at0⟩]
   .erw[⟨y,by simp,at1⟩]
  simp![G,X5,I,g,S]
  erw[⟨by lia,?_⟩]
  try simp![I,g,S]
  erw[q (.take v.name u) c (J.trans j) ⟨XA.mpr ⟨v,r,rfl⟩,D⟩ (λu' hu' e=>?_)];rw[Q0 nd hu' r e];erw[of_decide_eq_true hb]
abbrev Cq:SpM:=λu M Q=>∃(n l y:Int) (k:Nat) (f:Addr) (F:List Fer),u=[.int n,.int k,.int l,.ref f,.int y]/\M f=wc (.lst (F.map Fer.mv))/\F.length<=6/\(F.map (·.name)).Nodup/\0<=n/\n<=10^60/\k<=4/\
 ∀(I:Isl)(a b:Addr)j,SameM M j->M a=we->M b=we->a≠b->j a=wc (.lst (I.prs.map prV))->j b=wc (.lst (I.stps.map Stp.mv))->I.name=Yu l k->(∀w,1<=w->IslOk w (F.map (·.name)) I)->(∀s∈I.stps,U5 F I.name s)->Q (.tup [.str I.name,.ref a,.ref b]) j
def _6m:MonW Cq:=by walk_at "m"
def _ag(T:Txt K mg t):FO P w K mg base 3 "_law_island" Cq:=by
 erw[T.br.ok T.g _6m 5 ["number","k","naming","ferries","around","name","names","pairs","many","ending","steps","j"] (fC T (fc (PU T) (fc (_cA T) f0))) Ob (fun vs M Q h=>?_) (fun vs M Q h=>?_)]
 .have⟨n,g,W,k,f,F,rfl,_⟩:=h;rfl
 have⟨n,g,W,k,f,F,rfl,hf,h6,nd,n0,n1,hk,q⟩:=h;show wSs _ _ _ [wc (.int n),wc (.int k),wc (.int g),wc (.ref f),wc (.int W),we,we,we,we,we,we,we] M;delta Ob;simp!;erw[⟨g,k,rfl,by lia,by lia,?_⟩]
 obtain⟨z,hz⟩:∃z,Yu g k=z:=⟨_,rfl⟩;rw[hz]at q ⊢;delta Oa;simp!;erw[⟨g,9,rfl,by lia,by lia,?_⟩]
 erw[⟨g,10,rfl,by lia,by lia,?_⟩]
 simp!;intro Y hpn;obtain⟨x,hx⟩:∃x,Yu g 9=x:=⟨_,rfl⟩;obtain⟨y,hy⟩:∃y,Yu g 10=y:=⟨_,rfl⟩;have gx:Zu x:=hx▸Fi (by decide) (by decide)
 have gy:Zu y:=hy▸Fi (by decide) (by decide)
 have xy:x≠y:=λe=>by
  have:=PX (n:=g) (k:=9) (j:=10) (by decide) (by decide) (by decide) (by decide) (by rw[hx,hy];erw[e])
  lia
 rw[hx,hy];have b:=SameM.new hpn (.lst [.str x,.str y]);have a1:updM M Y (.lst [.str x,.str y]) Y=wc (.lst [.str x,.str y]):=Xb;generalize updM M Y _=M1 at*;delta O9
 simp![a1]
 intro Z G;have s2:=SameM.new G (.lst [.tup [.str x,.int (n%2)],.tup [.str y,.int (n/2%2)]]);have b2:updM M1 Z (.lst [.tup [.str x,.int (n%2)],.tup [.str y,.int (n/2%2)]]) Z=wc (.lst ([(x,n%2),(y,n/2%2)].map prV)):=Xb;generalize updM M1 Z _=M2 at*;have a2:=s2 _ _ a1;have fpp:=b.free G;delta O8;simp!;obtain⟨m,hm,hm7⟩:∃m:Nat,n/4%7=(m:Int)/\m<7:=⟨(n/4%7).toNat,by lia,by lia⟩
 rw[hm];delta O7;simp!;obtain⟨d,hen,hen2⟩:∃d:Nat,(if n/28%4<W then(1:Int)else 0)=(d:Int)/\d<=1:=by
  by_cases c:n/28%4<W
  .erw[⟨1,by rw[if_pos c];rfl,by decide⟩]
  .erw[⟨0,by rw[if_neg c];rfl,by decide⟩]
 rw[hen];delta O6;simp!;delta O5;simp!;intro r N;have s3:=SameM.new N (.lst []);have c3:updM M2 r (.lst []) r=wc (.lst []):=Xb;have fps:=(b.trans s2).free N;have pps:=neM b2 N;have I:∀a o,M2 a=wc o->a≠r:=λa o h=>neM h N;generalize updM M2 r _=M3 at*;delta O4;simp!;obtain⟨J,hJ⟩:∃J:Nat->Sm->MH->Prop,∀j σ O,J j σ O↔∃(R:Int) (l:List Stp) (v:Option MV),σ=[wc (.int R),wc (.int k),wc (.int g),wc (.ref f),wc (.int W),wc (.str z),wc (.ref Y),wc (.ref Z),wc (.int m),wc (.int d),wc (.ref r),v]/\0<=R/\l.length=j/\SameM M2 O/\O r=wc (.lst (l.map Stp.mv))/\(∀S∈l,Zj (F.map (·.name)) [x,y] (m+d) S/\U5 F z S):=⟨_,λ_ _ _=>Yd⟩;erw[⟨by lia,by lia,J,(hJ _ _ _).mpr (ex3 (n/112) [] _ ⟨rfl,by lia,rfl,s3,c3,λS L=>nomatch L⟩),λ_ _ _ _=>trivial,?_,?_⟩]
 .rintro j u σ O U h;have⟨R,l,v,rfl,p0,hl,C,X,L⟩:=(hJ _ _ _).mp h;have⟨hj,rfl⟩:=Vt U
  suffices key:∀D:EndM,D.nx=J (j+1)->wSs ([("_law_name",Wq),("_law_step",Cp)]:List (Str×SpM)) ED D [wc (.int R),wc (.int k),wc (.int g),wc (.ref f),wc (.int W),wc (.str z),wc (.ref Y),wc (.ref Z),wc (.int m),wc (.int d),wc (.ref r),wc (.int (0+(j:Nat)))] O from key _ rfl
  intro D hD;delta ED
  simp![X]
  erw[⟨⟨_,rfl⟩,R%100000000,z,Y,f,x,y,F,m+d,rfl,C _ _ a2,C _ _ (s2 _ _ (b _ _ hf)),h6,by lia,by lia,by lia,nd,λS E H hS1 hS2=>?_⟩]
  have c5:=H _ _ X
  simp![c5,X5]
  erw[⟨by lia,?_⟩]
  delta O3;simp!;rw[hD];erw[(hJ _ _ _).mpr (ex3 (R/100000000) (l++[S]) _ ⟨rfl,by lia,by simp[hl],λa o h=>by rw[X7 (I a o h)];erw[H _ _ (C _ _ h)],by rw[Xb,XY];rfl,λS' A=>?_⟩)]
  rcases Yo.mp A with B|B
  .erw[L _ B]
  .rw[Ye.mp B];erw[⟨hS1,hS2⟩]
 .rintro σ O h;have⟨R,l,v,rfl,p0,hl,C,X,L⟩:=(hJ _ _ _).mp h;have hl:l.length=m:=hl;have s:∀(E:MH)(l:List Stp)(v:Option MV),SameM M2 E->E r=wc (.lst (l.map Stp.mv))->l.length=m+d->(∀S∈l,Zj (F.map (·.name)) [x,y] (m+d) S/\U5 F z S)->wSs ([("_law_name",Wq),("_law_step",Cp)]:List (Str×SpM)) EC {nx:=fun x O=>Q MV.non O,rt:=Q} [wc (.int R),wc (.int k),wc (.int g),wc (.ref f),wc (.int W),wc (.str z),wc (.ref Y),wc (.ref Z),wc (.int m),wc (.int d),wc (.ref r),v] E:=by
   intro E l v H c5 hl5 i;delta EC;simp!;erw[q ⟨z,[(x,n%2),(y,n/2%2)],l⟩ Z r E ((b.trans s2).trans H) fpp fps pps (H _ _ b2) c5 rfl (λw hw=>?_) (λS L=>(i S L).2)];erw[⟨by simp,?_,?_,?_,?_,?_⟩]
   .show l.length<=12;lia
   .show [x,y].Nodup;simp[xy]
   .intro u U;have U:u∈ [x,y]:=U;simp only[Xj,XM,or_false]at U;rcases U with rfl|rfl
    .erw[gx]
    .erw[gy]
   .intro p hp;have:=OJ hw;have hp:p∈ [(x,n%2),(y,n/2%2)]:=hp;simp only[Xj,XM,or_false]at hp;rcases hp with rfl|rfl
    .erw[⟨by show 0<=n%2;lia,by show n%2<_;lia⟩]
    .erw[⟨by show 0<=n/2%2;lia,by show n/2%2<_;lia⟩]
   .intro S L;show Zj _ [x,y] l.length S;rw[hl5];erw[(i S L).1]
  delta O1;simp!;erw[XU (λc=>?_) (λc=>?_)]
  .delta O0
   simp![X,X5]
   have e1:d=1:=by lia
   erw[⟨⟨_,rfl⟩,by lia,s _ (l++[.jump (.num 1) 0]) _ (λa o h=>by rw[X7 (I a o h)];erw[C _ _ h]) (by rw[Xb,XY];rfl) (by simp;lia) λS' A=>?_⟩]
   rcases Yo.mp A with B|B
   .erw[L _ B]
   .rw[Ye.mp B];erw[⟨⟨⟨by simp[Tm.depth],by simp[Tm.size],λu U=>by simp[Tm.reads]at U⟩,by lia,by lia⟩,trivial⟩]
  .erw[s O l _ C X (by lia) L]
structure IslsNew (M0 M:MH)(Is:List Isl)(ys:List MV):Prop where
 len:ys.length=Is.length
 at_:∀(i:Nat)(I:Isl)(y:MV),Is[i]?=wc I->ys[i]?=wc y->∃a b,y=.tup [.str I.name,.ref a,.ref b]/\M0 a=we/\M0 b=we/\M a=wc (.lst (I.prs.map prV))/\M b=wc (.lst (I.stps.map Stp.mv))
def IslsNew.inn{l M:MH}{Is:List Isl}{j:List MV}(h:IslsNew l M Is j):IslsIn M Is j:=⟨h.len,λi I y a b=>by
 have⟨c,d,e,_,_,u,z⟩:=h.at_ i I y a b;erw[⟨c,d,e,u,z⟩]⟩
def IslsNew.keep{j M M':MH}{Is:List Isl}{l:List MV}(h:IslsNew j M Is l)(s:∀a o,M a=wc o->j a=we->M' a=wc o):IslsNew j M' Is l:=⟨h.len,λi I y a b=>by
 have⟨c,d,e,u,z,m,g⟩:=h.at_ i I y a b;erw[⟨c,d,e,u,z,s _ _ m u,s _ _ g z⟩]⟩
set_option tactic.hygienic true in
def Q2{l:Type}{v y:l}{j:List l}{i:Nat}(h:(j++[v])[i]?=wc y):j[i]?=wc y\/(i=j.length/\y=v):=by
 rw[List.getElem?_append]at h;split at h
 .erw[.inl h]
 .rename_i e
  obtain⟨d,hd⟩:∃d,i - j.length=d:=⟨_,rfl⟩;rw[hd]at h;cases d with
  |zero=>simp at h;erw[.inr ⟨by lia,h.symm⟩]
  |succ d=>simp at h
def IslsNew.add{z M:MH}{Is:List Isl}{m:List MV}(h:IslsNew z M Is m){I:Isl}{a b:Addr}(g:z a=we)(d:z b=we)(c:M a=wc (.lst (I.prs.map prV)))(f:M b=wc (.lst (I.stps.map Stp.mv))):IslsNew z M (Is++[I]) (m++[.tup [.str I.name,.ref a,.ref b]]):=by
 erw[⟨by simp[h.len],λi J y q r=>?_⟩]
 have l:=h.len;rcases Q2 q with j|⟨p,rfl⟩<;>rcases Q2 r with u|⟨e,rfl⟩
 .erw[h.at_ i J y j u]
 .have:=(Xm.mp j).1;lia
 .have:=(Xm.mp u).1;lia
 .erw[⟨a,b,rfl,g,d,c,f⟩]
def modN(a:Int){b:Nat}(h:0<b):∃g:Nat,a%(b:Int)=(g:Int)/\g<b:=
 have p:(0:Int)<b:=Int.natCast_pos.mpr h;have q:=ZL a (Int.ne_of_gt p)
 ⟨(a%(b:Int)).toNat,(UQ q).symm,(Int.toNat_lt q).mpr (ZY a p)⟩
def Cr{n:Int}{a b:Nat}(j:a<=10)(l:b<=10)(h:Yu n (a:Int)=Yu n (b:Int)):a=b:=Int.ofNat.inj (PX (Ul _) (WJ.mpr j) (Ul _) (WJ.mpr l) h)
def Q3{n:Int}{a:Nat}(j:a<=10):Zu (Yu n (a:Int)):=Fi (Ul _) (WJ.mpr j)
def two_of{b:Nat}(h:b<2):b=0\/b=1:=by lia
def _oO{g r j:Nat}(g1:g<j)(l:r<j - 1)(u:j<=5):((g:Int)+1+(r:Int))%(j:Int)≠(g:Int):=λe=>by
 rcases(show j=2\/j=3\/j=4\/j=5 by lia)with rfl|rfl|rfl|rfl<;>lia
def fnm(nm:Int)(i:Nat):Str:=Yu nm (5+(i:Int))
def inm(nm:Int)(i:Nat):Str:=Yu nm (i:Int)
def Q4{f:Nat->Str}{n:Nat}(h:∀a b,a<n->b<n->f a=f b->a=b):((Xq n).map f).Nodup:=by
 unfold List.Nodup;rw[CW];erw[List.Pairwise.imp_of_mem (λj l u e=>u (h _ _ (Zd.mp j) (Zd.mp l) e)) List.nodup_range]
abbrev Cs:SpM:=λz M Q=>∃(m:List Int) (g:Int),z=[.frl (m.map .int),.int g]/\
 ∀(W:Wld)(l u:Addr)(y:List MV)j,SameM M j->W.Good->1<=W.isl.length->M l=we->M u=we->l≠u->j l=wc (.lst y)->IslsIn j W.isl y->j u=wc (.lst (W.fer.map Fer.mv))->Q (.tup [.int W.w,.ref l,.ref u]) j
def Q5:MonW Cs:=by walk_at "m"
def _af(T:Txt K mg t):FO P w K mg base 4 "_law_things" Cs:=by
 erw[T.cw.ok T.g Q5 2 ["script","around","head","naming","width","many","ferries","k","number","giver","taker","ends","islands"] (fC T (fc (PQ T) (fc (_ag T) (fc (PU T) f0)))) Op (fun vs M Q h=>?_) (fun vs M Q h=>?_)]
 .have⟨N,ar,rfl,_⟩:=h;rfl
 have⟨N,ar,rfl,q⟩:=h;show wSs _ _ _ [wc (.frl (N.map .int)),wc (.int ar),we,we,we,we,we,we,we,we,we,we,we] M;delta Op;simp!;erw[⟨N,0,rfl,?_⟩];simp!;delta Oo;simp!;erw[⟨N,1,rfl,?_⟩];simp!;obtain⟨hd,hhd,hd0⟩:∃hd:Int,N.getD 0 0%1000000000=hd/\0<=hd:=⟨_,rfl,by lia⟩
 obtain⟨m,hnm⟩:∃m:Int,N.getD 1 0%1000000000=m:=⟨_,rfl⟩;rw[hhd,hnm];delta On;simp!;intro p0 hp0;obtain⟨w,hw,w1,w2⟩:∃w:Nat,atI [MV.int (1+hd/16%64),MV.int (1+hd/16%5)] (hd/1024%2)=wc (.int w)/\1<=w/\w<=64:=by
  obtain⟨x,ex,Y⟩:∃x:Nat,hd/16%64=(x:Int)/\x<64:=modN _ (b:=64) (by decide)
  obtain⟨y,ey,hy⟩:∃x:Nat,hd/16%5=(x:Int)/\x<5:=modN _ (b:=5) (by decide)
  obtain⟨b,eb,hb⟩:∃x:Nat,hd/1024%2=(x:Int)/\x<2:=modN _ (b:=2) (by decide)
  rw[ex,ey,eb];rcases two_of hb with rfl|rfl
  .erw[⟨1+x,at0,Uh ..,UM ..▸Y⟩]
  .erw[⟨1+y,at1,Uh ..,Xv (UM ..▸hy:1+y<=5) (by decide)⟩]
 erw[⟨_,hw,?_⟩];have s0:=SameM.new hp0 (.lst [MV.int (1+hd/16%64),MV.int (1+hd/16%5)]);generalize updM M p0 _=M0 at*;obtain⟨l,hmy,my1,G⟩:∃l:Nat,1+hd%5=(l:Int)/\1<=l/\l<=5:=by
  obtain⟨x,ex,Y⟩:∃x:Nat,hd%5=(x:Int)/\x<5:=modN _ (b:=5) (by decide)
  erw[⟨1+x,by rw[ex];rfl,Uh ..,UM ..▸Y⟩]
 delta Om;simp!;rw[hmy];delta Ol;simp!;intro Z hpf;have s1:=SameM.new hpf (.lst []);have f1:updM M0 Z (.lst []) Z=wc (.lst []):=Xb;have fpf:=s0.free hpf;have old:∀a o,M0 a=wc o->a≠Z:=λa o h=>neM h hpf;generalize updM M0 Z _=M1 at*;delta Oj;simp!;obtain⟨cn,hcn,cn6,cn1⟩:∃cn:Nat,(if hd/2048%7<6*(l:Int) - 6 then hd/2048%7 else 6*(l:Int) - 6)=(cn:Int)/\cn<=6/\(1<=cn->2<=l):=by
  obtain⟨x,ex,Y⟩:∃x:Nat,hd/2048%7=(x:Int)/\x<7:=modN _ (b:=7) (by decide)
  rw[ex];by_cases c:(x:Int)<6*(l:Int) - 6
  .erw[⟨x,if_pos c,WG Y,by lia⟩]
  .erw[⟨6*l - 6,by rw[if_neg c];lia,by lia,by lia⟩]
 rw[hcn,YT];obtain⟨J,B⟩:∃J:Nat->Sm->MH->Prop,∀j S A,J j S A↔∃(p:List Fer) (v7 v8 v9 R U:Option MV),S=[wc (.frl (N.map .int)),wc (.int ar),wc (.int hd),wc (.int m),wc (.int w),wc (.int l),wc (.ref Z),v7,v8,v9,R,U,we]/\p.map (·.name)=(Xq j).map (fnm m)/\SameM M0 A/\A Z=wc (.lst (p.map Fer.mv))/\(∀F∈p,FerOk ((Xq l).map (inm m)) F):=⟨_,λ_ _ _=>Yd⟩;erw[⟨by lia,by lia,J,(B _ _ _).mpr (ex6 [] _ _ _ _ _ ⟨rfl,rfl,s1,f1,λF hF=>nomatch hF⟩),λ_ _ _ _=>trivial,?_,?_⟩]
 .rintro j u S A hu h;erw[ee6 ((B _ _ _).mp h) λp v7 v8 v9 R U h=>?_];have⟨rfl,X,s2,f2,hF⟩:=h;have⟨hj,rfl⟩:=Vt hu;have my2:=cn1 (by lia)
  have hl:p.length=j:=by have:=congrArg WE X;simpa using this
  rw[Um]
  suffices key:∀D:EndM,D.nx=J (j+1)->wSs ([("_law_cell_at",Wp),("_law_island",Cq),("_law_name",Wq)]:List (Str×SpM)) EF D [wc (.frl (N.map .int)),wc (.int ar),wc (.int hd),wc (.int m),wc (.int w),wc (.int l),wc (.ref Z),wc (.int j),v8,v9,R,U,we] A from key _ rfl
  intro D hD;delta EF;obtain⟨c,hc⟩:∃c:Nat,2+(j:Int)%4=(c:Int):=⟨2+j%4,rfl⟩
  simp![hc]
  erw[⟨N,c,rfl,?_⟩];simp!;intro p1 hp1;obtain⟨dv,hdv,dv0⟩:∃dv:Int,atI [MV.int 1,MV.int 1000000] ((j:Int)/4)=wc (.int dv)/\(dv=1\/dv=1000000):=by
   have e:(j:Int)/4=((j/4:Nat):Int):=rfl;rw[e];rcases two_of (show j/4<2 by lia)with e|e<;>rw[e]
   .erw[⟨1,at0,.inl rfl⟩]
   .erw[⟨1000000,at1,.inr rfl⟩]
  erw[⟨_,hdv,?_⟩];have s3:=s2.trans (SameM.new hp1 (.lst [MV.int 1,MV.int 1000000]));have f3:=SameM.new hp1 (.lst [MV.int 1,MV.int 1000000]) _ _ f2;generalize updM A p1 _=M3 at*;simp!;obtain⟨O,hnb,nb0⟩:∃O:Int,N.getD c 0%1000000000000000/dv=O/\0<=O:=by
   erw[⟨_,rfl,?_⟩];rcases dv0 with rfl|rfl<;>lia
  rw[hnb];erw[⟨by rcases dv0 with rfl|rfl<;>decide,?_⟩]
  delta Oi;simp!;have gp:(0:Int)<(l:Int):=Int.natCast_pos.mpr my1;erw[⟨gp,?_⟩];have⟨g,hg,hg2⟩:=modN O (b:=l) my1;rw[hg];delta Oh;simp!;have gp1:(0:Int)<(l:Int) - 1:=by lia
  erw[⟨gp1,gp,?_⟩];obtain⟨C,ht,ht2,ht3⟩:∃C:Nat,((g:Int)+1+O/5%((l:Int) - 1))%(l:Int)=(C:Int)/\C<l/\C≠g:=by
   obtain⟨r,hr,r1⟩:∃r:Nat,O/5%((l:Int) - 1)=(r:Int)/\r<l - 1:=by
    have:=modN (O/5) (b:=l - 1) (by lia)
    rwa [show((l - 1:Nat):Int)=(l:Int) - 1 by lia]at this
   rw[hr];have⟨C,h0,h1⟩:=modN ((g:Int)+1+(r:Int)) (b:=l) my1;erw[⟨C,h0,h1,λe=>_oO hg2 r1 G (by rw[h0,e])⟩]
  rw[ht];delta Og;simp!;have g5:g<=10:=Xv (ZJ hg2) (Xv G (by decide))
  have t5:C<=10:=Xv (ZJ ht2) (Xv G (by decide))
  have j5:5+j<=10:=by lia
  have f:∀{x:Nat},x<=10->(0:Int)<=(x:Int)/\(x:Int)<=50:=λh=>⟨Ul _,WJ.mpr (Xv h (by decide))⟩
  erw[⟨m,g,rfl,(f g5).1,(f g5).2,?_⟩];erw[⟨m,C,rfl,(f t5).1,(f t5).2,?_⟩]
  try walk_at "s"
  delta Of
  simp![f3]
  erw[⟨⟨_,rfl⟩,m,5+(j:Int),rfl,(f j5).1,(f j5).2,?_⟩];obtain⟨kk,hkk,kk3⟩:∃kk:Nat,O/20%4=(kk:Int)/\kk<=3:=let⟨k,e,h⟩:=modN (O/20) (b:=4) (by decide);⟨k,e,WG h⟩
  obtain⟨st,hst,st1,st3⟩:∃st:Nat,1+O/80%3=(st:Int)/\1<=st/\st<=3:=by
   obtain⟨x,ex,Y⟩:∃x:Nat,O/80%3=(x:Int)/\x<3:=modN _ (b:=3) (by decide)
   erw[⟨1+x,by rw[ex];rfl,Uh ..,UM ..▸Y⟩]
  simp![f3,hkk,hst,X5]
  rw[hD];erw[⟨by lia,(B _ _ _).mpr (ex6 (p++[⟨fnm m j,inm m g,inm m C,kk,st⟩]) _ _ _ _ _ ⟨rfl,?_,λa o h=>by rw[X7 (old a o h)];erw[s3 _ _ h],by rw[Xb,XY];rfl,λF hF'=>?_⟩)⟩]
  .rw[XY,X,List.range_succ,XY];rfl
  .rcases Yo.mp hF' with h'|h'
   .erw[hF _ h']
   .rw[Ye.mp h'];erw[⟨XA.mpr ⟨g,Zd.mpr hg2,rfl⟩,XA.mpr ⟨C,Zd.mpr ht2,rfl⟩,λe=>?_,kk3,st1,st3⟩];erw[ht3 (Cr t5 g5 e.symm)]
 .rintro S M2 h;erw[ee6 ((B _ _ _).mp h) λp v7 v8 v9 R U h=>?_];have⟨rfl,X,s2,f2,hF⟩:=h;have X:p.map (·.name)=(Xq cn).map (fnm m):=X;have hl:p.length=cn:=by have:=congrArg WE X;simpa using this
  have ndF:(p.map (·.name)).Nodup:=by
   rw[X];erw[Q4 λa b ha hb e=>?_];erw[Nat.add_left_cancel (Cr (n:=m) (a:=5+a) (b:=5+b) (by lia) (by lia) e)]
  clear B h;delta Oe;simp!;intro W H;have s3:=SameM.new H (.lst []);have i3:updM M2 W (.lst []) W=wc (.lst []):=Xb;have fpi:=(s0.trans s2).free H;have ipf:=(neM f2 H).symm;have old2:∀a o,M2 a=wc o->a≠W:=λa o h=>neM h H;have only:∀a o,updM M2 W (.lst []) a=wc o->a≠W->M2 a=wc o:=λa o h n=>by rw[X7 n]at h;erw[h]
  generalize updM M2 W _=M3 at*;delta Od;simp!;obtain⟨J,B⟩:∃J:Nat->Sm->MH->Prop,∀j S A,J j S A↔∃(L:List Isl) (ys:List MV) (v7:Option MV),S=[wc (.frl (N.map .int)),wc (.int ar),wc (.int hd),wc (.int m),wc (.int w),wc (.int l),wc (.ref Z),v7,v8,v9,R,U,wc (.ref W)]/\L.map (·.name)=(Xq j).map (inm m)/\SameM M2 A/\A W=wc (.lst ys)/\IslsNew M3 A L ys/\(∀I∈L,IslOk w (p.map (·.name)) I/\∀s∈I.stps,U5 p I.name s):=⟨_,λ_ _ _=>Yd⟩;erw[⟨by lia,by lia,J,(B _ _ _).mpr (ex3 [] [] _ ⟨rfl,rfl,s3,i3,⟨rfl,λi I y hI=>by simp at hI⟩,λI hI=>nomatch hI⟩),λ_ _ _ _=>trivial,?_,?_⟩]
  .rintro j u S M4 hu h;erw[ee3 ((B _ _ _).mp h) λL ys v7 h=>?_];have⟨rfl,d,s4,i4,hI,hO⟩:=h;have⟨hj,rfl⟩:=Vt hu;have hlI:L.length=j:=by have:=congrArg WE d;simpa using this
   have hly:=hI.len;rw[Um]
   suffices key:∀D:EndM,D.nx=J (j+1)->wSs ([("_law_cell_at",Wp),("_law_island",Cq),("_law_name",Wq)]:List (Str×SpM)) EE D [wc (.frl (N.map .int)),wc (.int ar),wc (.int hd),wc (.int m),wc (.int w),wc (.int l),wc (.ref Z),wc (.int j),v8,v9,R,U,wc (.ref W)] M4 from key _ rfl
   intro D hD;delta EE;obtain⟨c,hc⟩:∃c:Nat,6+(j:Int)=(c:Int):=⟨6+j,rfl⟩
   simp![i4,hc]
   erw[⟨⟨_,rfl⟩,N,c,rfl,?_⟩];simp!;erw[ex6 (N.getD c 0%1000000000000000000000000000000000000000000000000000000000000) m ar j Z p ⟨rfl,s4 _ _ f2,by lia,ndF,by lia,by lia,by lia,λI a b M5 s5 na O nab ha hb hn hok hen=>?_⟩]
   have i5:=s5 _ _ i4
   simp![i5]
   have bk:∀x,M4 x=we->M3 x=we:=λx Y=>by
    cases e:M3 x with
    |none=>rfl
    |some v=>
     by_cases hx2:x=W
     .subst hx2;rw[i4]at Y;cases Y
     .rw[s4 _ _ (only _ _ e hx2)]at Y;cases Y
   rw[hD];erw[⟨by lia,(B _ _ _).mpr (ex3 (L++[I]) (ys++[.tup [.str I.name,.ref a,.ref b]]) _ ⟨rfl,?_,λa o h=>by rw[X7 (old2 a o h)];erw[s5 _ _ (s4 _ _ h)],Xb,?_,?_⟩)⟩]
   .rw[XY,d,List.range_succ,XY];show _++[I.name]=_;rw[hn];rfl
   .have h3:∀x o,M5 x=wc o->M3 x=we->updM M5 W (.lst (ys++[.tup [.str I.name,.ref a,.ref b]])) x=wc o:=λx o h n=>by
     rw[X7 (λe=>by subst e;rw[i3]at n;cases n)];erw[h]
    have hI5:=hI.keep (M':=updM M5 W (.lst (ys++[.tup [.str I.name,.ref a,.ref b]]))) λx o h n=>h3 x o (s5 _ _ h) n;erw[hI5.add (bk _ na) (bk _ O) (h3 _ _ ha (bk _ na)) (h3 _ _ hb (bk _ O))]
   .intro I' hI';rcases Yo.mp hI' with h'|h'
    .erw[hO _ h']
    .rw[Ye.mp h'];erw[⟨hok w w1,hen⟩]
  .rintro S M4 h;erw[ee3 ((B _ _ _).mp h) λL ys v7 h=>?_];have⟨rfl,d,s4,i4,hI,hO⟩:=h;have d:L.map (·.name)=(Xq l).map (inm m):=d;have hlI:L.length=l:=by have:=congrArg WE d;simpa using this
   have in5:∀{x},x<l->x<=10:=λh=>Xv (ZJ h) (Xv G (by decide))
   delta Oc;simp!;erw[q ⟨w,L,p⟩ W Z ys M4 ((s0.trans s2).trans s4) ?_ (by show 1<=L.length;lia) fpi fpf ipf i4 hI.inn (s4 _ _ f2)]
   erw[⟨w1,w2,by show L.length<=5;lia,by show p.length<=6;lia,?_,?_,?_,λI E=>(hO I E).1,?_,λI E=>(hO I E).2⟩]
   .intro z hz;have hz:z∈p.map (·.name):=hz;rw[X]at hz;have⟨i,E,rfl⟩:=XA.mp hz;have:=Zd.mp E;erw[Q3 (a:=5+i) (by lia)]
   .intro z hz;have hz:z∈L.map (·.name):=hz;rw[d]at hz;have⟨i,E,rfl⟩:=XA.mp hz;have:=Zd.mp E;erw[Q3 (in5 this)]
   .show(p.map (·.name)++L.map (·.name)).Nodup;rw[YS];erw[⟨ndF,?_,?_⟩]
    .rw[d];erw[Q4 λa b ha hb e=>?_];erw[Cr (n:=m) (in5 ha) (in5 hb) e]
    .rw[X,d];intro a ha b hb e;have⟨i,E,rfl⟩:=XA.mp ha;have⟨j,hj,rfl⟩:=XA.mp hb;have E:=Zd.mp E;have hj:=Zd.mp hj;have:=Cr (n:=m) (a:=5+i) (b:=j) (by lia) (in5 hj) e
     lia
   .intro F hF';show FerOk (L.map (·.name)) F;rw[d];erw[hF F hF']
def zipK:List Str->List MV->List (Key×MV)
 |k::ks,v::vs=>(Xn k,v)::zipK ks vs
 |_,_=>[]
theorem U7:∀{j:List Str} {l:List MV},l.length=j.length->(zipK j l).length=j.length
 |[],[],_=>rfl
 |[],_::_,h=>by cases h
 |_::_,[],h=>by cases h
 |k::j,v::l,h=>by
  show(zipK j l).length+1=_;rw[U7 (by simpa using h)];rfl
theorem Ct:∀{j:List Str} {l:List MV},l.length=j.length->(zipK j l).map (·.1)=j.map Xn
 |[],[],_=>rfl
 |[],_::_,h=>by cases h
 |_::_,[],h=>by cases h
 |k::j,v::l,h=>by
  show Xn k::(zipK j l).map (·.1)=_;rw[Ct (by simpa using h)];rfl
theorem Yv:∀{j:List Str} {l:List MV} {i:Nat} {k:Str} {v:MV},j.Nodup->j[i]?=wc k->l[i]?=wc v->valM (zipK j l) (Xn k)=wc v
 |[],_,_,_,_,_,h,_=>by simp at h
 |_::_,[],_,_,_,_,_,h=>by simp at h
 |a::j,b::l,0,k,v,_,h1,h2=>by
  simp at h1 h2;subst h1 h2;simp[zipK,valM]
 |a::j,b::l,i+1,k,v,nd,h1,h2=>by
  rw[Yc]at nd;simp at h1 h2;have:a≠k:=λe=>nd.1 (e▸Xd h1);simp only[zipK,valM];rw[if_neg (λe=>this (Vo e))];erw[Yv nd.2 h1 h2]
theorem UZ:∀{j:List Str} {l:List MV} {i:Nat} {k:Str} {v:MV},l.length=j.length->j.Nodup->j[i]?=wc k->putM (zipK j l) (Xn k) v=zipK j (l.set i v)
 |[],_,_,_,_,_,_,h=>by simp at h
 |_::_,[],_,_,_,h,_,_=>by cases h
 |a::j,b::l,0,k,v,_,_,h1=>by
  simp at h1;subst h1;simp[zipK,putM]
 |a::j,b::l,i+1,k,v,hl,nd,h1=>by
  rw[Yc]at nd;simp at h1;have:a≠k:=λe=>nd.1 (e▸Xd h1);simp only[zipK,putM,List.set_cons_succ];rw[if_neg (λe=>this (Vo e)),UZ (by simpa using hl) nd.2 h1]
def Q6{l:Type} [DecidableEq l] {j:List (l×MV)}{k:l}{v:MV}:(∀p∈j,p.1≠k)->putM j k v=j++[(k,v)]:=by
 induction j with
 |nil=>intro _;rfl
 |cons p r u=>
  intro h;unfold putM;rw[if_neg (h p (Y2 ..)),u λq y=>h q (XJ _ y)];rfl
def _gD{j:List (Key×MV)}(l:(j.map (·.1)).Nodup):U2 j=j:=by
 have u:∀(j c:List (Key×MV)),((c++j).map (·.1)).Nodup->j.foldl (λc z=>putM c z.1 z.2) c=c++j:=by
  intro j
  induction j with
  |nil=>intro c _;simp
  |cons p r y=>
   intro c l;rw[Ve,Q6,y]
   .simp
   .simpa using l
   .intro q m e;rw[XY,YS]at l;erw[l.2.2 _ (XA.mpr ⟨q,m,rfl⟩) _ (XA.mpr ⟨p,Y2 ..,rfl⟩) e]
 have:=u j [] (by simpa using l)
 rw[Yk]at this;erw[this]
def Q7{j:List Str}{l:List MV}(u:l.length=j.length)(y:j.Nodup):U2 (zipK j l)=zipK j l:=by
 erw[_gD ?_];rw[Ct u];unfold List.Nodup;rw[CW];erw[Gm (λh e=>h (Vo e)) y]
def SrcFrom(S:Src)(M M1:MH):Prop:=(S.okF M1/\M1=M)\/∃a o j,S=.dic a o j/\M a=wc (.dic j)/\M1=updM M a (.fdic o j)
def SrcFrom.free{S:Src}{M M1:MH}(h:SrcFrom S M M1){p:Addr}(j:M1 p=we):M p=we:=by
 rcases h with⟨_,rfl⟩|⟨a,o,l,_,u,rfl⟩
 .erw[j]
 .by_cases e:p=a
  .subst e;rw[Xb]at j;cases j
  .rwa [X7 e]at j
theorem SrcFrom.ok{S:Src}{M M1 M2:MH}(h:SrcFrom S M M1)(s:SameM M1 M2):S.ok M2:=by
 rcases h with⟨j,rfl⟩|⟨a,o,l,rfl,j,rfl⟩
 .cases S with
  |tup _=>trivial
  |rng _ _=>trivial
  |dic _ _ _=>erw[j.elim]
  |str _=>trivial
  |lst a u=>erw[s _ _ j]
 .erw[s _ _ Xb]
theorem SrcFrom.thaw{S:Src}{M M1 M2:MH}(h:SrcFrom S M M1)(s:SameM M1 M2):SameM M (S.thaw M2)/\∀a,M1 a=we->(S.thaw M2) a=M2 a:=by
 rcases h with⟨l,rfl⟩|⟨a,o,j,rfl,l,rfl⟩
 .rw[C0 l];erw[⟨s,λ_ _=>rfl⟩]
 .erw[⟨λb u e=>?_,λb y=>?_⟩]
  .show updM M2 a (.dic j) b=_;by_cases z:b=a
   .subst z;rw[Xb];rw[l]at e;erw[e]
   .rw[X7 z];erw[s _ _ (by rw[X7 z];erw[e])]
  .show updM M2 a (.dic j) b=_;erw[X7 λz=>?_];subst z;rw[Xb]at y;cases y
theorem Q8:∀{j:List Str} {l:List MV} {k:Str} {v:MV},l.length=j.length->zipK (j++[k]) (l++[v])=zipK j l++[(Xn k,v)]
 |[],[],_,_,_=>rfl
 |[],_::_,_,_,h=>by cases h
 |_::_,[],_,_,h=>by cases h
 |k::j,v::l,_,_,h=>congrArg _ (Q8 (by simpa using h))
structure Dc where
 ks:List Str
 val:Nat->List Addr->MV
 C:Nat->List Addr->MH->Prop
 fr:∀j N M2 M3,(∀a∈N,M3 a=M2 a)->C j N M2->C j N M3
structure Got (d:Dc)(p:Addr)(Ns:List (List Addr))(M:MH):Prop where
 di:M p=wc (.dic (zipK d.ks (Ns.mapIdx d.val)))
 l:Ns.length=d.ks.length
 c:∀(j:Nat)N,Ns[j]?=wc N->d.C j N M
noncomputable def Laid(M j:MH)(A:List Addr):Prop:=A.Nodup/\∀a∈A,M a=we/\∃o,j a=wc o
def Laid.trans{M M1 M2:MH}{A B:List Addr}(h:Laid M M1 A)(g:Laid M1 M2 B)(l:SameM M M1)(u:SameM M1 M2):Laid M M2 (A++B):=
 ⟨YS.mpr ⟨h.1,g.1,λa j b y z=>by have⟨_,o,e⟩:=h.2 a j;rw[z,(g.2 b y).1]at e;cases e⟩,λa j=>(Yo.mp j).elim (λj=>⟨(h.2 a j).1,let⟨o,e⟩:=(h.2 a j).2;⟨o,u _ _ e⟩⟩) λj=>⟨l.free (g.2 a j).1,(g.2 a j).2⟩⟩
def Laid.one{M:MH}{p:Addr}(h:M p=we)(o:MO):Laid M (updM M p o) [p]:=⟨by simp,by simp[h,Xb]⟩
def Got.move{d:Dc}{p:Addr}{l:List (List Addr)}{M M':MH}(h:Got d p l M)(s:∀a∈p::l.flatten,M' a=M a):Got d p l M':=
 ⟨(s p (Y2 ..)).trans h.di,h.l,λj N u=>d.fr _ _ _ _ (λa y=>s a (XJ _ (VL.mpr ⟨N,Xd u,y⟩))) (h.c j N u)⟩
def Lays(u:List (Str×SpM))(y:Sm)(e:IE)(d:Dc)(M:MH):Prop:=∀Q:QM,(∀p l j,SameM M j->Got d p l j->Laid M j (p::l.flatten)->Q (.ref p) j)->wE u e y M Q
def dct{Y:List (Str×SpM)}(T:∀(j:Nat)f s,Y[j]?=wc (f,s)->MonW s){o:Str} {fr:List Nat} {r:ISr} {L:IE} {C:Sm} {M:MH} {d:Dc} (nd:d.ks.Nodup)(le:d.ks.length<sizeLine)
  (hs:wSr Y r C M λS M1=>S.len=d.ks.length/\SrcFrom S M M1/\∀(j:Nat)x k,S.items[j]?=wc x->d.ks[j]?=wc k->∀Z,SameM M1 Z->wE Y L (wc x::fr.map λi=>C.getD i we) Z λy M2=>SameM Z M2/\∃N,y=.tup [.str k,d.val j N]/\Laid Z M2 N/\d.C j N M2):
  Lays Y C (.bi .dictL (.comp [o] fr r (.nm 0) .none L) .nil) d M:=by
 intro Q q;simp!;rw[BZ];erw[mon_sr T r (λS M1 ⟨A,E,h4⟩=>?_) hs];erw[⟨by rw[A];erw[le],λD F=>⟨λi U M2=>SameM M1 M2/\M2 D=wc (.lst U)/\∃u:List (List Addr),u.length=i/\i<=d.ks.length/\U=(zipK (d.ks.take i) (u.mapIdx d.val)).map prM/\D∉u.flatten/\Laid M1 M2 u.flatten/\∀(j:Nat)N,u[j]?=wc N->d.C j N M2,?_,?_,?_,?_⟩⟩]
 .erw[⟨SameM.new F _,Xb,[],rfl,YB _,rfl,XM,⟨WD,λ_ h=>(XM h).elim⟩,λ_ _ h=>by cases h⟩]
 .rintro i U M2 ⟨O,R,u,rfl,_,rfl,_⟩;erw[⟨R,by rw[X5,U7 (by rw[CV,Yf];lia),Yf];lia,E.ok O⟩]
 .rintro i x U M2 n ⟨O,R,u,rfl,G,rfl,I,c,J⟩;have G:u.length<d.ks.length:=by rw[<-A,<-S.items_len];erw[(Xm.mp n).1]
  have b:=X6 G;erw[Xc T L (λy X ⟨B,N,e,m1,m3⟩=>?_) (h4 _ _ _ n b M2 O)];subst e;have dN:D∉N:=λz=>by have:=(m1.2 _ z).1;rw[R]at this;cases this
  have keep:∀y a,a≠D->updM X D y a=X a:=λ_ a z=>X7 z;have fl:(u++[N]).flatten=u.flatten++N:=by simp
  have dF:D∉(u++[N]).flatten:=by rw[fl,Yo];erw[λz=>z.elim I dN]
  erw[⟨B _ _ R,λa o z=>by rw[X7 (neM z F)];erw[B _ _ (O _ _ z)],Xb,u++[N],by simp,G,?_,dF,?_,?_⟩]
  .rw[Zp,b,List.mapIdx_concat];show _=(zipK (_++[_]) (_++[d.val u.length N])).map prM;rw[Q8 (by rw[CV,Yf];lia),XY]
   rfl
  .have t:=c.trans m1 O B;rw[<-fl]at t;erw[⟨t.1,λa m=>⟨(t.2 a m).1,by rw[keep _ a λz=>dF (z▸m)];erw[(t.2 a m).2]⟩⟩]
  .intro j N' g;by_cases hj:j<u.length
   .rw[ZA hj]at g;erw[d.fr _ _ M2 _ (λa m=>?_) (J j N' g)];have W:=VL.mpr ⟨N',Xd g,m⟩;have⟨_,o,z2⟩:=c.2 a W;rw[keep _ a λz=>I (z▸W),z2];erw[B _ _ z2]
   .have hl:=(Xm.mp g).1;rw[Ya,AM]at hl;obtain rfl:j=u.length:=by lia
    rw[Zn (X9 _),Nat.sub_self]at g;cases g;erw[d.fr _ _ X _ (λa m=>keep _ a λz=>dN (z▸m)) m3]
 .rintro U M2 ⟨O,R,u,g,_,rfl,I,c,J⟩;have g:u.length=d.ks.length:=g.trans A;have⟨t1,H⟩:=E.thaw O;rw[A,VI (X9 _)]at R;erw[⟨_,(H _ F).trans R,λp v=>?_⟩];rw[Q7 (by rw[CV,g]) nd]
  have s4:=SameM.new v (.dic (zipK d.ks (u.mapIdx d.val)));have l:Laid M (S.thaw M2) u.flatten:=⟨c.1,λa m=>⟨E.free (c.2 a m).1,by rw[H a (c.2 a m).1];erw[(c.2 a m).2]⟩⟩
  have np:p∉u.flatten:=λz=>by
   have⟨_,o,z⟩:=l.2 p z;rw[v]at z;cases z
  erw[q p u _ (t1.trans s4) ⟨Xb,g,λj N h=>d.fr _ _ M2 _ (λa m=>?_) (J j N h)⟩ ⟨Yc.mpr ⟨np,l.1⟩,AN.mpr ⟨⟨t1.free v,_,Xb⟩,λa m=>⟨(l.2 a m).1,let⟨o,e⟩:=(l.2 a m).2;⟨o,s4 _ _ e⟩⟩⟩⟩]
  have W:=VL.mpr ⟨N,Xd h,m⟩;rw[X7 λz:a=p=>np (z▸W),H a (c.2 a W).1]
def lays{p:List (Str×SpM)}(m:∀(j:Nat)f T,p[j]?=wc (f,T)->MonW T){o:Str} {x:Nat} {n:Int} {E:IE} {U:Sm} {M:MH} {d:Dc} {v:MV} {L:Type} {z:List L} {f:L->MV} {nm:L->Str} (Y:U[x]?=wc (wc v))(O:∀M (Q:QM),Q (.tup (z.map f)) M->wIx v (.int n) M Q)(Z:∀x,∃l,f x=.tup (.str (nm x)::l))(R:d.ks=z.map nm)(A:d.ks.Nodup)(le:z.length<sizeLine)
  (r:∀(j:Nat)u,z[j]?=wc u->∀g,wE p E [wc (f u)] g λy M2=>SameM g M2/\∃N,y=d.val j N/\Laid g M2 N/\d.C j N M2):Lays p U (.bi .dictL (.comp [o] [] (.seq (.ix (.var x) (.int n))) (.nm 0) .none (.tup (.cons (.ix (.var 0) (.int 0)) (.cons E .nil)))) .nil) d M:=by
 erw[dct m A (by rw[R,X5];erw[le]) ?_]
 simp![Y]
 erw[O _ _ ?_];simp!;erw[⟨by rw[R];erw[(X5 ..).trans (X5 ..).symm],.inl ⟨trivial,rfl⟩,λj y k B q g _=>?_⟩]
 have⟨W,rfl⟩:=YO (show(z.map f)[j]?=wc y from B);rw[R,Xe,X6 W]at q;cases q;have⟨l,e⟩:=Z z[j];simp only[Yb];have r:=r j _ (X6 W) g;rw[e]at r ⊢;simp!;erw[Xc m E (λy M2 ⟨s,N,e,l,c⟩=>⟨s,N,by rw[e],l,c⟩) r]
structure Std where
 num:List Nat
 wd:List (List (Key×MV))
 giv:List (List Int)
 tak:List Nat
structure StA where
 pn:Addr
 pw:Addr
 pg:Addr
 pt:Addr
 ws:List Addr
 gs:List Addr
noncomputable def StA.mv(A:StA):MV:=.tup [.ref A.pn,.ref A.pw,.ref A.pg,.ref A.pt]
structure StdAt (W:Wld)(S:Std)(M:MH)(A:StA):Prop where
 n:M A.pn=wc (.dic (zipK W.ins (S.num.map natM)))
 w:M A.pw=wc (.dic (zipK W.ins (A.ws.map MV.ref)))
 g:M A.pg=wc (.dic (zipK W.fns (A.gs.map MV.ref)))
 t:M A.pt=wc (.dic (zipK W.fns (S.tak.map natM)))
 wl:A.ws.length=W.isl.length
 gl:A.gs.length=W.fer.length
 wv:∀(i:Nat)a kvs,A.ws[i]?=wc a->S.wd[i]?=wc kvs->M a=wc (.dic kvs)
 gv:∀(j:Nat)a xs,A.gs[j]?=wc a->S.giv[j]?=wc xs->M a=wc (.lst (xs.map MV.int))
def StdAt.keep{W:Wld}{S:Std}{M M':MH}{A:StA}(s:SameM M M')(h:StdAt W S M A):StdAt W S M' A:=
 ⟨s _ _ h.n,s _ _ h.w,s _ _ h.g,s _ _ h.t,h.wl,h.gl,λi a k x y=>s _ _ (h.wv i a k x y),λi a k x y=>s _ _ (h.gv i a k x y)⟩
def WdOk(w:Nat)(I:Isl)(j:List (Key×MV)):Prop:=∃l:List Int,l.length=I.vars.length/\j=zipK I.vars (l.map MV.int)/\∀v∈l,0<=v/\v<2^w
structure SOk (W:Wld)(c:Nat)(S:Std):Prop where
 nl:S.num.length=W.isl.length
 wl:S.wd.length=W.isl.length
 gl:S.giv.length=W.fer.length
 tl:S.tak.length=W.fer.length
 ni:∀(i:Nat)I n,W.isl[i]?=wc I->S.num[i]?=wc n->n<=I.stps.length
 wi:∀(i:Nat)I kvs,W.isl[i]?=wc I->S.wd[i]?=wc kvs->WdOk W.w I kvs
 gi:∀xs∈S.giv,xs.length<=c/\∀v∈xs,0<=v/\v<2^W.w
 ti:∀(j:Nat)xs n,S.giv[j]?=wc xs->S.tak[j]?=wc n->n<=xs.length
def rhoK(j:List (Key×MV))(x:Str):Int:=match valM j (Xn x)with
 |wc (.int i)=>i
 |_=>0
def WdOk.at{k:Nat}{I:Isl}{j:List (Key×MV)}(h:WdOk k I j)(y:I.vars.Nodup){x:Str}(z:x∈I.vars):valM j (Xn x)=wc (.int (rhoK j x))/\0<=rhoK j x/\rhoK j x<2^k:=by
 have⟨l,c,rfl,m⟩:=h;have⟨i,g,rfl⟩:=Yn z;have u:i<l.length:=by lia
 have e:valM (zipK I.vars (l.map MV.int)) (Xn I.vars[i])=wc (.int l[i]):=Yv (i:=i) y (X6 g) (by rw[Xe,X6 u];rfl)
 have d:rhoK (zipK I.vars (l.map MV.int)) I.vars[i]=l[i]:=by unfold rhoK;rw[e]
 rw[d];erw[⟨e,m _ (XS u)⟩]
def WdOk.reads{k:Nat}{I:Isl}{j:List (Key×MV)}(h:WdOk k I j)(l:I.vars.Nodup):readsOk I.vars j (rhoK j) k:=λ_ u=>h.at l u
def WdOk.len{k:Nat}{I:Isl}{j:List (Key×MV)}(h:WdOk k I j):j.length=I.vars.length:=by
 have⟨u,l,rfl,y⟩:=h;erw[U7 (by rw[X5];erw[l])]
def WdOk.nodup{k:Nat}{I:Isl}{l:List (Key×MV)}(h:WdOk k I l)(m:I.vars.Nodup):(l.map (·.1)).Nodup/\∀p∈l,Yh p.2=wf:=by
 have⟨j,g,rfl,f⟩:=h;have d:(j.map MV.int).length=I.vars.length:=by rw[X5];erw[g]
 erw[⟨?_,?_⟩]
 .rw[Ct d];unfold List.Nodup;rw[CW];erw[Gm (λh e=>h (Vo e)) m]
 .have z:∀(y:List Str)(j:List Int),∀p∈zipK y (j.map MV.int),Yh p.2=wf:=by
   intro y
   induction y with
   |nil=>intro j p u;cases u
   |cons k y c=>
    intro j p u;cases j with
    |nil=>cases u
    |cons v j=>
     rcases Xj.mp u with rfl|u
     .rfl
     .erw[c j p u]
  erw[z _ _]
def WdOk.put{k:Nat}{I:Isl}{j:List (Key×MV)}(h:WdOk k I j)(z:I.vars.Nodup){x:Str}(m:x∈I.vars){v:Int}(g:0<=v/\v<2^k):WdOk k I (putM j (Xn x) (.int v)):=by
 have⟨d,y,rfl,c⟩:=h;have⟨i,f,rfl⟩:=Yn m;erw[⟨d.set i v,by rw[ZV];erw[y],?_,λu l=>?_⟩]
 .rw[UZ (i:=i) (by rw[X5];erw[y]) z (X6 f),UK]
 .rcases AL l with l|rfl
  .erw[c u l]
  .erw[g]
noncomputable def Wld.fat(W:Wld)(f:Str):Nat:=W.fns.idxOf f
def YX{W:Wld}{f:Str}(h:f∈W.fns):W.fns[W.fat f]?=wc f/\W.fat f<W.fer.length:=by
 have l:W.fns.idxOf f<W.fns.length:=List.idxOf_lt_length_iff.mpr h;erw[⟨?_,by unfold Wld.fns at l;rw[X5]at l;erw[l]⟩]
 unfold Wld.fat;rw[X6 l,List.getElem_idxOf l]
noncomputable def canM(W:Wld)(S:Std):Stp->Bool
 |.take f _=>decide (S.tak.getD (W.fat f) 0<(S.giv.getD (W.fat f) []).length)
 |.give f _=>decide (((S.giv.getD (W.fat f) []).length:Int) - (S.tak.getD (W.fat f) 0:Nat)<2^(W.fer.map (·.k)).getD (W.fat f) 0)
 |_=>wf
noncomputable def Z7(W:Wld)(S:Std):Stp->MV
 |.take f _=>.int ((S.giv.getD (W.fat f) []).getD (S.tak.getD (W.fat f) 0) 0)
 |_=>.non
noncomputable def givM(W:Wld)(j:Str->Int)(s:Stp)(g:List (List Int)):List (List Int):=match s with
 |.give f T=>g.set (W.fat f) (g.getD (W.fat f) []++[T.val j W.w])
 |_=>g
noncomputable def tkM(W:Wld)(S:Std)(s:Stp)(t:List Nat):List Nat:=match s with
 |.take f _=>t.set (W.fat f) (S.tak.getD (W.fat f) 0+1)
 |_=>t
def Zw(W:Wld)(S:Std)(i:Nat)(s:Stp)(B:Std):Std:=
 {num:=B.num.set i (XV s (rhoK (S.wd.getD i [])) W.w (S.num.getD i 0)).toNat
  wd:=B.wd.set i (YG s (S.wd.getD i []) (rhoK (S.wd.getD i [])) W.w (Z7 W S s))
  giv:=givM W (rhoK (S.wd.getD i [])) s B.giv
  tak:=tkM W S s B.tak}
def YY(W:Wld)(S:Std)(i:Nat)(I:Isl):Option Stp:=match I.stps[S.num.getD i 0]? with
 |wc s=>if canM W S s then wc s else we
 |we=>we
def YZ(W:Wld)(S:Std)(i:Nat)(p:Std×List Str):Std×List Str:=match W.isl[i]? with
 |wc I=>match YY W S i I with
  |wc s=>(Zw W S i s p.1,p.2++[I.name])
  |we=>p
 |we=>p
def Xy(W:Wld)(S:Std):Nat->Std×List Str
 |0=>(S,[])
 |i+1=>YZ W S i (Xy W S i)
def UD{W:Wld}(G:W.Good){i:Nat}{I:Isl}(j:W.isl[i]?=wc I){n:Nat} {s:Stp} (l:I.stps[n]?=wc s):Zj W.fns I.vars I.stps.length s:=(G.io I (Xd j)).st s (Xd l)
def Cu{fs j:List Str}{n:Nat}{s:Stp}(h:Zj fs j n s):s.ok j n:=by
 cases s with
 |take f x=>erw[h.2]
 |give f T=>erw[h.2]
 |put x T=>erw[h]
 |jump T i=>erw[h]
def _8{j:Type}{l:List j}{i:Nat}{x d:j}(h:l[i]?=wc x):l.getD i d=x:=by rw[Y1,h];rfl
def Q9{s:Stp}{fs u:List Str}{k:Nat}(h:Zj fs u k s){l:Str->Int}{w n:Nat}(m:n<k):0<=XV s l w n/\(XV s l w n).toNat<=k/\XV s l w n=((XV s l w n).toNat:Int):=by
 have a:0<=XV s l w n/\XV s l w n<=k:=by
  cases s with
  |jump T j=>
   have⟨_,y,z⟩:=h;unfold XV;dsimp only;split
   .erw[⟨y,z⟩]
   .lia
  |take f x=>unfold XV;dsimp only;lia
  |give f x=>unfold XV;dsimp only;lia
  |put f x=>unfold XV;dsimp only;lia
 lia
def Y9{l:Type}{u:List l}{i j:Nat}{v x:l}(h:(u.set i v)[j]?=wc x):(j=i/\x=v)\/(j≠i/\u[j]?=wc x):=by
 rw[Vc]at h;by_cases e:i=j
 .subst e;rw[if_pos rfl]at h;split at h
  .erw[.inl ⟨rfl,(Y4 h).symm⟩]
  .cases h
 .rw[if_neg e]at h;erw[.inr ⟨λz=>e z.symm,h⟩]
noncomputable def Cv(S B:Std):Prop:=∀(j:Nat)l u,S.giv[j]?=wc l->B.giv[j]?=wc u->l.length<=u.length
def SOk.up{W:Wld}{c d:Nat}{S:Std}(h:SOk W c S)(l:c<=d):SOk W d S:=⟨h.nl,h.wl,h.gl,h.tl,h.ni,h.wi,λj u=>⟨Xv (h.gi j u).1 l,(h.gi j u).2⟩,h.ti⟩
def Qa{W:Wld}{c:Nat}{S:Std}(h:SOk W c S){i:Nat}{I:Isl}(j:W.isl[i]?=wc I):S.num[i]?=wc (S.num.getD i 0):=by
 have l:i<S.num.length:=by rw[h.nl];erw[(Xm.mp j).1]
 rw[Y1,X6 l];rfl
def Vy{W:Wld}{c:Nat}{S:Std}(h:SOk W c S){i:Nat}{I:Isl}(j:W.isl[i]?=wc I):S.wd[i]?=wc (S.wd.getD i []):=by
 have l:i<S.wd.length:=by rw[h.wl];erw[(Xm.mp j).1]
 rw[Y1,X6 l];rfl
def At{W:Wld}{c:Nat}{S:Std}(h:SOk W c S){j:Nat}(u:j<W.fer.length):S.giv[j]?=wc (S.giv.getD j []):=by
 have l:j<S.giv.length:=by rw[h.gl];erw[u]
 rw[Y1,X6 l];rfl
def _oZ{W:Wld}{c:Nat}{S:Std}(h:SOk W c S){j:Nat}(u:j<W.fer.length):S.tak[j]?=wc (S.tak.getD j 0):=by
 have l:j<S.tak.length:=by rw[h.tl];erw[u]
 rw[Y1,X6 l];rfl
set_option tactic.hygienic true in
def Cw{W:Wld}{S:Std}{i:Nat}{I:Isl}{s:Stp}(h:YY W S i I=wc s):I.stps[S.num.getD i 0]?=wc s/\canM W S s=wf:=by
 unfold YY at h;split at h
 .rename_i j e
  split at h
  .cases h;erw[⟨e,‹_›⟩]
  .cases h
 .cases h
def Qb{W:Wld}{c:Nat}{S:Std}(u:SOk W c S){f x:Str}(y:f∈W.fns)(j:canM W S (.take f x)=wf):∃v,Z7 W S (.take f x)=.int v/\(S.giv.getD (W.fat f) [])[S.tak.getD (W.fat f) 0]?=wc v/\0<=v/\v<2^W.w:=by
 have l:=(YX y).2;have j:S.tak.getD (W.fat f) 0<(S.giv.getD (W.fat f) []).length:=of_decide_eq_true j;erw[⟨_,rfl,?_,?_⟩]
 .rw[Y1 (l:=S.giv.getD (W.fat f) []),X6 j];rfl
 .rw[Y1 (l:=S.giv.getD (W.fat f) []),X6 j];erw[(u.gi _ (Xd (At u l))).2 _ (XS j)]
def _ib{W:Wld}(G:W.Good){c:Nat}{S:Std}(m:SOk W c S){i:Nat}{I:Isl}(u:W.isl[i]?=wc I){s:Stp} (d:YY W S i I=wc s):WdOk W.w I (YG s (S.wd.getD i []) (rhoK (S.wd.getD i [])) W.w (Z7 W S s)):=by
 have⟨q,r⟩:=Cw d;have z:=UD G u q;have l:=m.wi i I _ u (Vy m u);have g:=(G.io I (Xd u)).nd;cases s with
 |take f x=>
  have⟨v,e,_,p⟩:=Qb m z.1 r;rw[e];erw[l.put g z.2 p]
 |give f T=>erw[l]
 |put x T=>erw[l.put g z.1 (Tm.val_in G.w1 λy L=>(l.at g (z.2.2.2 y L)).2)]
 |jump T j=>erw[l]
def _gb{W:Wld}(G:W.Good){c d:Nat}{S B:Std}(O:SOk W c S)(g:SOk W d B)(D:Cv S B){i:Nat}{I:Isl}(q:W.isl[i]?=wc I){s:Stp} (E:YY W S i I=wc s):
  SOk W (d+1) (Zw W S i s B)/\Cv S (Zw W S i s B):=by
 have⟨F,M⟩:=Cw E;have R:=UD G q F;have Y:S.num.getD i 0<I.stps.length:=(Xm.mp F).1;have Q:=O.wi i I _ q (Vy O q);have X:=(G.io I (Xd q)).nd;have H:(givM W (rhoK (S.wd.getD i [])) s B.giv).length=B.giv.length:=by
  cases s<;>simp[givM]
 have o:(tkM W S s B.tak).length=B.tak.length:=by
  cases s<;>simp[tkM]
 have r:∀(j:Nat)z,(givM W (rhoK (S.wd.getD i [])) s B.giv)[j]?=wc z->∃m,B.giv[j]?=wc m/\m.length<=z.length/\z.length<=m.length+1/\∀v∈z,v∈m\/(0<=v/\v<2^W.w):=by
  intro j z h;cases s with
  |give f T=>
   have h:(B.giv.set (W.fat f) (B.giv.getD (W.fat f) []++[T.val (rhoK (S.wd.getD i [])) W.w]))[j]?=wc z:=h;rcases Y9 h with⟨rfl,rfl⟩|⟨_,h⟩
   .erw[⟨_,At g (YX R.1).2,by simp,by simp,λv l=>?_⟩]
    rcases Yo.mp l with l|l
    .erw[.inl l]
    .rw[Ye]at l;subst l;erw[.inr (Tm.val_in G.w1 λy p=>(Q.at X (R.2.2.2 y p)).2)]
   .erw[⟨z,h,X9 _,YC _,λv l=>.inl l⟩]
  |take f x=>erw[⟨z,h,X9 _,YC _,λv l=>.inl l⟩]
  |put f x=>erw[⟨z,h,X9 _,YC _,λv l=>.inl l⟩]
  |jump f x=>erw[⟨z,h,X9 _,YC _,λv l=>.inl l⟩]
 have Z:∀(j:Nat)n,(tkM W S s B.tak)[j]?=wc n->B.tak[j]?=wc n\/(j<W.fer.length/\n=S.tak.getD j 0+1/\S.tak.getD j 0<(S.giv.getD j []).length):=by
  intro j n h;cases s with
  |take f x=>
   have h:(B.tak.set (W.fat f) (S.tak.getD (W.fat f) 0+1))[j]?=wc n:=h;rcases Y9 h with⟨rfl,rfl⟩|⟨_,h⟩
   .erw[.inr ⟨(YX R.1).2,rfl,of_decide_eq_true M⟩]
   .erw[.inl h]
  |give f x=>erw[.inl h]
  |put f x=>erw[.inl h]
  |jump f x=>erw[.inl h]
 erw[⟨⟨by simp[Zw,g.nl],by simp[Zw,g.wl],H.trans g.gl,o.trans g.tl,?_,?_,?_,?_⟩,?_⟩]
 .intro L A n u h;rcases Y9 (show(B.num.set i _)[L]?=wc n from h)with⟨rfl,rfl⟩|⟨_,h⟩
  .rw[q]at u;cases u;erw[(Q9 R Y).2.1]
  .erw[g.ni L A n u h]
 .intro L A N u h;rcases Y9 (show(B.wd.set i _)[L]?=wc N from h)with⟨rfl,rfl⟩|⟨_,h⟩
  .rw[q]at u;cases u;erw[_ib G O q E]
  .erw[g.wi L A N u h]
 .intro z p;have⟨j,b,rfl⟩:=Yn p;have⟨m,e,U,J,C⟩:=r j _ (X6 b);have:=g.gi m (Xd e);erw[⟨by have:=this.1;lia,λv l=>?_⟩]
  rcases C v l with l|l
  .erw[this.2 v l]
  .erw[l]
 .intro j z n p Y;have⟨m,e,U,J,C⟩:=r j _ p;rcases Z j n Y with h|⟨a,rfl,h2⟩
  .erw[Xv (g.ti j m n e h) U]
  .have:=D j _ m (At O a) e;lia
 .intro j xs z hx p;have⟨m,e,U,J,C⟩:=r j _ p;erw[Xv (D j xs m hx e) U]
set_option tactic.hygienic true in
theorem V0{W:Wld}(G:W.Good){c:Nat}{S:Std}(m:SOk W c S):∀i:Nat,SOk W (c+i) (Xy W S i).1/\Cv S (Xy W S i).1/\(∀z∈(Xy W S i).2,z∈W.ins)/\(Xy W S i).2.length<=i
 |0=>⟨m,λj q r y l=>by rw[show(Xy W S 0).1=S from rfl,y]at l;cases l;erw[X9 _],λz h=>(nomatch h),X9 _⟩
 |i+1=>by
  have⟨y,l,g,p⟩:=V0 G m i;show SOk W (c+(i+1)) (YZ W S i (Xy W S i)).1/\Cv S (YZ W S i (Xy W S i)).1/\(∀z∈(YZ W S i (Xy W S i)).2,z∈W.ins)/\(YZ W S i (Xy W S i)).2.length<=i+1;unfold YZ;split
  .rename_i I d
   split
   .rename_i s f
    have⟨a,b⟩:=_gb G m y l d f;erw[⟨a,b,λz u=>?_,by simp;lia⟩]
    rcases Yo.mp u with u|u
    .erw[g z u]
    .rw[Ye]at u;subst u;erw[XA.mpr ⟨I,Xd d,rfl⟩]
   .erw[⟨y.up (by lia),l,g,by lia⟩]
  .erw[⟨y.up (by lia),l,g,by lia⟩]
def Qc(W:Wld)(S:Std):Std:=(Xy W S W.isl.length).1
def ZQ(W:Wld)(S:Std):List Str:=(Xy W S W.isl.length).2
def Wld.Good.in_nd{W:Wld}(G:W.Good):W.ins.Nodup:=(YS.mp G.nd).2.1
def Wld.Good.fn_nd{W:Wld}(G:W.Good):W.fns.Nodup:=(YS.mp G.nd).1
def Y5{W:Wld}{i:Nat}{I:Isl}(h:W.isl[i]?=wc I):W.ins[i]?=wc I.name:=by unfold Wld.ins;rw[Xe,h];rfl
def V1{W:Wld}{i:Nat}{f:Fer}(h:W.fer[i]?=wc f):W.fns[i]?=wc f.name:=by unfold Wld.fns;rw[Xe,h];rfl
noncomputable abbrev Qd:SpM:=λg M Q=>∃(l:List Str) (m:List MV) (i:Nat) (z:Str) (y:MV),g=[.tup m,.str z]/\(∀(j:Nat)u,m[j]?=wc u->∃x r,u=.tup (.str x::r)/\l[j]?=wc x)/\l.Nodup/\l[i]?=wc z/\m[i]?=wc y/\Q y M
def _71:MonW Qd:=by walk_at "m"
def Qe(T:Txt K mg t):FO P w K mg base 1 "one_called" Qd:=by
 erw[T.cv.ok T.g _71 2 ["row","name","one"] (fC T f0) L6 (fun U M Q h=>?_) (fun U M Q h=>?_)]
 .have⟨_,_,_,_,_,rfl,_⟩:=h;rfl
 have⟨Z,f,i,z,y,rfl,W,Y,N,R,q⟩:=h;show wSs _ _ _ [wc (.tup f),wc (.str z),we] M;delta L6;simp!;obtain⟨J,p⟩:∃J:Nat->Sm->MH->Prop,∀j g d,J j g d↔d=M/\j<=i/\∃v,g=[wc (.tup f),wc (.str z),v]:=⟨_,λ_ _ _=>Yd⟩;erw[⟨J,(p _ _ _).mpr ⟨rfl,YB _,_,rfl⟩,λj g d h=>trivial,?_,?_⟩]
 .rintro j u g d c h;have⟨rfl,L,v,rfl⟩:=(p _ _ _).mp h;have c:f[j]?=wc u:=c;have⟨x,r,rfl,O⟩:=W j u c;delta L5;simp!;erw[XU (λe=>?_) (λe=>?_)]
  .subst e;have m:j=i:=(Ue (Xm.mp O).1 Y).mp (O.trans N.symm);subst m;delta L4;simp!;rw[R]at c;cases c;erw[q]
  .erw[(p _ _ _).mpr ⟨rfl,?_,_,rfl⟩];rcases Be j i with l|l
   .erw[l]
   .exfalso;have m:j=i:=Nat.le_antisymm L l;subst m;rw[O]at N;erw[e (Y4 N)]
 .rintro g d h;exfalso;have⟨_,L,_⟩:=(p _ _ _).mp h;have L:f.length<=i:=L;have:=(Xm.mp R).1;lia
noncomputable abbrev V2:SpM:=λj M Q=>∃(W:Wld) (i:Nat) (I:Isl),j=[W.mv,.str I.name]/\W.Good/\W.isl[i]?=wc I/\Q I.mv M
def _8B:MonW V2:=by walk_at "m"
def Fj(T:Txt K mg t):FO P w K mg base 2 "island_of" V2:=by
 erw[T.aQ.ok T.g _8B 2 ["world","name"] (fC T (fc (Qe T) f0)) L7 (fun y M Q h=>?_) (fun y M Q h=>?_)]
 .have⟨_,_,_,rfl,_⟩:=h;rfl
 have⟨W,i,I,rfl,G,l,q⟩:=h;show wSs _ _ _ [wc W.mv,wc (.str I.name)] M;delta L7;rw[Wld.mv];simp!;erw[ex5 W.ins (W.isl.map Isl.mv) i I.name I.mv ⟨rfl,λj u z=>?_,G.in_nd,Y5 l,by rw[Xe,l];rfl,q⟩]
 have⟨m,rfl⟩:=YO z;erw[⟨_,_,rfl,Y5 (X6 m)⟩]
noncomputable abbrev Qf:SpM:=λj M Q=>∃(W:Wld) (i:Nat) (f:Fer),j=[W.mv,.str f.name]/\W.Good/\W.fer[i]?=wc f/\Q f.mv M
def _9g:MonW Qf:=by walk_at "m"
def _dw(T:Txt K mg t):FO P w K mg base 2 "ferry_of" Qf:=by
 erw[T.bH.ok T.g _9g 2 ["world","name"] (fC T (fc (Qe T) f0)) L8 (fun y M Q h=>?_) (fun y M Q h=>?_)]
 .have⟨_,_,_,rfl,_⟩:=h;rfl
 have⟨W,i,I,rfl,G,l,q⟩:=h;show wSs _ _ _ [wc W.mv,wc (.str I.name)] M;delta L8;rw[Wld.mv];simp!;erw[ex5 W.fns (W.fer.map Fer.mv) i I.name I.mv ⟨rfl,λj u z=>?_,G.fn_nd,V1 l,by rw[Xe,l];rfl,q⟩]
 have⟨m,rfl⟩:=YO z;erw[⟨_,_,rfl,V1 (X6 m)⟩]
def Fk{W:Wld}(G:W.Good){c:Nat}{S:Std}(l:SOk W c S){i:Nat}{I:Isl}(j:W.isl[i]?=wc I):valM (zipK W.ins (S.num.map natM)) (Xn I.name)=wc (.int (S.num.getD i 0:Nat)):=Yv G.in_nd (Y5 j) (by rw[Xe,Qa l j];rfl)
def Fl{W:Wld}(G:W.Good){j:List Addr}{i:Nat}{I:Isl}{a:Addr}(l:W.isl[i]?=wc I)(u:j[i]?=wc a):valM (zipK W.ins (j.map MV.ref)) (Xn I.name)=wc (.ref a):=Yv G.in_nd (Y5 l) (by rw[Xe,u];rfl)
def Cy{W:Wld}(G:W.Good){j:List Addr}{f:Str}{a:Addr}(l:f∈W.fns)(u:j[W.fat f]?=wc a):valM (zipK W.fns (j.map MV.ref)) (Xn f)=wc (.ref a):=Yv G.fn_nd (YX l).1 (by rw[Xe,u];rfl)
def Cz{W:Wld}(G:W.Good){c:Nat}{S:Std}(l:SOk W c S){f:Str}(j:f∈W.fns):valM (zipK W.fns (S.tak.map natM)) (Xn f)=wc (.int (S.tak.getD (W.fat f) 0:Nat)):=Yv G.fn_nd (YX j).1 (by rw[Xe,_oZ l (YX j).2];rfl)
def StdAt.ws_at{W:Wld}{S:Std}{M:MH}{A:StA}(h:StdAt W S M A){c:Nat}(u:SOk W c S){i:Nat}{I:Isl}(j:W.isl[i]?=wc I):∃a,A.ws[i]?=wc a/\M a=wc (.dic (S.wd.getD i [])):=by
 have l:i<A.ws.length:=by rw[h.wl];erw[(Xm.mp j).1]
 erw[⟨_,X6 l,h.wv i _ _ (X6 l) (Vy u j)⟩]
def StdAt.gs_at{W:Wld}{S:Std}{M:MH}{A:StA}(h:StdAt W S M A){c:Nat}(u:SOk W c S){f:Str}(j:f∈W.fns):∃a,A.gs[W.fat f]?=wc a/\M a=wc (.lst ((S.giv.getD (W.fat f) []).map MV.int)):=by
 have l:W.fat f<A.gs.length:=by rw[h.gl];erw[(YX j).2]
 erw[⟨_,X6 l,h.gv _ _ _ (X6 l) (At u (YX j).2)⟩]
abbrev Qg:SpM:=λj M Q=>∃(W:Wld) (S:Std) (A:StA) (c i:Nat) (I:Isl),j=[W.mv,A.mv,.str I.name]/\W.Good/\SOk W c S/\StdAt W S M A/\W.isl[i]?=wc I/\Q (dueM I.stps (rhoK (S.wd.getD i [])) W.w (S.num.getD i 0)) M
def _ah:MonW Qg:=by walk_at "m"
def _fh(T:Txt K mg t):FO P w K mg base 51 "wish_of" Qg:=by
 erw[T.aW.ok T.g _ah 3 ["world","stand","name"] (fC T (fc (Fj T) (fc (OP T) f0))) Lb (fun y M Q h=>?_) (fun y M Q h=>?_)]
 .have⟨_,_,_,_,_,_,rfl,_⟩:=h;rfl
 have⟨W,S,A,c,i,I,rfl,G,l,u,j,q⟩:=h;show wSs _ _ _ [wc W.mv,wc A.mv,wc (.str I.name)] M;have⟨a,z,m⟩:=u.ws_at l j;have ok:=G.io I (Xd j);delta Lb;rw[Wld.mv,StA.mv]
 simp![u.n,u.w]
 erw[ex3 W i I ⟨rfl,G,j,?_⟩];rw[Isl.mv]
 simp![u.n,u.w]
 erw[⟨_,Fk G l j,_,Fl G j z,?_⟩];erw[ex8 _ a I.stps (S.num.getD i 0) W.w (S.wd.getD i []) (rhoK (S.wd.getD i [])) I.vars ⟨rfl,.inl rfl,λs g=>Cu (ok.st s g),l.ni i I _ j (Qa l j),G.w1,G.w2,m,(l.wi i I _ j (Vy l j)).reads ok.nd,q⟩]
noncomputable def askM(s:Stp)(j:Str->Int)(w:Nat):MV:=match s with
 |.take f _=>.tup [.str "take",.str f]
 |.give f T=>.tup [.str "give",.str f,.int (T.val j w)]
 |_=>.tup [.str "own"]
def _mu{j:List Stp}{i:Nat}{s:Stp}(h:j[i]?=wc s)(l:Str->Int)(w:Nat):dueM j l w i=askM s l w:=by
 unfold dueM;rw[h];cases s<;>rfl
abbrev Qh:SpM:=λj M Q=>∃(W:Wld) (S:Std) (A:StA) (c:Nat) (s:Stp) (l:Str->Int) (u:List Str) (k:Nat),j=[W.mv,A.mv,askM s l W.w]/\W.Good/\SOk W c S/\StdAt W S M A/\Zj W.fns u k s/\Q (.bl (canM W S s)) M
def _bN:MonW Qh:=by walk_at "m"
def _gN(T:Txt K mg t):FO P w K mg base 3 "can_be" Qh:=by
 erw[T.cr.ok T.g _bN 3 ["world","stand","asked","under_way"] (fC T (fc (_dw T) (fc (Aq T) f0))) Lf (fun r M Q h=>?_) (fun r M Q h=>?_)]
 .have⟨_,_,_,_,_,_,_,_,rfl,_⟩:=h;rfl
 have⟨W,S,A,c,s,p,R,k,rfl,G,z,j,l,q⟩:=h;show wSs _ _ _ [wc W.mv,wc A.mv,wc (askM s p W.w),we] M;delta Lf;rw[Wld.mv,StA.mv];cases s with
 |put x T=>
  simp only[askM];simp!;delta En;simp!;erw[q]
 |jump x T=>
  simp only[askM];simp!;delta En;simp!;erw[q]
 |take f x=>
  simp only[askM];have⟨a,m,g⟩:=j.gs_at z l.1;simp!;delta Em
  simp![j.g,j.t]
  erw[⟨_,Cy G l.1 m,?_⟩]
  simp![g,j.t]
  erw[⟨_,Cz G z l.1,?_⟩];simp!;delta El;simp!;delta Ld;simp!;have e:canM W S (.take f x)=decide ((((S.giv.getD (W.fat f) []).map MV.int).length:Int) - (S.tak.getD (W.fat f) 0:Nat)>0):=by
   unfold canM;rw[X5];erw[decide_eq_decide.mpr ⟨λh=>by lia,λh=>by lia⟩]
  rw[e]at q;erw[q]
 |give f T=>
  simp only[askM];have⟨a,m,g⟩:=j.gs_at z l.1;have⟨d,y⟩:=YX l.1;have u:=X6 y;have L:(W.fer[W.fat f]).name=f:=by have:=V1 u;rw[d]at this;erw[(Y4 this).symm]
  have N:=G.fo _ (XS y);have U:=N.k3;simp!;delta Em
  simp![j.g,j.t]
  erw[⟨_,Cy G l.1 m,?_⟩]
  simp![g,j.t]
  erw[⟨_,Cz G z l.1,?_⟩];simp!;delta El;simp!;delta Lc;simp!;erw[ex3 W (W.fat f) (W.fer[W.fat f]) ⟨by rw[L];rfl,G,u,?_⟩]
  rw[Fer.mv];simp!;erw[⟨(W.fer[W.fat f]).k,rfl,by lia,?_⟩]
  simp!;have e:(W.fer.map (·.k)).getD (W.fat f) 0=(W.fer[W.fat f]).k:=by rw[Y1,Xe,u];rfl
  have O:canM W S (.give f T)=decide (((S.giv.getD (W.fat f) []).length:Int) - (S.tak.getD (W.fat f) 0:Nat)<2^(W.fer.map (·.k)).getD (W.fat f) 0):=rfl;rw[O,e]at q;rw[X5];erw[q]
def _jd{j u:Type}(f:j->u){l:List j}:l.mapIdx (λ_=>f)=l.map f:=by
 apply WB;intro i;rw[List.getElem?_mapIdx,Xe]
def Got.dm{d:Dc}{p:Addr}{j:List (List Addr)}{M:MH}{f:List Addr->MV}(h:Got d p j M)(e:d.val=λ_=>f):M p=wc (.dic (zipK d.ks (j.map f))):=by
 rw[h.di,e,_jd]
def ins_len{W:Wld}:W.ins.length=W.isl.length:=by unfold Wld.ins;rw[X5]
def fns_len{W:Wld}:W.fns.length=W.fer.length:=by unfold Wld.fns;rw[X5]
noncomputable abbrev hd(N:List Addr):Addr:=N.getD 0 default
theorem Fm:∀{L:List (List Addr)},(∀(j:Nat)N,L[j]?=wc N->∃p,N=[p])->L.flatten=L.map hd
 |[],_=>rfl
 |N::L,h=>by
  have⟨p,rfl⟩:=h 0 N rfl;rw[ZD,Fm λj N z=>h (j+1) N (by simpa using z)];rfl
def wd0(I:Isl):List (Key×MV):=zipK I.vars ((I.prs.map (·.2)).map MV.int)
def Fn{w:Nat}{I:Isl}(l:I.vars.Nodup)(u:∀p∈I.prs,0<=p.2/\p.2<2^w):U2 (I.prs.map λp=>((Xn p.1:Key),MV.int p.2))=wd0 I/\WdOk w I (wd0 I):=by
 have e:∀j:List (Str×Int),(j.map λp=>((Xn p.1:Key),MV.int p.2))=zipK (j.map (·.1)) ((j.map (·.2)).map MV.int):=λj=>by
  induction j with
  |nil=>rfl
  |cons p r y=>rw[Xt,y];rfl
 erw[⟨by rw[e];erw[Q7 (by simp) l],I.prs.map (·.2),by unfold Isl.vars;simp,rfl,λv z=>?_⟩]
 have⟨p,m,rfl⟩:=XA.mp z;erw[u p m]
def Qi(j:List (Str×Int)):j.map prV=(j.map λp=>((Xn p.1:Key),MV.int p.2)).map prM:=by rw[XZ];rfl
noncomputable def dNum(j:List Str):Dc:=⟨j,λ_ _=>.int 0,λ_ N _=>N=[],λ_ _ _ _ _ h=>h⟩
def dOne(l:List Str)(P:Nat->MO->Prop):Dc:=⟨l,λ_ N=>.ref (hd N),λj N M=>∃p o,N=[p]/\M p=wc o/\P j o,λj N M2 y u ⟨p,o,e,h,c⟩=>⟨p,o,e,(u p (by simp[e])).trans h,c⟩⟩
def Got.num{z:List Str}{p:Addr}{u:List (List Addr)}{M:MH}{m:Type}{y:List m}(h:Got (dNum z) p u M)(l:y.length=z.length):u.flatten=[]/\M p=wc (.dic (zipK z ((y.map λ_=>0).map natM))):=by
 erw[⟨List.flatten_eq_nil_iff.mpr λN g=>?_,?_⟩]
 .have⟨j,d⟩:=UJ g;erw[h.c j N d]
 .have e:=h.dm (f:=λ_=>.int 0) rfl;have c:u.map (λ_=>MV.int 0)=(y.map λ_=>0).map natM:=by
   rw[XZ];show u.map (λ_=>MV.int 0)=y.map (λ_=>MV.int 0);rw[List.map_const',List.map_const',h.l,l];rfl
  rw[c]at e;erw[e]
def Got.one{ks:List Str}{P:Nat->MO->Prop}{p:Addr}{u:List (List Addr)}{M:MH}(h:Got (dOne ks P) p u M):∃l:List Addr,u.flatten=l/\M p=wc (.dic (zipK ks (l.map MV.ref)))/\l.length=ks.length/\∀(j:Nat)a,l[j]?=wc a->∃o,M a=wc o/\P j o:=by
 erw[⟨u.map hd,Fm λj N y=>let⟨p,_,e,_⟩:=h.c j N y;⟨p,e⟩,by rw[XZ];erw[h.dm rfl],by rw[X5];erw[h.l],λj a z=>?_⟩]
 rw[Xe]at z;have⟨N,y,rfl⟩:=Vl.mp z;have⟨p,o,rfl,e,c⟩:=h.c j N y;erw[⟨o,e,c⟩]
section
variable{Φ:List (Str×SpM)}{σ:Sm}{x:Nat}{M:MH}{E:IE}{d:Dc}{W:Wld}
def Au(l:∀(j:Nat)f m,Φ[j]?=wc (f,m)->MonW m)(G:W.Good)(c:σ[x]?=wc (wc W.mv))(g:d.ks=W.ins)(q:∀(j:Nat)u,W.isl[j]?=wc u->∀z,wE Φ E [wc u.mv] z fun y M2=>SameM z M2/\∃N,y=d.val j N/\Laid z M2 N/\d.C j N M2):Lays Φ σ (.bi .dictL (.comp ["island"] [] (.seq (.ix (.var x) (.int 1))) (.nm 0) .none (.tup (.cons (.ix (.var 0) (.int 0)) (.cons E .nil)))) .nil) d M:=
 lays l c (z:=W.isl) (f:=Isl.mv) (nm:=(·.name)) (λM Q h=>⟨_,_,rfl,rfl,h⟩) (λI=>⟨_,rfl⟩) g (by rw[g];erw[G.in_nd]) (Ba G.i5 (by decide)) q
def CA(l:∀(j:Nat)f m,Φ[j]?=wc (f,m)->MonW m)(G:W.Good)(c:σ[x]?=wc (wc W.mv))(g:d.ks=W.fns)(q:∀(j:Nat)u,W.fer[j]?=wc u->∀z,wE Φ E [wc u.mv] z fun y M2=>SameM z M2/\∃N,y=d.val j N/\Laid z M2 N/\d.C j N M2):Lays Φ σ (.bi .dictL (.comp ["ferry"] [] (.seq (.ix (.var x) (.int 2))) (.nm 0) .none (.tup (.cons (.ix (.var 0) (.int 0)) (.cons E .nil)))) .nil) d M:=
 lays l c (z:=W.fer) (f:=Fer.mv) (nm:=(·.name)) (λM Q h=>⟨_,_,rfl,rfl,h⟩) (λI=>⟨_,rfl⟩) g (by rw[g];erw[G.fn_nd]) (Ba G.f6 (by decide)) q
def Fo{u:List Str}(j:Nat)(v:MV)(l:MH):wE Φ (.int 0) [wc v] l λy M2=>SameM l M2/\∃N,y=(dNum u).val j N/\Laid l M2 N/\(dNum u).C j N M2:=⟨SameM.refl _,[],rfl,⟨WD,λ_ h=>(XM h).elim⟩,rfl⟩
def CB{u:List Str}{P:Nat->MO->Prop}{j:Nat}{l:MH}{p:Addr}{o:MO}(y:l p=we)(c:P j o):SameM l (updM l p o)/\∃N,MV.ref p=(dOne u P).val j N/\Laid l (updM l p o) N/\(dOne u P).C j N (updM l p o):=⟨SameM.new y _,[p],rfl,.one y _,p,o,rfl,Xb,c⟩
def dWds(W:Wld):Dc:=dOne W.ins λj o=>∀I,W.isl[j]?=wc I->o=.dic (wd0 I)
def dLst(W:Wld):Dc:=dOne W.fns λ_ o=>o=.lst []
def Qj(G:W.Good)(j:Nat)(u:Isl)(z:W.isl[j]?=wc u)(l:MH):wE Φ (.bi .dict (.ix (.var 0) (.int 1)) .nil) [wc u.mv] l λy M2=>SameM l M2/\∃N,y=(dWds W).val j N/\Laid l M2 N/\(dWds W).C j N M2:=by
 simp![Isl.mv]
 erw[⟨_,Qi u.prs,λp g=>?_⟩];have ok:=G.io u (Xd z);rw[(Fn (w:=W.w) ok.nd ok.wd).1];erw[CB g λJ m=>by rw[z]at m;cases m;rfl]
def Qk(j:Nat)(v:MV)(l:MH):wE Φ (.lst .nil) [wc v] l λy M2=>SameM l M2/\∃N,y=(dLst W).val j N/\Laid l M2 N/\(dLst W).C j N M2:=by
 simp!;erw[λp u=>CB u rfl]
end
def Laid.perm{M j:MH}{A B:List Addr}(h:Laid M j A)(p:A.Perm B):Laid M j B:=⟨p.nodup_iff.mp h.1,λa l=>h.2 a (p.mem_iff.mpr l)⟩
noncomputable def StA.own(A:StA):List Addr:=A.pn::A.pw::A.pg::A.pt::A.gs
structure StA.New (A:StA)(M0:MH):Prop where
 nd:A.own.Nodup
 fr:∀a∈A.own,M0 a=we
 ws:∀a∈A.ws,a∉A.own
def CC{A:StA}(j:A.own.Nodup):(A.pn≠A.pw/\A.pn≠A.pg/\A.pn≠A.pt/\A.pn∉A.gs)/\(A.pw≠A.pg/\A.pw≠A.pt/\A.pw∉A.gs)/\(A.pg≠A.pt/\A.pg∉A.gs)/\A.pt∉A.gs/\A.gs.Nodup:=by
 unfold StA.own at j;simp only[Yc,Xj,not_or]at j;have⟨⟨l,u,y,z⟩,⟨m,g,d⟩,⟨c,f⟩,q,e⟩:=j;erw[⟨⟨l,u,y,z⟩,⟨m,g,d⟩,⟨c,f⟩,q,e⟩]
def Ql{M:MH}{x a:Addr}{o:MO}(h:updM M x o a=we):M a=we:=by
 by_cases e:a=x
 .subst e;rw[Xb]at h;cases h
 .rwa [X7 e]at h
def CD{A:StA}{a:Addr}(h:a∈A.gs):a∈A.own:=by simp[StA.own,h]
def StdAt.put_t{W:Wld}{B:Std}{M j:MH}{A:StA}(h:StdAt W B M A)(N:A.New j)(t:List Nat):StdAt W {B with tak:=t} (updM M A.pt (.dic (zipK W.fns (t.map natM)))) A:=by
 have⟨⟨d,c,l,f⟩,⟨q,u,r⟩,⟨m,p⟩,g,e⟩:=CC N.nd;erw[⟨?_,?_,?_,Xb,h.wl,h.gl,λi a k x y=>?_,λi a k x y=>?_⟩]
 .rw[X7 l];erw[h.n]
 .rw[X7 u];erw[h.w]
 .rw[X7 m];erw[h.g]
 .rw[X7 λz=>N.ws a (Xd x) (by rw[z];simp[StA.own])];erw[h.wv i a k x y]
 .rw[X7 λz=>g (by rw[<-z];erw[Xd x])];erw[h.gv i a k x y]
def StdAt.put_n{W:Wld}{B:Std}{M j:MH}{A:StA}(h:StdAt W B M A)(N:A.New j)(t:List Nat):StdAt W {B with num:=t} (updM M A.pn (.dic (zipK W.ins (t.map natM)))) A:=by
 have⟨⟨l,u,m,g⟩,⟨d,c,f⟩,⟨q,r⟩,p,e⟩:=CC N.nd;erw[⟨Xb,?_,?_,?_,h.wl,h.gl,λi a k x y=>?_,λi a k x y=>?_⟩]
 .rw[X7 λz=>l z.symm];erw[h.w]
 .rw[X7 λz=>u z.symm];erw[h.g]
 .rw[X7 λz=>m z.symm];erw[h.t]
 .rw[X7 λz=>N.ws a (Xd x) (by rw[z];simp[StA.own])];erw[h.wv i a k x y]
 .rw[X7 λz=>g (by rw[<-z];erw[Xd x])];erw[h.gv i a k x y]
def StdAt.put_g{W:Wld}{B:Std}{M g:MH}{A:StA}(h:StdAt W B M A)(N:A.New g){j:Nat}{b:Addr}(u:A.gs[j]?=wc b)(m:List Int):StdAt W {B with giv:=B.giv.set j m} (updM M b (.lst (m.map MV.int))) A:=by
 have⟨⟨p,L,O,d⟩,⟨R,T,c⟩,⟨U,f⟩,q,e⟩:=CC N.nd;have l:=Xd u;erw[⟨?_,?_,?_,?_,h.wl,h.gl,λi a k x y=>?_,λi a k x y=>?_⟩]
 .rw[X7 λz:A.pn=b=>d (by rw[z];erw[l])];erw[h.n]
 .rw[X7 λz:A.pw=b=>c (by rw[z];erw[l])];erw[h.w]
 .rw[X7 λz:A.pg=b=>f (by rw[z];erw[l])];erw[h.g]
 .rw[X7 λz:A.pt=b=>q (by rw[z];erw[l])];erw[h.t]
 .rw[X7 λz=>N.ws a (Xd x) (by rw[z];erw[CD l])];erw[h.wv i a k x y]
 .rcases Y9 y with⟨rfl,rfl⟩|⟨r,y⟩
  .rw[u]at x;cases x;erw[Xb]
  .rw[X7 λz=>r ?_]
   .erw[h.gv i a k x y]
   .subst z;erw[(Ue (Xm.mp x).1 e).mp (x.trans u.symm)]
def StdAt.put_w{W:Wld}{B:Std}{M g:MH}{A:StA}(h:StdAt W B M A)(N:A.New g)(i:Nat){p:Addr}{l:List (Key×MV)}(c:M p=wc (.dic l))(d:p∉A.own):
  StdAt W {B with wd:=B.wd.set i l} (updM M A.pw (.dic (zipK W.ins ((A.ws.set i p).map MV.ref)))) {A with ws:=A.ws.set i p}/\StA.New {A with ws:=A.ws.set i p} g:=by
 have⟨⟨f,T,U,Y⟩,⟨q,r,L⟩,⟨Z,C⟩,D,e⟩:=CC N.nd;erw[⟨⟨?_,Xb,?_,?_,by rw[ZV];erw[h.wl],h.gl,λO a k x y=>?_,λj a k x y=>?_⟩,N.nd,N.fr,λa u=>?_⟩]
 .rw[X7 f];erw[h.n]
 .rw[X7 λz=>q z.symm];erw[h.g]
 .rw[X7 λz=>r z.symm];erw[h.t]
 .have R:a∉A.own:=by
   rcases Y9 x with⟨_,rfl⟩|⟨_,x⟩
   .erw[d]
   .erw[N.ws a (Xd x)]
  rw[X7 λz=>R (by rw[z];simp[StA.own])]
  rcases Y9 x with⟨rfl,rfl⟩|⟨m,x⟩
  .rcases Y9 y with⟨_,rfl⟩|⟨m,y⟩
   .erw[c]
   .erw[(m rfl).elim]
  .rcases Y9 y with⟨rfl,_⟩|⟨_,y⟩
   .erw[(m rfl).elim]
   .erw[h.wv O a k x y]
 .rw[X7 λz=>L (by rw[<-z];erw[Xd x])];erw[h.gv j a k x y]
 .rcases AL u with u|rfl
  .erw[N.ws a u]
  .erw[d]
abbrev Qm:SpM:=λz M Q=>∃(W:Wld) (S B:Std) (A j:StA) (l:MH) (c d i:Nat) (I:Isl) (s:Stp),z=[W.mv,A.mv,.str I.name,askM s (rhoK (S.wd.getD i [])) W.w,j.mv]/\W.Good/\SOk W c S/\SOk W d B/\d<=1000/\StdAt W S l A/\SameM l M/\StdAt W B M j/\j.New l/\W.isl[i]?=wc I/\YY W S i I=wc s/\
 ∀u y,SameM l u->StA.New {j with ws:=y} l->(∀a∈y,a∈j.ws\/M a=we)->StdAt W (Zw W S i s B) u {j with ws:=y}->Q .non u
def _am:MonW Qm:=by walk_at "m"
def _fk(T:Txt K mg t):FO P w K mg base 52 "do_step" Qm:=by
 erw[T.aR.ok T.g _am 5 ["world","stand","name","asked","behind","word","ferry","steps","went"] (fC T (fc (OT T) (fc (Fj T) f0))) Lo (fun vs M Q h=>?_) (fun vs M Q h=>?_)]
 .have⟨_,_,_,_,_,_,_,_,_,_,_,rfl,_⟩:=h;rfl
 have⟨W,S,B,A,u,M0,c,d,i,I,s,rfl,G,U,y,hd,hA,C,O,N,g,hg,q⟩:=h;show wSs _ _ _ [wc W.mv,wc A.mv,wc (.str I.name),wc (askM s (rhoK (S.wd.getD i [])) W.w),wc u.mv,we,we,we,we] M;have⟨H,hc⟩:=Cw hg;have L:=UD G g H;have hn:S.num.getD i 0<I.stps.length:=(Xm.mp H).1;have ok:=G.io I (Xd g);have wd:=U.wi i I _ g (Vy U g);have nv:=ok.nv;have i5:=G.i5;have f6:=G.f6;have vl:I.vars.length=I.prs.length:=by unfold Isl.vars;rw[X5]
 have J:W.ins.length=W.isl.length:=by unfold Wld.ins;rw[X5]
 have lf:W.fns.length=W.fer.length:=by unfold Wld.fns;rw[X5]
 have hIl:i<W.isl.length:=(Xm.mp g).1;have rest:∀(M1:MH)(m:Std)(v6:Option MV),SameM M0 M1->(∀a,M1 a=we->M a=we)->StdAt W m M1 u->m.num.length=W.isl.length->m.giv.length=W.fer.length->{m with num:=m.num.set i (XV s (rhoK (S.wd.getD i [])) W.w (S.num.getD i 0)).toNat,wd:=m.wd.set i (YG s (S.wd.getD i []) (rhoK (S.wd.getD i [])) W.w (Z7 W S s))}=Zw W S i s B->
   wSs ([("after",EH),("island_of",V2)]:List (Str×SpM)) Eo {nx:=fun _ M'=>Q .non M',rt:=Q} [wc W.mv,wc A.mv,wc (.str I.name),wc (askM s (rhoK (S.wd.getD i [])) W.w),wc u.mv,wc (Z7 W S s),v6,we,we] M1:=by
  intro M1 m v6 s1 fd R ln lg eB;have l:=hA.keep s1;have⟨a,a1,a2⟩:=l.ws_at U g;delta Eo;simp!;erw[ex3 W i I ⟨rfl,G,g,?_⟩];rw[Isl.mv];simp!;delta Li;rw[Wld.mv,StA.mv]
  simp![l.n,l.w]
  erw[⟨_,Fk G U g,_,Fl G g a1,?_⟩];erw[ex10 _ a I.stps (S.num.getD i 0) W.w (S.wd.getD i []) (rhoK (S.wd.getD i [])) I.vars s (Z7 W S s) ⟨rfl,.inl rfl,H,Cu L,G.w1,G.w2,a2,by rw[wd.len];lia,wd.reads ok.nd,λp n=>?_⟩]
  have s2:=SameM.new n (.dic (YG s (S.wd.getD i []) (rhoK (S.wd.getD i [])) W.w (Z7 W S s)));have hp2:updM M1 p (.dic (YG s (S.wd.getD i []) (rhoK (S.wd.getD i [])) W.w (Z7 W S s))) p=wc (.dic (YG s (S.wd.getD i []) (rhoK (S.wd.getD i [])) W.w (Z7 W S s))):=Xb;generalize updM M1 p _=M2 at*;have s02:=s1.trans s2;have O:=R.keep s2;have p0:=fd p n;have np:p∉u.own:=λz=>by
   have hh:∃o,M1 p=wc o:=by
    unfold StA.own at z;simp only[Xj]at z;rcases z with z|z|z|z|z
    .erw[⟨_,z▸R.n⟩]
    .erw[⟨_,z▸R.w⟩]
    .erw[⟨_,z▸R.g⟩]
    .erw[⟨_,z▸R.t⟩]
    .have⟨j,hj,e⟩:=Yn z;have hj2:j<m.giv.length:=by rw[lg,<-R.gl];erw[hj]
     erw[⟨_,e▸R.gv j _ _ (X6 hj) (X6 hj2)⟩]
   have⟨o,ho⟩:=hh;rw[n]at ho;cases ho
  have⟨l1,l2,l3⟩:=Q9 (l:=rhoK (S.wd.getD i [])) (w:=W.w) L hn;simp!;delta Lh;rw[StA.mv]
  simp![O.n]
  rw[U7 (by rw[X5,ln,J]),UZ (i:=i) (by rw[X5,ln,J]) G.in_nd (Y5 g),l3]
  erw[⟨by lia,?_⟩]
  have D:(m.num.map natM).set i (.int ((XV s (rhoK (S.wd.getD i [])) W.w (S.num.getD i 0)).toNat:Nat))=(m.num.set i (XV s (rhoK (S.wd.getD i [])) W.w (S.num.getD i 0)).toNat).map natM:=by rw[UK]<;>rfl
  rw[D];have Z:=O.put_n N (m.num.set i (XV s (rhoK (S.wd.getD i [])) W.w (S.num.getD i 0)).toNat);have E:=s02.upd (N.fr u.pn (by simp[StA.own])) (.dic (zipK W.ins ((m.num.set i (XV s (rhoK (S.wd.getD i [])) W.w (S.num.getD i 0)).toNat).map natM)))
  have hp3:updM M2 u.pn (.dic (zipK W.ins ((m.num.set i (XV s (rhoK (S.wd.getD i [])) W.w (S.num.getD i 0)).toNat).map natM))) p=wc (.dic (YG s (S.wd.getD i []) (rhoK (S.wd.getD i [])) W.w (Z7 W S s))):=by rw[X7 λz=>np (by rw[z];simp[StA.own])];erw[hp2]
  generalize updM M2 u.pn _=M3 at*;delta Lg
  simp![Z.w]
  rw[U7 (by rw[X5,R.wl,J]),UZ (i:=i) (by rw[X5,R.wl,J]) G.in_nd (Y5 g)]
  erw[⟨by lia,?_⟩]
  have e4:(u.ws.map MV.ref).set i (.ref p)=(u.ws.set i p).map MV.ref:=by rw[UK]
  rw[e4];have⟨h4,N4⟩:=Z.put_w N i hp3 np;erw[q _ _ (E.upd (N.fr u.pw (by simp[StA.own])) _) N4 (λx hx=>(AL hx).elim .inl λz=>.inr (by rw[z];erw[p0])) (eB▸h4)]
 delta Lo;simp!;delta Ln;cases s with
 |take f x=>
  have⟨v,w1,w2,w3⟩:=Qb U L.1 hc;have l:=hA.keep C;have⟨b,F,X⟩:=l.gs_at U L.1;simp only[askM];simp!;delta Lm;simp!;delta Ll;rw[StA.mv]
  simp![l.g,l.t]
  erw[⟨_,Cy G L.1 F,?_⟩]
  simp![l.t,X]
  erw[⟨_,Cz G U L.1,?_⟩]
  simp![X]
  erw[⟨.int v,Yl (by rw[Xe,w2];rfl),?_⟩]
  delta Lk
  simp![l.t]
  erw[⟨_,Cz G U L.1,?_⟩];rw[StA.mv]
  simp![O.t]
  rw[U7 (by rw[X5,y.tl,lf]),UZ (i:=W.fat f) (by rw[X5,y.tl,lf]) G.fn_nd (YX L.1).1]
  erw[⟨by lia,?_⟩]
  have D:(B.tak.map natM).set (W.fat f) (.int ((S.tak.getD (W.fat f) 0:Nat)+1))=(B.tak.set (W.fat f) (S.tak.getD (W.fat f) 0+1)).map natM:=by rw[UK];rfl
  rw[D];have Z:=O.put_t N (B.tak.set (W.fat f) (S.tak.getD (W.fat f) 0+1));have E:=C.upd (N.fr u.pt (by simp[StA.own])) (.dic (zipK W.fns ((B.tak.set (W.fat f) (S.tak.getD (W.fat f) 0+1)).map natM)))
  have Y:∀a,updM M u.pt (.dic (zipK W.fns ((B.tak.set (W.fat f) (S.tak.getD (W.fat f) 0+1)).map natM))) a=we->M a=we:=λ_=>Ql;generalize updM M u.pt _=M3 at*;delta An;simp!;have r:=rest M3 _ (wc (.str f)) E Y Z y.nl y.gl rfl;rw[w1]at r;erw[r]
 |give f T=>
  have⟨b,F,X⟩:=O.gs_at y L.1;have hgi:=(y.gi _ (Xd (At y (YX L.1).2))).1;simp only[askM];simp!;delta An;simp!;delta Lj;rw[StA.mv,StA.mv]
  simp![O.g]
  erw[⟨_,Cy G L.1 F,?_⟩]
  simp![X]
  rw[X5];erw[⟨⟨_,rfl⟩,by lia,?_⟩]
  have D:(B.giv.getD (W.fat f) []).map MV.int++[.int (T.val (rhoK (S.wd.getD i [])) W.w)]=(B.giv.getD (W.fat f) []++[T.val (rhoK (S.wd.getD i [])) W.w]).map MV.int:=by simp
  rw[D];have Z:=O.put_g N F (B.giv.getD (W.fat f) []++[T.val (rhoK (S.wd.getD i [])) W.w]);have E:=C.upd (N.fr b (CD (Xd F))) (.lst ((B.giv.getD (W.fat f) []++[T.val (rhoK (S.wd.getD i [])) W.w]).map MV.int));have Y:∀a,updM M b (.lst ((B.giv.getD (W.fat f) []++[T.val (rhoK (S.wd.getD i [])) W.w]).map MV.int)) a=we->M a=we:=λ_=>Ql;generalize updM M b _=M3 at*;erw[rest M3 _ we E Y Z y.nl (by rw[ZV];erw[y.gl]) rfl]
 |put x T=>
  simp only[askM];simp!;delta An;simp!;erw[rest M B we C (λ_ z=>z) O y.nl y.gl rfl]
 |jump T j=>
  simp only[askM];simp!;delta An;simp!;erw[rest M B we C (λ_ z=>z) O y.nl y.gl rfl]
def V3(W:Wld):Std:=⟨W.isl.map λ_=>0,W.isl.map wd0,W.fer.map λ_=>[],W.fer.map λ_=>0⟩
def _gd{W:Wld}(G:W.Good):SOk W 0 (V3 W):=by
 erw[⟨X5 _,X5 _,X5 _,X5 _,λi I n u h=>?_,λi I z u h=>?_,λm g=>?_,λj m n c l=>?_⟩]
 .rw[show(V3 W).num=W.isl.map λ_=>0 from rfl,Xe,u]at h;cases h;erw[YB _]
 .rw[show(V3 W).wd=W.isl.map wd0 from rfl,Xe,u]at h;cases h;have ok:=G.io I (Xd u);erw[(Fn ok.nd ok.wd).2]
 .have⟨_,_,rfl⟩:=XA.mp g;erw[⟨X9 _,λv d=>(nomatch d)⟩]
 .rw[show(V3 W).tak=W.fer.map λ_=>0 from rfl,Xe]at l;cases y:W.fer[j]? with
  |none=>rw[y]at l;cases l
  |some f=>rw[y]at l;cases l;erw[YB _]
def Fp{j:List Str}{l:List MV}(h:l.length=j.length):(zipK j l).map (λp=>kM p.1)=j.map MV.str:=by
 have:=Ct h;have e:(zipK j l).map (λp=>kM p.1)=((zipK j l).map (·.1)).map kM:=by rw[XZ];rfl
 rw[e,this,XZ];rfl
theorem Qn:∀{j:List Str} {l:List MV} {i:Nat} {k:Str} {v:MV},j[i]?=wc k->l[i]?=wc v->(Xn k,v)∈zipK j l
 |[],_,_,_,_,h,_=>by simp at h
 |_::_,[],_,_,_,_,h=>by simp at h
 |a::j,b::l,0,k,v,h1,h2=>by simp at h1 h2;subst h1 h2;erw[Y2 ..]
 |a::j,b::l,i+1,k,v,h1,h2=>XJ _ (Qn (by simpa using h1) (by simpa using h2))
def StdAt.ws_ne{W:Wld}{S:Std}{M:MH}{A:StA}(h:StdAt W S M A)(G:W.Good){c:Nat}(u:SOk W c S){i:Nat}{a:Addr}(y:A.ws[i]?=wc a):a≠A.pw:=by
 intro e;have m:i<W.isl.length:=by rw[<-h.wl];erw[(Xm.mp y).1]
 have j:=X6 m;have l:=h.wv i a _ y (Vy u j);rw[e,h.w]at l;have z:zipK W.ins (A.ws.map MV.ref)=S.wd.getD i []:=by injection l with l;injection l
 have:=((u.wi i _ _ j (Vy u j)).nodup (G.io _ (XS m)).nd).2 (Xn (W.isl[i]).name,.ref a);have:=this (by rw[<-z];erw[Qn (Y5 j) (by rw[Xe,y];rfl)])
 cases this
def Qo{M g:MH}{u y z pt:Addr}{l m L:List Addr}(h:Laid M g L)(p:∀a,L.count a=((u::y::z::pt::m)++l).count a):(StA.mk u y z pt l m).New M/\∀a∈l,M a=we:=by
 have⟨c,new⟩:=h.perm (List.perm_iff_count.mpr p);have d:=YS.mp c;erw[⟨⟨d.1,λa j=>(new a (AO _ j)).1,λa j f=>d.2.2 a f a j rfl⟩,λa j=>(new a (ZB _ j)).1⟩]
abbrev Qp:SpM:=λu M Q=>∃(W:Wld) (S:Std) (A:StA) (c:Nat),u=[A.mv]/\W.Good/\SOk W c S/\StdAt W S M A/\∀l j,SameM M l->StdAt W S l j->j.New M->(∀a∈j.ws,M a=we)->Q j.mv l
def _an:MonW Qp:=by walk_at "m"
def _fl(T:Txt K mg t):FO P w K mg base 1 "copy_of" Qp:=by
 erw[T.cf.ok T.g _an 1 ["stand","words","given"] (fC T f0) La (fun vs M Q h=>?_) (fun vs M Q h=>?_)]
 .have⟨_,_,_,_,rfl,_⟩:=h;rfl
 have⟨W,S,A,c,rfl,G,v,u,q⟩:=h;show wSs _ _ _ [wc A.mv,we,we] M;have Y:=(_6 (u:=[]) nl0);have i5:=G.i5;have f6:=G.f6;delta La;rw[U4,UV];erw[dct Y (d:=dOne W.ins λj o=>∀l,S.wd[j]?=wc l->o=.dic l) G.in_nd (by show W.ins.length<sizeLine;rw[ins_len];unfold sizeLine;lia) ?_ _ λX n1 M1 Z g1 l1=>?_]
 .simp![StA.mv,u.w]
  intro o;erw[⟨U7 (by rw[X5,u.wl,ins_len]),.inr ⟨_,_,_,rfl,u.w,rfl⟩,λj x k g z M' s=>?_⟩]
  have z:W.ins[j]?=wc k:=z;have g:((zipK W.ins (A.ws.map MV.ref)).map λp=>kM p.1)[j]?=wc x:=g;rw[Fp (by rw[X5,u.wl,ins_len]),Xe,z]at g
  cases g;have f:=(Xm.mp z).1;rw[ins_len]at f;have U:=X6 (show j<A.ws.length by rw[u.wl];erw[f])
  have B:=X6 (show j<S.wd.length by rw[v.wl];erw[f])
  have r:=s _ _ ((X7 (M:=M) (u.ws_ne G v U)).trans (u.wv j _ _ U B));have L:=s _ _ (Xb (M:=M));simp only[Xt,Yb,Yr,StA.mv,kM]
  simp![L]
  erw[⟨_,Yv G.in_nd z (by rw[Xe,U];rfl),?_⟩]
  simp![r]
  intro p L;have⟨n,N,b,e3⟩:=CB (u:=W.ins) (P:=λj o=>∀l,S.wd[j]?=wc l->o=.dic l) L λl h=>by rw[B]at h;cases h;rfl
  erw[⟨n,N,by rw[<-b],e3⟩]
 have⟨ws,f1,w1,w2,w3⟩:=g1.one;rw[f1]at l1;show wSs _ Ek _ [wc A.mv,wc (.ref X),we] M1;have m:=u.keep Z;delta Ek;rw[U4,UV];erw[dct Y (d:=dOne W.fns λj o=>∀C,S.giv[j]?=wc C->o=.lst (C.map MV.int)) G.fn_nd (by show W.fns.length<sizeLine;rw[fns_len];unfold sizeLine;lia) ?_ _ λpg n2 M2 D g2 l2=>?_]
 .simp![StA.mv,m.g]
  intro o;erw[⟨U7 (by rw[X5,u.gl,fns_len]),.inr ⟨_,_,_,rfl,m.g,rfl⟩,λj x k g z M' s=>?_⟩]
  have z:W.fns[j]?=wc k:=z;have g:((zipK W.fns (A.gs.map MV.ref)).map λp=>kM p.1)[j]?=wc x:=g;rw[Fp (by rw[X5,u.gl,fns_len]),Xe,z]at g
  cases g;have f:=(Xm.mp z).1;rw[fns_len]at f;have U:=X6 (show j<A.gs.length by rw[u.gl];erw[f])
  have B:=X6 (show j<S.giv.length by rw[v.gl];erw[f])
  have r:=m.gv j _ _ U B;have r:=s _ _ ((X7 (M:=M1) λe=>by rw[e,m.g]at r;cases r).trans r)
  have L:=s _ _ (Xb (M:=M1));simp only[Xt,Yb,Yr,StA.mv,kM]
  simp![L]
  erw[⟨_,Yv G.fn_nd z (by rw[Xe,U];rfl),?_⟩]
  simp![r]
  intro p L;have⟨n,N,b,e3⟩:=CB (u:=W.fns) (P:=λj o=>∀C,S.giv[j]?=wc C->o=.lst (C.map MV.int)) L λl h=>by rw[B]at h;cases h;rfl
  erw[⟨n,N,by rw[<-b],e3⟩]
 have⟨gs,f2,v1,v2,v3⟩:=g2.one;rw[f2]at l2;show wSs _ Ej _ [wc A.mv,wc (.ref X),wc (.ref pg)] M2;have E:=m.keep D;delta Ej;rw[StA.mv]
 simp![E.n]
 intro F I;have H:=SameM.new I (.dic (zipK W.ins (S.num.map natM)));have h3:updM M2 F (.dic (zipK W.ins (S.num.map natM))) F=_:=Xb;have l3:=Laid.one I (.dic (zipK W.ins (S.num.map natM)));generalize updM M2 F _=M3 at*;have hA3:=E.keep H
 simp![hA3.t]
 intro pt J;have s4:=SameM.new J (.dic (zipK W.fns (S.tak.map natM)));have h4:updM M3 pt (.dic (zipK W.fns (S.tak.map natM))) pt=_:=Xb;have l4:=Laid.one J (.dic (zipK W.fns (S.tak.map natM)));generalize updM M3 pt _=M4 at*;have O:=H.trans s4;have R:=D.trans O;have nw:=Qo (u:=F) (y:=X) (z:=pg) (pt:=pt) (l:=ws) (m:=gs) ((((l1.trans l2 Z D).trans l3 (Z.trans D) H).trans l4 ((Z.trans D).trans H) s4)) λa=>by
  simp only[VJ,List.count_cons,List.count_nil];lia
 erw[q M4 ⟨F,X,pg,pt,ws,gs⟩ (Z.trans R) ⟨s4 _ _ h3,R _ _ w1,O _ _ v1,h4,w2.trans ins_len,v2.trans fns_len,λi a k x y=>?_,λi a k x y=>?_⟩ nw.1 nw.2]
 .have⟨o,e,c⟩:=w3 i a x;rw[c k y]at e;erw[R _ _ e]
 .have⟨o,e,c⟩:=v3 i a x;rw[c k y]at e;erw[O _ _ e]
abbrev Fq:SpM:=λl M Q=>∃W:Wld,l=[W.mv]/\W.Good/\∀j A,SameM M j->StdAt W (V3 W) j A->A.New M->(∀a∈A.ws,M a=we)->Q A.mv j
def Qq:MonW Fq:=by walk_at "m"
def _ad(T:Txt K mg t):FO P w K mg base 1 "first_stand" Fq:=by
 erw[T.cc.ok T.g Qq 1 ["world","numbers","words","given","taken"] (fC T f0) L9 (fun I M Q h=>?_) (fun I M Q h=>?_)]
 .have⟨_,rfl,_⟩:=h;rfl
 have⟨W,rfl,G,q⟩:=h;have l:=(_6 (u:=[]) nl0);show wSs _ _ _ [wc W.mv,we,we,we,we] M;delta L9;rw[U4,UV];erw[Au l G rfl (d:=dNum W.ins) rfl (λj u _=>Fo j _) _ λm n1 M1 r J R=>?_];have⟨S,X⟩:=J.num (y:=W.isl) ins_len.symm;rw[S]at R;show wSs _ Ei _ [wc W.mv,wc (.ref m),we,we,we] M1;delta Ei;rw[U4,UV];erw[Au l G rfl (d:=dWds W) rfl (Qj G) _ λg n2 M2 p H U=>?_];have⟨Y,v,s,Z,n⟩:=H.one;rw[v]at U;show wSs _ Eh _ [wc W.mv,wc (.ref m),wc (.ref g),we,we] M2;delta Eh;rw[U4,UV];erw[CA l G rfl (d:=dLst W) rfl (λj u _=>Qk j _) _ λL n3 b O g3 A=>?_];have⟨B,f3,v1,v2,v3⟩:=g3.one;rw[f3]at A;show wSs _ Eg _ [wc W.mv,wc (.ref m),wc (.ref g),wc (.ref L),we] b;delta Eg;rw[U4,UV];erw[CA l G rfl (d:=dNum W.fns) rfl (λj u _=>Fo j _) _ λpt n4 C N g4 D=>?_];have⟨f4,h4⟩:=g4.num (y:=W.fer) fns_len.symm;rw[f4]at D;show wSs _ Ef _ [wc W.mv,wc (.ref m),wc (.ref g),wc (.ref L),wc (.ref pt)] C;delta Ef;simp!;have z:=O.trans N;have f:=p.trans z;have E:=Qo (u:=m) (y:=g) (z:=L) (pt:=pt) (l:=Y) (m:=B) ((((R.trans U r p).trans A (r.trans p) O).trans D ((r.trans p).trans O) N)) λa=>by
  simp only[VJ,List.count_cons,List.count_nil];lia
 erw[q C ⟨m,g,L,pt,Y,B⟩ (r.trans f) ⟨f _ _ X,z _ _ s,N _ _ v1,h4,Z.trans ins_len,v2.trans fns_len,λi a k x y=>?_,λi a k x y=>?_⟩ E.1 E.2]
 .have⟨o,e,c⟩:=n i a x;have F:i<W.isl.length:=by rw[<-ins_len (W:=W),<-Z];erw[(Xm.mp x).1]
  rw[show(V3 W).wd=W.isl.map wd0 from rfl,Xe,X6 F]at y;cases y;rw[c _ (X6 F)]at e;erw[z _ _ e]
 .have⟨o,e,rfl⟩:=v3 i a x;rw[show(V3 W).giv=W.fer.map (λ_=>[])from rfl,Xe]at y;have⟨_,_,rfl⟩:=Vl.mp y;erw[N _ _ e]
noncomputable def Av(L:List Addr)(M:MH):MH:=λa=>if a∈L then we else M a
def Ft{L:List Addr}{M:MH}{a:Addr}(h:a∉L):Av L M a=M a:=if_neg h
def Qr{L:List Addr}{M:MH}{a:Addr}(h:a∈L):Av L M a=we:=if_pos h
def _hF(L:List Addr)(M:MH):SameM (Av L M) M:=λa o h=>by
 by_cases e:a∈L
 .rw[Qr e]at h;cases h
 .rwa [Ft e]at h
def StdAt.off{W:Wld}{S:Std}{M:MH}{A:StA}(h:StdAt W S M A){D:Addr}{xs:List MV}(u:M D=wc (.lst xs))(m:D∉A.gs)(o:MO):StdAt W S (updM M D o) A:=by
 have l:∀{a:Addr} {j:List (Key×MV)},M a=wc (.dic j)->updM M D o a=wc (.dic j):=fun{a j} e=>by
  rw[X7 λz=>by rw[z,u]at e;cases e];erw[e]
 erw[⟨l h.n,l h.w,l h.g,l h.t,h.wl,h.gl,λi a k x y=>l (h.wv i a k x y),λi a k x y=>?_⟩];rw[X7 λz=>m (by rw[<-z];erw[Xd x])]
 erw[h.gv i a k x y]
abbrev Fu:SpM:=λu M Q=>∃(W:Wld) (S:Std) (A:StA) (c:Nat),u=[W.mv,A.mv]/\W.Good/\SOk W c S/\c<=900/\StdAt W S M A/\∀j l p,SameM M j->StdAt W (Qc W S) j l->l.New M->(∀a∈l.ws,M a=we)->M p=we->j p=wc (.lst ((ZQ W S).map MV.str))->Q (.tup [l.mv,.ref p]) j
def Qs:MonW Fu:=by walk_at "m"
def _du(T:Txt K mg t):FO P w K mg base 53 "round_of" Fu:=by
 erw[T.aM.ok T.g Qs 2 ["world","stand","behind","names","island","asked"] (fC T (fc (_gN T) (fc (_fl T) (fc (_fk T) (fc (_fh T) f0))))) Lx (fun vs M Q h=>?_) (fun vs M Q h=>?_)]
 .have⟨_,_,_,_,rfl,_⟩:=h;rfl
 have⟨W,S,A,c,rfl,G,O,hc,hA,q⟩:=h;show wSs _ _ _ [wc W.mv,wc A.mv,we,we,we,we] M;have i5:=G.i5;delta Lx;simp!;erw[ex4 W S A c ⟨rfl,G,O,hA,λM1 y s1 L N1 w1=>?_⟩];delta Lw;simp!;intro D d;have s2:=s1.trans (SameM.new d (.lst []));have h2:=L.keep (SameM.new d (.lst []));have hd2:updM M1 D (.lst []) D=wc (.lst []):=Xb;have U:D∉y.own:=λz=>by
  unfold StA.own at z;simp only[Xj]at z;rcases z with z|z|z|z|z
  .erw[neM L.n d z.symm]
  .erw[neM L.w d z.symm]
  .erw[neM L.g d z.symm]
  .erw[neM L.t d z.symm]
  .have⟨j,n,e⟩:=Yn z;have hj2:j<S.giv.length:=by rw[O.gl,<-L.gl];erw[n]
   erw[neM (L.gv j _ _ (X6 n) (X6 hj2)) d e]
 have Y:=s1.free d;generalize updM M1 D _=M2 at*;delta Lv;rw[Wld.mv];simp!;obtain⟨J,Z⟩:∃J:Nat->Sm->MH->Prop,∀j B l,J j B l↔SameM M l/\(∃g,StA.New {y with ws:=g} M/\(∀a∈g,M a=we)/\StdAt W (Xy W S j).1 l {y with ws:=g})/\l D=wc (.lst ((Xy W S j).2.map MV.str))/\∃v4 v5,B=[wc W.mv,wc A.mv,wc y.mv,wc (.ref D),v4,v5]:=⟨_,λ_ _ _=>Yd⟩;erw[⟨J,(Z _ _ _).mpr ⟨s2,⟨y.ws,N1,w1,h2⟩,hd2,_,_,rfl⟩,λj B l h=>trivial,?_,?_⟩]
 .rintro j u B l hu h;have⟨s,⟨g,N,x,C⟩,hd,v4,v5,rfl⟩:=(Z _ _ _).mp h;have⟨n,rfl⟩:=YO (show(W.isl.map Isl.mv)[j]?=wc u from hu);have E:=X6 n;have⟨k1,k2,k3,k4⟩:=V0 G O j;have F:=hA.keep s;have b:Xy W S (j+1)=YZ W S j (Xy W S j):=rfl;have f:∀m v,YY W S j W.isl[j]=we->m=l->J (j+1) [wc W.mv,wc A.mv,wc y.mv,wc (.ref D),wc W.isl[j].mv,v] m:=by
   rintro m v e rfl;have I:YZ W S j (Xy W S j)=Xy W S j:=by unfold YZ;rw[E];dsimp only;rw[e]
   erw[(Z _ _ _).mpr ⟨s,⟨g,N,x,?_⟩,?_,_,_,rfl⟩]
   .rw[b,I];erw[C]
   .rw[b,I];erw[hd]
  delta Lu
  simp![Isl.mv]
  erw[ex6 W S A c j (W.isl[j]) ⟨rfl,G,O,F,E,?_⟩];delta Ls;cases R:(W.isl[j]).stps[S.num.getD j 0]? with
  |none=>
   have e:dueM (W.isl[j]).stps (rhoK (S.wd.getD j [])) W.w (S.num.getD j 0)=.non:=by unfold dueM;rw[R]
   rw[e];simp!;erw[f l _ (by unfold YY;rw[R]) rfl]
  |some st=>
   rw[_mu R];have si:=UD G E R;have hnn:Uv (askM st (rhoK (S.wd.getD j [])) W.w)=wg:=by cases st<;>rfl
   simp![hnn]
   erw[ex8 W S A c st (rhoK (S.wd.getD j [])) ((W.isl[j]).vars) _ ⟨rfl,G,O,F,si,?_⟩];show if canM W S st=wf then _ else _;cases r:canM W S st with
   |false=>
    rw[if_neg (by simp)]
    erw[f l _ (by unfold YY;rw[R];dsimp only;rw[r];rfl) rfl]
   |true=>
    have hg:YY W S j W.isl[j]=wc st:=by unfold YY;rw[R];dsimp only;rw[r];rfl
    rw[if_pos rfl];delta Lr;simp!;have hown:StA.own {y with ws:=g}=y.own:=rfl;have sM:SameM M (Av y.own l):=λa o e=>by
     rw[Ft λz=>neM e (N1.fr a z) rfl];erw[s _ _ e]
    erw[ex11 W S ((Xy W S j).1) A ({y with ws:=g}) (Av y.own l) c (c+j) j (W.isl[j]) st ⟨rfl,G,O,k1,by lia,hA.keep sM,_hF _ _,C,⟨N.nd,λa ha=>Qr ha,N.ws⟩,E,hg,λm ws' X H i h''=>?_⟩]
    delta Lq;have p:m D=wc (.lst ((Xy W S j).2.map MV.str)):=X _ _ (by rw[Ft U];erw[hd])
    simp![p,X5]
    erw[⟨⟨_,rfl⟩,by lia,?_⟩]
    have I:YZ W S j (Xy W S j)=(Zw W S j st (Xy W S j).1,(Xy W S j).2++[(W.isl[j]).name]):=by unfold YZ;rw[E];dsimp only;rw[hg]
    erw[(Z _ _ _).mpr ⟨(sM.trans X).upd Y _,⟨ws',⟨H.nd,N.fr,H.ws⟩,λa ha=>(i a ha).elim (x a) s.free,?_⟩,?_,_,_,rfl⟩]
    .rw[b,I];erw[h''.off p (λz=>U (CD z)) _]
    .rw[b,I,Xb,XY];rfl
 .rintro B l h;have⟨s,⟨g,N,x,C⟩,hd,v4,v5,rfl⟩:=(Z _ _ _).mp h;delta Lp;simp!;have el:(Src.tup (W.isl.map Isl.mv)).len=W.isl.length:=X5 _;rw[el]at C hd;erw[q l {y with ws:=g} D s C N x Y hd]
def Xo(W:Wld):Nat->Std
 |0=>V3 W
 |k+1=>Qc W (Xo W k)
theorem Aw{W:Wld}(G:W.Good):∀k:Nat,SOk W (5*k) (Xo W k)
 |0=>_gd G
 |k+1=>by
  have:=(V0 G (Aw G k) W.isl.length).1;have j:=G.i5;erw[this.up (by lia)]
structure Boat where
 b:Addr
 p:Addr
 g:Addr
 u:Addr
 gl:Addr
 tl:Addr
 A:Ab
noncomputable def Boat.ads(x:Boat):List Addr:=[x.b,x.p,x.g,x.u,x.gl,x.tl]
structure BoatAt (M:MH)(f:Fer)(w:Nat)(m:Int)(x:Boat):Prop where
 fy:FyAt M x.b x.p x.g x.u x.A
 gv:M x.gl=wc (.lst (x.A.ws.map natM))
 tk:M x.tl=wc (.lst ((x.A.ws.take x.A.tn).map natM))
 n1:x.gl≠x.tl/\x.gl≠x.p/\x.tl≠x.p
 k:x.A.k=f.k
 gm:x.A.gm<m
 tm:x.A.tm<m
 wd:∀z∈x.A.ws,z<2^w
def BoatAt.at_{M:MH}{f:Fer}{w:Nat}{m:Int}{x:Boat}(h:BoatAt M f w m x):∀a∈x.ads,∃o,M a=wc o/\(∀j,o≠.dic j)/\∀fs,o≠.ins "Run" fs:=by
 have y:¬(("Ferry":Str)="Run"):=by rw[_t];decide
 have l:¬(("Side":Str)="Run"):=by rw[_t];decide
 have⟨d,g,_⟩:=h.fy.pls;intro a u;simp only[Boat.ads,Xj,XM,or_false]at u;rcases u with rfl|rfl|rfl|rfl|rfl|rfl
 .erw[⟨_,h.fy.fe,(λ_ z=>by cases z),(λfs z=>y (by injection z))⟩]
 .erw[⟨_,g,(λ_ z=>by cases z),(λfs z=>by cases z)⟩]
 .erw[⟨_,h.fy.gi,(λ_ z=>by cases z),(λfs z=>l (by injection z))⟩]
 .erw[⟨_,h.fy.ta,(λ_ z=>by cases z),(λfs z=>l (by injection z))⟩]
 .erw[⟨_,h.gv,(λ_ z=>by cases z),(λfs z=>by cases z)⟩]
 .erw[⟨_,h.tk,(λ_ z=>by cases z),(λfs z=>by cases z)⟩]
theorem BoatAt.dic{M:MH}{f:Fer}{w:Nat}{m:Int}{x:Boat}(h:BoatAt M f w m x){a:Addr}{j:List (Key×MV)}(l:M a=wc (.dic j)):a∉x.ads:=λz=>by
 have⟨o,e,n,_⟩:=h.at_ a z;rw[l]at e;cases e;erw[n _ rfl]
def BoatAt.run{M:MH}{f:Fer}{w:Nat}{m:Int}{x:Boat}(h:BoatAt M f w m x){a:Addr}{fs:List (Str×MV)}(j:M a=wc (.ins "Run" fs)):a∉x.ads:=fun z=>by
 have⟨o,e,_,n⟩:=h.at_ a z;rw[j]at e;cases e;erw[n _ rfl]
def BoatAt.fr{M j:MH}{f:Fer}{w:Nat}{m y:Int}{x:Boat}(h:BoatAt M f w m x)(l:m<=y)(s:∀a∈x.ads,∀o,M a=wc o->j a=wc o):BoatAt j f w y x:=by
 have s:∀a,a∈ [x.b,x.p,x.g,x.u,x.gl,x.tl]->∀o,M a=wc o->j a=wc o:=s;have⟨z,g,u⟩:=h.fy.pls;erw[⟨⟨h.fy.ok,s _ (by simp) _ h.fy.fe,⟨z,s _ (by simp) _ g,u⟩,s _ (by simp) _ h.fy.gi,s _ (by simp) _ h.fy.ta,h.fy.ne⟩,s _ (by simp) _ h.gv,s _ (by simp) _ h.tk,h.n1,h.k,VS h.gm l,VS h.tm l,h.wd⟩]
structure RunS where
 m:Int
 nums:List Nat
 ws:List Addr
 dn:List Nat
 bs:List Boat
 pn:Addr
 pw:Addr
 ps:Addr
 pb:Addr
 pg:Addr
 pt:Addr
noncomputable def runO(W:Wld)(R:RunS):MO:=.ins "Run" [("world",W.mv),("moment",.int R.m),("next_numbers",.ref R.pn),("words_now",.ref R.pw),("steps_so_far",.ref R.ps),("boats",.ref R.pb),("given_so_far",.ref R.pg),("taken_so_far",.ref R.pt)]
structure RunAt (M:MH)(W:Wld)(r:Addr)(R:RunS)(mm:Nat->Int):Prop where
 ob:M r=wc (runO W R)
 hn:M R.pn=wc (.dic (zipK W.ins (R.nums.map natM)))
 hw:M R.pw=wc (.dic (zipK W.ins (R.ws.map MV.ref)))
 hs:M R.ps=wc (.dic (zipK W.ins (R.dn.map natM)))
 hb:M R.pb=wc (.dic (zipK W.fns (R.bs.map λx=>MV.ref x.b)))
 hg:M R.pg=wc (.dic (zipK W.fns (R.bs.map λx=>MV.ref x.gl)))
 ht:M R.pt=wc (.dic (zipK W.fns (R.bs.map λx=>MV.ref x.tl)))
 nl:R.nums.length=W.isl.length
 wl:R.ws.length=W.isl.length
 sl:R.dn.length=W.isl.length
 bl:R.bs.length=W.fer.length
 nb:∀(i:Nat)I n,W.isl[i]?=wc I->R.nums[i]?=wc n->n<=I.stps.length
 wa:∀(i:Nat)I a,W.isl[i]?=wc I->R.ws[i]?=wc a->∃kvs,M a=wc (.dic kvs)/\WdOk W.w I kvs
 ba:∀(j:Nat)f x,W.fer[j]?=wc f->R.bs[j]?=wc x->BoatAt M f W.w (mm j) x
 sep:∀(i j:Nat)x y,i≠j->R.bs[i]?=wc x->R.bs[j]?=wc y->∀a∈x.ads,a∉y.ads
 nd:(R.pn::R.pw::R.ps::R.pb::R.pg::R.pt::R.ws).Nodup
def RunS.own(R:RunS)(r:Addr):List Addr:=r::R.pn::R.pw::R.ps::R.bs.flatMap Boat.ads
structure Kept (M M':MH)(r:Addr)(R R':RunS):Prop where
 fr:FrM M M' (R.own r)
 nw:∀a∈R'.own r,a∈R.own r\/M a=we
def Kept.trans{M M1 M2:MH}{r:Addr}{R l R2:RunS}(h:Kept M M1 r R l)(g:Kept M1 M2 r l R2):Kept M M2 r R R2:=by
 erw[⟨λa o j u=>g.fr a o (h.fr a o j u) λz=>?_,λa j=>?_⟩]
 .rcases h.nw a z with z|z
  .erw[u z]
  .rw[j]at z;cases z
 .rcases g.nw a j with z|z
  .erw[h.nw a z]
  .by_cases c:a∈R.own r
   .erw[.inl c]
   .cases e:M a with
    |none=>erw[.inr rfl]
    |some o=>rw[h.fr a o e c]at z;cases z
def Kept.new{M M':MH}{r:Addr}{R:RunS}(s:SameM M M'):Kept M M' r R R:=⟨λa o h _=>s a o h,λ_ h=>.inl h⟩
def RunAt.keep{M M':MH}{W:Wld}{r:Addr}{R:RunS}{l:Nat->Int}(h:RunAt M W r R l)(s:SameM M M'):RunAt M' W r R l:=
 ⟨s _ _ h.ob,s _ _ h.hn,s _ _ h.hw,s _ _ h.hs,s _ _ h.hb,s _ _ h.hg,s _ _ h.ht,h.nl,h.wl,h.sl,h.bl,h.nb,λi I a u y=>let⟨k,e,o⟩:=h.wa i I a u y;⟨k,s _ _ e,o⟩,λj f x z m=>(h.ba j f x z m).fr (Uo _) λa _ o e=>s a o e,h.sep,h.nd⟩
set_option tactic.hygienic true in
def Fv{u m:Type}{f:u->m}{z:List u}{j:Nat}{x y:u}(g:z[j]?=wc x)(e:f y=f x):(z.set j y).map f=z.map f:=by
 rw[UK,e];apply WB;intro i;rw[Vc];split
 .rename_i h;subst h;split
  .rw[Xe,g];rfl
  .rename_i l;rw[ZC (by lia)]
 .rfl
def RunAt.boat{M m:MH}{W:Wld}{r:Addr}{R:RunS}{B p:Nat->Int}(h:RunAt M W r R B){j:Nat}{f:Fer}{x y:Boat}(C:W.fer[j]?=wc f)(q:R.bs[j]?=wc x)(fr:FrM M m x.ads)(G:BoatAt m f W.w (p j) y)(J:y.b=x.b)(Q:y.gl=x.gl)(S:y.tl=x.tl)(ad:∀a∈y.ads,a∈x.ads\/M a=we)(X:∀i,i≠j->B i<=p i):
  RunAt m W r {R with bs:=R.bs.set j y} p/\Kept M m r R {R with bs:=R.bs.set j y}:=by
 have D:=h.ba j f x C q;have dic:∀a L,M a=wc (.dic L)->m a=wc (.dic L):=λa L e=>fr a _ e (D.dic e);have H:(R.bs.set j y).map (λx=>MV.ref x.b)=R.bs.map λx=>MV.ref x.b:=Fv q (by rw[J])
 have v:(R.bs.set j y).map (λx=>MV.ref x.gl)=R.bs.map λx=>MV.ref x.gl:=Fv q (by rw[Q])
 have s:(R.bs.set j y).map (λx=>MV.ref x.tl)=R.bs.map λx=>MV.ref x.tl:=Fv q (by rw[S])
 have off:∀(i:Nat)z,i≠j->R.bs[i]?=wc z->∀a∈z.ads,a∉y.ads:=λi z N u a l U=>by
  rcases ad a U with c|c
  .erw[h.sep i j z x N u q a l c]
  .have Y:i<W.fer.length:=by rw[<-h.bl];erw[(Xm.mp u).1]
   have⟨o,e,_⟩:=(h.ba i _ z (X6 Y) u).at_ a l;rw[e]at c;cases c
 erw[⟨⟨fr _ _ h.ob (D.run h.ob),dic _ _ h.hn,dic _ _ h.hw,dic _ _ h.hs,?_,?_,?_,h.nl,h.wl,h.sl,by show(R.bs.set j y).length=_;rw[ZV];erw[h.bl],h.nb,λi I a n l=>let⟨k,e,o⟩:=h.wa i I a n l;⟨k,dic _ _ e,o⟩,λi g z Z u=>?_,λi E z F N u A=>?_,h.nd⟩,⟨λa o l b=>fr a o l λc=>b ?_,λa l=>?_⟩⟩]
 .show m R.pb=wc (.dic (zipK W.fns ((R.bs.set j y).map λx=>MV.ref x.b)));rw[H];erw[dic _ _ h.hb]
 .show m R.pg=wc (.dic (zipK W.fns ((R.bs.set j y).map λx=>MV.ref x.gl)));rw[v];erw[dic _ _ h.hg]
 .show m R.pt=wc (.dic (zipK W.fns ((R.bs.set j y).map λx=>MV.ref x.tl)));rw[s];erw[dic _ _ h.ht]
 .rcases Y9 u with⟨rfl,rfl⟩|⟨N,u⟩
  .rw[C]at Z;cases Z;erw[G]
  .erw[(h.ba i g z Z u).fr (X i N) λa l o e=>fr a o e λc=>h.sep i j z x N u q a l c]
 .rcases Y9 u with⟨e1,O⟩|⟨n1,O⟩<;>rcases Y9 A with⟨e2,T⟩|⟨n2,T⟩
  .erw[absurd (e1.trans e2.symm) N]
  .subst O;erw[λa l hb=>off E F n2 T a hb l]
  .subst T;erw[off i z n1 O]
  .erw[h.sep i E z F N O T]
 .erw[XJ _ (XJ _ (XJ _ (XJ _ (Vd.mpr ⟨x,Xd q,c⟩))))]
 .simp only[RunS.own,Xj,Vd]at l ⊢;rcases l with c|c|c|c|⟨z,u,c⟩
  .erw[.inl (.inl c)]
  .erw[.inl (.inr (.inl c))]
  .erw[.inl (.inr (.inr (.inl c)))]
  .erw[.inl (.inr (.inr (.inr (.inl c))))]
  .have⟨i,Y,rfl⟩:=Yn u;rcases Y9 (X6 Y)with⟨_,e⟩|⟨_,e⟩
   .rw[e]at c;erw[(ad a c).imp (λd=>.inr (.inr (.inr (.inr ⟨x,Xd q,d⟩)))) id]
   .erw[.inl (.inr (.inr (.inr (.inr ⟨_,Xd e,c⟩))))]
noncomputable def askO(o:Option Stp)(j:Str->Int)(w:Nat):MV:=match o with
 |we=>.non
 |wc (.take f _)=>.tup [.str "take",.str f]
 |wc (.give f T)=>.tup [.str "give",.str f,.int (T.val j w)]
 |wc _=>.tup [.str "own"]
def _oS(j:List Stp)(l:Str->Int)(w i:Nat):dueM j l w i=askO j[i]? l w:=rfl
noncomputable def UE(o:Option Stp):MV:=match o with
 |we=>.tup [.str "done"]
 |wc (.take f _)=>.tup [.str "wait",.str f]
 |wc (.give f _)=>.tup [.str "wait",.str f]
 |wc _=>.tup [.str "own"]
noncomputable def Xs(o:Option Stp)(z:Str):Bool:=match o with
 |wc (.take f _)=>decide (f=z)
 |wc (.give f _)=>decide (f=z)
 |_=>wg
abbrev Vz:SpM:=λj M Q=>∃(o:Option Stp) (l:Str->Int) (w:Nat),j=[askO o l w]/\Q (UE o) M
def _70:MonW Vz:=by walk_at "m"
def _bF(T:Txt K mg t):FO P w K mg base 1 "what_alone" Vz:=by
 erw[T.b8.ok T.g _70 1 ["asked"] (fC T f0) MQ (fun j M Q h=>?_) (fun j M Q h=>?_)]
 .have⟨_,_,_,rfl,_⟩:=h;rfl
 have⟨o,l,k,rfl,q⟩:=h;show wSs _ _ _ [wc (askO o l k)] M;delta MQ;rcases o with _|s
 .simp only[askO];simp!;delta MP;simp!;erw[q]
 .cases s<;>simp only[askO]<;>simp!<;>rw[MN]<;>simp!<;>first|(rw[MM];simp!;erw[q])|(rw[ML];simp!;erw[q])
abbrev Ax:SpM:=λj M Q=>∃(o:Option Stp) (l:Str->Int) (w:Nat) (z:Str),j=[askO o l w,.str z]/\Q (.bl (Xs o z)) M
def _73:MonW Ax:=by walk_at "m"
def _bG(T:Txt K mg t):FO P w K mg base 1 "is_wish_of" Ax:=by
 erw[T.aU.ok T.g _73 2 ["asked","ferry_name"] (fC T f0) MR (fun j M Q h=>?_) (fun j M Q h=>?_)]
 .have⟨_,_,_,_,rfl,_⟩:=h;rfl
 have⟨o,l,k,z,rfl,q⟩:=h;show wSs _ _ _ [wc (askO o l k),wc (.str z)] M;delta MR;rcases o with _|s
 .simp only[askO];simp!;erw[q]
 .cases s<;>simp only[askO]<;>simp!<;>erw[q]
abbrev Qt:SpM:=λl M Q=>∃(z:Str) (e:Addr) (j:List (Key×MV)),l=[.str z,.ref e]/\M e=wc (.dic j)/\(valM j (Xn z)).isSome=wf/\Q .non M
def _3S:MonW Qt:=by walk_at "m"
def _6f(T:Txt K mg t):FO P w K mg base 1 "refuse_unknown" Qt:=by
 erw[T.ao.ok T.g _3S 2 ["name","known"] (fC T f0) C8 (fun j M Q h=>?_) (fun j M Q h=>?_)]
 .have⟨z,a,m,rfl,_⟩:=h;rfl
 have⟨z,a,l,rfl,u,y,q⟩:=h;show wSs _ _ _ [wc (.str z),wc (.ref a)] M;delta C8;simp!;erw[.inr ⟨_,_,u,rfl,?_⟩];rw[y];simp!;erw[q]
section
variable{M:MH}{W:Wld}{r:Addr}{R:RunS}{mm:Nat->Int}
def RunAt.gvl(h:RunAt M W r R mm)(G:W.Good){j:Nat}{f:Fer}{x:Boat}(l:W.fer[j]?=wc f)(u:R.bs[j]?=wc x):valM (zipK W.fns (R.bs.map λx=>MV.ref x.gl)) (Xn f.name)=wc (.ref x.gl):=Yv G.fn_nd (V1 l) (by rw[Xe,u];rfl)
def RunAt.tkl(h:RunAt M W r R mm)(G:W.Good){j:Nat}{f:Fer}{x:Boat}(l:W.fer[j]?=wc f)(u:R.bs[j]?=wc x):valM (zipK W.fns (R.bs.map λx=>MV.ref x.tl)) (Xn f.name)=wc (.ref x.tl):=Yv G.fn_nd (V1 l) (by rw[Xe,u];rfl)
def RunAt.btl(h:RunAt M W r R mm)(G:W.Good){j:Nat}{f:Fer}{x:Boat}(l:W.fer[j]?=wc f)(u:R.bs[j]?=wc x):valM (zipK W.fns (R.bs.map λx=>MV.ref x.b)) (Xn f.name)=wc (.ref x.b):=Yv G.fn_nd (V1 l) (by rw[Xe,u];rfl)
def RunAt.nml(h:RunAt M W r R mm)(G:W.Good){i n:Nat}{I:Isl}(j:W.isl[i]?=wc I)(l:R.nums[i]?=wc n):valM (zipK W.ins (R.nums.map natM)) (Xn I.name)=wc (.int n):=Yv G.in_nd (Y5 j) (by rw[Xe,l];rfl)
def RunAt.wdl(h:RunAt M W r R mm)(G:W.Good){i:Nat}{a:Addr}{I:Isl}(j:W.isl[i]?=wc I)(l:R.ws[i]?=wc a):valM (zipK W.ins (R.ws.map MV.ref)) (Xn I.name)=wc (.ref a):=Yv G.in_nd (Y5 j) (by rw[Xe,l];rfl)
def RunAt.dnl(h:RunAt M W r R mm)(G:W.Good){i n:Nat}{I:Isl}(j:W.isl[i]?=wc I)(l:R.dn[i]?=wc n):valM (zipK W.ins (R.dn.map natM)) (Xn I.name)=wc (.int n):=Yv G.in_nd (Y5 j) (by rw[Xe,l];rfl)
set_option tactic.hygienic true in
def RunAt.went(h:RunAt M W r R mm){M':MH}{i n d:Nat}{I:Isl}{p:Addr}{c:List (Key×MV)}(E:W.isl[i]?=wc I)(q:n<=I.stps.length)(F:M p=we)(fr:∀a o,M a=wc o->a≠R.pn->a≠R.pw->a≠R.ps->M' a=wc o)(hk:M' p=wc (.dic c))(wk:WdOk W.w I c)
  (h1:M' R.pn=wc (.dic (zipK W.ins ((R.nums.set i n).map natM))))(h2:M' R.pw=wc (.dic (zipK W.ins ((R.ws.set i p).map MV.ref))))(h3:M' R.ps=wc (.dic (zipK W.ins ((R.dn.set i d).map natM)))):
  RunAt M' W r {R with nums:=R.nums.set i n,ws:=R.ws.set i p,dn:=R.dn.set i d} mm/\Kept M M' r R {R with nums:=R.nums.set i n,ws:=R.ws.set i p,dn:=R.dn.set i d}:=by
 have G:=h.nd;simp only[Yc,Xj,not_or]at G;have⟨⟨a1,a2,Q,S,X,H⟩,⟨b2,v,s,b5,b6⟩,⟨c3,c4,c5,c6⟩,⟨d4,d5,d6⟩,⟨e5,e6⟩,f6,U⟩:=G;have Y:∀a y,M a=wc (.dic y)->a≠r:=λa y e z=>by subst z;rw[h.ob]at e;cases e
 have Z:∀(k:Nat)a,R.ws[k]?=wc a->a≠R.pn/\a≠R.pw/\a≠R.ps:=λk a u=>⟨λz=>H (z▸Xd u),λz=>b6 (z▸Xd u),λz=>c6 (z▸Xd u)⟩;have A:∀a o,M a=wc o->a≠p:=λa o e=>neM e F;erw[⟨⟨fr _ _ h.ob (Y _ _ h.hn).symm (Y _ _ h.hw).symm (Y _ _ h.hs).symm,h1,h2,h3,fr _ _ h.hb (XR Q) (XR v) (XR c3),fr _ _ h.hg (XR S) (XR s) (XR c4),fr _ _ h.ht (XR X) (XR b5) (XR c5),by show(R.nums.set i n).length=_;rw[ZV];erw[h.nl],by show(R.ws.set i p).length=_;rw[ZV];erw[h.wl],by show(R.dn.set i d).length=_;rw[ZV];erw[h.sl],h.bl,λk J m L B=>?_,λk J a L u=>?_,λj f x hf C=>?_,h.sep,?_⟩,⟨λa o u q=>fr a o u ?_ ?_ ?_,λa u=>.inl u⟩⟩]
 .rcases Y9 B with⟨rfl,rfl⟩|⟨_,B⟩
  .rw[E]at L;cases L;erw[q]
  .erw[h.nb k J m L B]
 .rcases Y9 u with⟨rfl,rfl⟩|⟨_,u⟩
  .rw[E]at L;cases L;erw[⟨c,hk,wk⟩]
  .have⟨y,e,o⟩:=h.wa k J a L u;have⟨n1,n2,n3⟩:=Z k a u;erw[⟨y,fr _ _ e n1 n2 n3,o⟩]
 .have C:R.bs[j]?=wc x:=C;have b:=h.ba j f x hf C;erw[b.fr (Uo _) λa u o e=>fr a o e (λz=>b.dic (z▸h.hn) u) (λz=>b.dic (z▸h.hw) u) (λz=>b.dic (z▸h.hs) u)]
 .have O:∀a y,M a=wc (.dic y)->a≠p:=λa y e=>A a _ e;have ms:∀a,a∈R.ws.set i p->a∈R.ws\/a=p:=λa u=>AL u;have T:p∉R.ws:=λz=>by
   have⟨k,g,e⟩:=Yn z;have hi:k<W.isl.length:=by rw[<-h.wl];erw[g]
   have⟨y,e2,_⟩:=h.wa k _ _ (X6 hi) (X6 g);rw[e,F]at e2;cases e2
  have D:(R.ws.set i p).Nodup:=by
   erw[List.pairwise_iff_getElem.mpr λk l g hl kl e=>?_];rw[ZV]at g hl;rw[CZ,CZ]at e;split at e<;>split at e
   .rename_i z1 z2;lia
   .erw[T (e▸XS hl)]
   .erw[T (e.symm▸XS g)]
   .have:=(AT U).mp e;lia
  have N:∀a y,M a=wc (.dic y)->a∉R.ws->a∉R.ws.set i p:=λa y e q z=>(ms a z).elim q (O a y e);show(R.pn::R.pw::R.ps::R.pb::R.pg::R.pt::R.ws.set i p).Nodup;simp only[Yc,Xj,not_or];erw[⟨⟨a1,a2,Q,S,X,N _ _ h.hn H⟩,⟨b2,v,s,b5,N _ _ h.hw b6⟩,⟨c3,c4,c5,N _ _ h.hs c6⟩,⟨d4,d5,N _ _ h.hb d6⟩,⟨e5,N _ _ h.hg e6⟩,N _ _ h.ht f6,D⟩]
 .erw[λz=>q (by simp[RunS.own,z])]
 .erw[λz=>q (by simp[RunS.own,z])]
 .erw[λz=>q (by simp[RunS.own,z])]
end
abbrev Qu:SpM:=λl M Q=>∃(e:Addr) (j:List (Key×MV)) (z:Str) (v:MV),l=[.ref e,.str z]/\M e=wc (.dic j)/\valM j (Xn z)=wc v/\Q v M
def _8A:MonW Qu:=by walk_at "m"
def _cx(T:Txt K mg t):FO P w K mg base 2 "looked_up" Qu:=by
 erw[T.bm.ok T.g _8A 2 ["named","name"] (fC T (fc (_6f T) f0)) MU (fun y M Q h=>?_) (fun y M Q h=>?_)]
 .have⟨_,_,_,_,rfl,_⟩:=h;rfl
 have⟨e,j,z,v,rfl,l,u,q⟩:=h;show wSs _ _ _ [wc (.ref e),wc (.str z)] M;delta MU;simp!;erw[ex3 z e j ⟨rfl,l,by rw[u];rfl,?_⟩]
 delta MS
 simp![l,u]
 erw[q]
def _h2{W:Wld}{I:Isl}{i:Nat}{s:Stp}(ok:IslOk W.w W.fns I)(u:I.stps[i]?=wc s)(y:Str->Int):∃n:Nat,XV s y W.w i=(n:Int)/\n<=I.stps.length:=by
 have z:=(Xm.mp u).1;have st:=ok.st s (Xd u);have l:∃n:Nat,(i:Int)+1=(n:Int)/\n<=I.stps.length:=⟨i+1,by lia,z⟩
 cases s with
 |jump T j=>
  unfold XV;by_cases c:T.val y W.w≠0
  .simp only[if_pos c];erw[⟨j.toNat,by have:=st.2.1;lia,by have:=st.2.1;have:=st.2.2;lia⟩]
  .simp only[if_neg c];erw[l]
 |take _ _=>erw[l]
 |give _ _=>erw[l]
 |put _ _=>erw[l]
def _ia{W:Wld}{I:Isl}{s:Stp}{j:List (Key×MV)}{u:MV}(z:1<=W.w)(ok:IslOk W.w W.fns I)(m:s∈I.stps)(l:WdOk W.w I j)(hw:∀f x,s=.take f x->∃v:Int,u=.int v/\0<=v/\v<2^W.w):WdOk W.w I (YG s j (rhoK j) W.w u):=by
 have st:=ok.st s m;cases s with
 |take f x=>
  have⟨v,rfl,g⟩:=hw f x rfl;erw[l.put ok.nd st.2 g]
 |put x T=>erw[l.put ok.nd st.1 (T.val_in z λy d=>(l.at ok.nd (st.2.2.2 y d)).2)]
 |give _ _=>erw[l]
 |jump _ _=>erw[l]
noncomputable def goR(R:RunS)(i n p d:Nat):RunS:={R with nums:=R.nums.set i n,ws:=R.ws.set i p,dn:=R.dn.set i (d+1)}
abbrev UF:SpM:=λm M Q=>∃(r:Addr) (W:Wld) (R:RunS) (z:Nat->Int) (i n:Nat) (I:Isl) (s:Stp) (u:MV) (a:Addr) (j:List (Key×MV)),m=[.ref r,.str I.name,.tup (I.stps.map Stp.mv),u]/\W.Good/\RunAt M W r R z/\W.isl[i]?=wc I/\R.nums[i]?=wc n/\I.stps[n]?=wc s/\(∀f x,s=.take f x->∃v:Int,u=.int v/\0<=v/\v<2^W.w)/\R.ws[i]?=wc a/\M a=wc (.dic j)/\
 ∀y p d l,R.dn[i]?=wc d->XV s (rhoK j) W.w n=((y:Nat):Int)->M p=we->l p=wc (.dic (YG s j (rhoK j) W.w u))->RunAt l W r (goR R i y p d) z->Kept M l r R (goR R i y p d)->Q .non l
def _8E:MonW UF:=by walk_at "m"
def _cB(T:Txt K mg t):FM P w K mg base 52 "Run" "go_on" UF:=by
 erw[T.c7.ok T.aa T.ab 4 ["self","name","steps","word","went"] (fC T (fc (OT T) f0)) Nu (fun f M Q h=>?_) (fun f M Q h=>?_)]
 .have⟨_,_,_,_,_,_,_,_,_,_,_,rfl,_⟩:=h;rfl
 have⟨r,W,R,mm,i,n,I,s,J,a,j,rfl,G,h,l,hn,S,hw,ha,hk,q⟩:=h;show wSs _ _ _ [wc (.ref r),wc (.str I.name),wc (.tup (I.stps.map Stp.mv)),wc J,we] M;have hi:i<W.isl.length:=(Xm.mp l).1;have i5:=G.i5;have ok:=G.io I (Xd l);obtain⟨d,hd⟩:∃d,R.dn[i]?=wc d:=⟨_,X6 (by rw[h.sl];erw[hi])⟩
 have⟨X,L,H⟩:=h.wa i I a l ha;obtain rfl:j=X:=by rw[hk]at L;cases L;rfl
 have v:=h.ob;have u:=h.hn;have y:=h.hw;have g:=h.hs;have vn:=h.nml G l hn;have vw:=h.wdl G l ha;have vd:=h.dnl G l hd;have nd:=h.nd;simp only[Yc,Xj,not_or]at nd;have⟨⟨a1,a2,_⟩,⟨b2,_⟩,_⟩:=nd;have x:∀b kv,M b=wc (.dic kv)->r≠b:=λb kv e z=>by subst z;rw[v]at e;cases e
 have r1:=x _ _ u;have r2:=x _ _ y;have r3:=x _ _ g;have lz:∀f:List MV,f.length=W.isl.length->(zipK W.ins f).length<16777216:=λf e=>by rw[U7 (by rw[ins_len];erw[e]),ins_len];lia
 delta Nu
 simp![v,runO,valM,Wld.mv,u,y,vn,vw]
 erw[ex10 _ a I.stps n W.w j (rhoK j) I.vars s J ⟨rfl,.inl rfl,S,Cu (ok.st s (Xd S)),G.w1,G.w2,hk,by rw[H.len];unfold Isl.vars;rw[X5];have:=ok.nv;lia,H.reads ok.nd,λp c=>?_⟩]
 have⟨m,N,hn2⟩:=_h2 ok S (rhoK j);replace q:=λp d M' h=>q m p d M' h N;rw[N];have wk':=_ia (u:=J) G.w1 ok (Xd S) H hw;generalize YG s j (rhoK j) W.w J=kvs' at*;have O:=SameM.new c (.dic kvs');have hk1:updM M p (.dic kvs') p=wc (.dic kvs'):=Xb;have pn:R.pn≠p:=neM u c;have pw:R.pw≠p:=neM y c;have ps:R.ps≠p:=neM g c;have U:=O _ _ v;have Y:=O _ _ u;have Z:=O _ _ y;have C:=O _ _ g;generalize updM M p _=M1 at*;delta Nt
 simp![U,runO,valM,Y]
 erw[⟨lz _ (by rw[X5];erw[h.nl]),?_⟩]
 rw[UZ (i:=i) (by rw[X5,ins_len];erw[h.nl]) G.in_nd (Y5 l)]
 have e1:(R.nums.map natM).set i (.int m)=(R.nums.set i m).map natM:=by rw[UK]
 rw[e1];have D:updM M1 R.pn (.dic (zipK W.ins ((R.nums.set i m).map natM))) r=_:=(X7 r1).trans U;have E:updM M1 R.pn (.dic (zipK W.ins ((R.nums.set i m).map natM))) R.pn=_:=Xb;have hw2:updM M1 R.pn (.dic (zipK W.ins ((R.nums.set i m).map natM))) R.pw=_:=(X7 (XR a1)).trans Z;have hs2:updM M1 R.pn (.dic (zipK W.ins ((R.nums.set i m).map natM))) R.ps=_:=(X7 (XR a2)).trans C;have hk2:updM M1 R.pn (.dic (zipK W.ins ((R.nums.set i m).map natM))) p=_:=(X7 (XR pn)).trans hk1;have f2:∀b o,M1 b=wc o->b≠R.pn->updM M1 R.pn (.dic (zipK W.ins ((R.nums.set i m).map natM))) b=wc o:=λb o e z=>(X7 z).trans e;generalize updM M1 R.pn _=M2 at*;delta Nr
 simp![D,runO,valM,hw2]
 erw[⟨lz _ (by rw[X5];erw[h.wl]),?_⟩]
 rw[UZ (i:=i) (by rw[X5,ins_len];erw[h.wl]) G.in_nd (Y5 l)]
 have e2:(R.ws.map MV.ref).set i (.ref p)=(R.ws.set i p).map MV.ref:=by rw[UK]
 rw[e2];have ob3:updM M2 R.pw (.dic (zipK W.ins ((R.ws.set i p).map MV.ref))) r=_:=(X7 r2).trans D;have hn3:updM M2 R.pw (.dic (zipK W.ins ((R.ws.set i p).map MV.ref))) R.pn=_:=(X7 a1).trans E;have hw3:updM M2 R.pw (.dic (zipK W.ins ((R.ws.set i p).map MV.ref))) R.pw=_:=Xb;have hs3:updM M2 R.pw (.dic (zipK W.ins ((R.ws.set i p).map MV.ref))) R.ps=_:=(X7 (XR b2)).trans hs2;have F:updM M2 R.pw (.dic (zipK W.ins ((R.ws.set i p).map MV.ref))) p=_:=(X7 (XR pw)).trans hk2;have f3:∀b o,M2 b=wc o->b≠R.pw->updM M2 R.pw (.dic (zipK W.ins ((R.ws.set i p).map MV.ref))) b=wc o:=λb o e z=>(X7 z).trans e;generalize updM M2 R.pw _=M3 at*;delta Nq
 simp![ob3,runO,valM,hs3,vd]
 erw[⟨lz _ (by rw[X5];erw[h.sl]),?_⟩]
 rw[UZ (i:=i) (by rw[X5,ins_len];erw[h.sl]) G.in_nd (Y5 l)]
 have e3:(R.dn.map natM).set i (.int ((d:Int)+1))=(R.dn.set i (d+1)).map natM:=by rw[UK];rfl
 rw[e3];have⟨A,B⟩:=h.went (M':=updM M3 R.ps (.dic (zipK W.ins ((R.dn.set i (d+1)).map natM)))) l hn2 c (λb o e z1 z2 z3=>(X7 z3).trans (f3 b o (f2 b o (O b o e) z1) z2)) ((X7 (XR ps)).trans F) wk' ((X7 a2).trans hn3) ((X7 b2).trans hw3) Xb;erw[q p d _ hd c ((X7 (XR ps)).trans F) A B]
def Qv(w:Nat)(f:Fer)(o:Option Stp)(j:Str->Int)(v:MV):Prop:=v=.non\/(∃T,o=wc (.give f.name T)/\v=askO o j w)\/∃(x:Str) (n:Nat),o=wc (.take f.name x)/\n<2^w/\v=.tup [.str "take",.str f.name,.int n]
noncomputable def U8(w:Nat)(f:Fer)(o:Option Stp)(j:Str->Int):Option Nat:=match o with
 |wc (.give g T)=>if g=f.name then wc (T.val j w).toNat else we
 |_=>we
def Zx(w:Nat)(f:Fer)(z:Str)(m:Int)(c:Nat)(o:Option Stp)(j:Str->Int)(A:Ab):Ab:=if f.giver=z then A.giver m c (U8 w f o j)else A.taker m c (Xs o f.name)
def smpA(f:Fer)(z:Str)(c:Nat)(A:Ab):Nat:=if f.giver=z then Xh A.k (A.gSamp c)else Xh A.k (A.tSamp c)
def hitA(w:Nat)(f:Fer)(z:Str)(o:Option Stp)(j:Str->Int)(A:Ab):Bool:=if f.giver=z then A.gives (U8 w f o j)else A.takes (Xs o f.name)
def Yw(w:Nat)(f:Fer)(z:Str)(o:Option Stp)(j:Str->Int)(A:Ab):MV:=if hitA w f z o j A=wf then(if f.giver=z then askO o j w else .tup [.str "take",.str f.name,.int (A.ws.getD A.tn 0:Nat)])else .non
abbrev V4:SpM:=λd M Q=>∃(r:Addr) (W:Wld) (R:RunS) (u:Nat->Int) (j:Nat) (f:Fer) (z:Str) (c:Nat) (o:Option Stp) (l:Str->Int) (x:Boat),d=[.ref r,f.mv,.str z,.int c,askO o l W.w]/\W.Good/\RunAt M W r R u/\u j<=R.m/\W.fer[j]?=wc f/\(z=f.giver\/z=f.taker)/\(∀s,o=wc s->U5 W.fer z s)/\(∀g T,o=wc (.give g T)->0<=T.val l W.w/\T.val l W.w<2^W.w)/\(∀y∈R.bs,y.A.ws.length<=1000)/\R.bs[j]?=wc x/\
 ∀y m,RunAt m W r {R with bs:=R.bs.set j y} (λi=>if i=j then R.m+1 else u i)->Kept M m r R {R with bs:=R.bs.set j y}->y.A=Zx W.w f z R.m c o l x.A->Qv W.w f o l (Yw W.w f z o l x.A)->Q (.tup [Yw W.w f z o l x.A,.int (smpA f z c x.A:Nat)]) m
def _46:MonW V4:=by walk_at "m"
def _lg{w:Nat}{v:Int}(j:0<=v)(l:v<2^w):∃n:Nat,v=(n:Int)/\n<2^w:=by
 erw[⟨v.toNat,(UQ j).symm,?_⟩];have e:((2:Int)^w)=((2^w:Nat):Int):=by rw[Vk];rfl
 lia
def _6Y(T:Txt K mg t):FM P w K mg base 5 "Run" "ring_ferry" V4:=by
 erw[T.bZ.ok T.aa T.ab 5 ["self","ferry","name","choice","asked","boat","wished","told"] (mC T [("is_wish_of",Ax),("Ferry_ring_giver",Vw),("Ferry_ring_taker",Wo)] [("Ferry_ring_giver",Vw),("Ferry_ring_taker",Wo)] [(1,"Ferry","ring_giver"),(2,"Ferry","ring_taker")] [] (fc (_bG T) f0) (fMc _3x (fMc _3w nl0)) (fMc ⟨_,_,rfl,fM (_5P T)⟩ (fMc ⟨_,_,rfl,fM (_5O T)⟩ nl0)) nl0) Np (fun vs M Q h=>?_) (fun vs M Q h=>?_)]
 .have⟨_,_,_,_,_,_,_,_,_,_,_,rfl,_⟩:=h;rfl
 have⟨r,W,R,O,j,f,z,c,o,l,x,rfl,G,h,C,B,hz,hE,hT,hL,D,q⟩:=h;show wSs _ _ _ [wc (.ref r),wc f.mv,wc (.str z),wc (.int c),wc (askO o l W.w),we,we,we] M;have hj:j<W.fer.length:=(Xm.mp B).1;have fm:f∈W.fer:=Xd B;have fok:=G.fo f fm;have b:=h.ba j f x B D;have xl:=hL x (Xd D);have ob:=h.ob;have hb:=h.hb;have hg:=h.hg;have ht:=h.ht;have vb:=h.btl G B D;have vg:=h.gvl G B D;have vt:=h.tkl G B D;have fe:=b.fy.fe;have E:∀i,i≠j->O i<=(λi=>if i=j then R.m+1 else O i) i:=λi ne=>by simp[ne]
 have m1:(λi=>if i=j then R.m+1 else O i) j=R.m+1:=by simp
 have cy:∀d,FrM M d [x.b,x.g,x.u]->∀a kv,M a=wc (.dic kv)->d a=wc (.dic kv):=λd fr a kv e=>fr a _ e λc=>b.dic e (by
  simp only[Boat.ads,Xj,XM,or_false]at c ⊢;rcases c with c|c|c<;>simp[c])
 have cA:∀d,FrM M d [x.b,x.g,x.u]->d r=wc (runO W R):=λd fr=>fr _ _ ob λc=>b.run ob (by
  simp only[Boat.ads,Xj,XM,or_false]at c ⊢;rcases c with c|c|c<;>simp[c])
 have glo:x.gl∉ [x.b,x.g,x.u]:=PN b.fy b.gv;have tlo:x.tl∉ [x.b,x.g,x.u]:=PN b.fy b.tk;have F:∀d,FrM M d [x.b,x.g,x.u]->FrM M d x.ads:=λd fr a o e U=>fr a o e λc=>U (by
  simp only[Boat.ads,Xj,XM,or_false]at c ⊢;rcases c with c|c|c<;>simp[c])
 delta Np
 simp![ob,runO,valM,Fer.mv,hb,vb]
 delta No
 simp![Fer.mv]
 erw[ex4 o l W.w f.name ⟨rfl,?_⟩];delta Nn
 simp![Fer.mv]
 erw[XU (λN=>?_) (λN=>?_)]
 . -- the giver's end
  have S:Xs o f.name=wf->∃T,o=wc (.give f.name T):=λe=>by
   rcases o with _|s
   .cases e
   .cases s with
    |take g y=>
     obtain rfl:g=f.name:=of_decide_eq_true e;erw[absurd (N.trans ((hE _ rfl) f fm rfl).symm) fok.ne]
    |give g T=>
     obtain rfl:g=f.name:=of_decide_eq_true e;erw[⟨T,rfl⟩]
    |put _ _=>cases e
    |jump _ _=>cases e
  have go:∀(m:Option Nat)(v:MV),v=wM m->U8 W.w f o l=m->(m=we\/∃T n,o=wc (.give f.name T)/\askO o l W.w=.tup [.str "give",.str f.name,.int ((n:Nat):Int)]/\m=wc n/\n<2^W.w)->
    Vw [.ref x.b,.int R.m,.int c,v] M (fun v1 M1=>wSs ([("is_wish_of",Ax),("Ferry_ring_giver",Vw),("Ferry_ring_taker",Wo)]:List (Str×SpM)) Ez {nx:=fun σ M=>wSs ([("is_wish_of",Ax),("Ferry_ring_giver",Vw),("Ferry_ring_taker",Wo)]:List (Str×SpM)) Ey {nx:=fun _ d=>Q .non d,rt:=Q} σ M,rt:=Q} [wc (.ref r),wc f.mv,wc (.str z),wc (.int c),wc (askO o l W.w),wc (.ref x.b),wc (.bl (Xs o f.name)),wc v1] M1):=by
   intro m v hv eN hxo;subst hv;have eR:x.A.giver R.m c m=Zx W.w f z R.m c o l x.A:=by rw[Zx,if_pos N,eN]
   have eS:smpA f z c x.A=Xh x.A.k (x.A.gSamp c):=if_pos N;have eH:hitA W.w f z o l x.A=x.A.gives m:=by rw[hitA,if_pos N,eN]
   erw[ex8 x.b x.p x.g x.u x.A R.m c m ⟨rfl,b.fy,VS b.gm C,VS b.tm C,λX M1 H fr fy=>?_⟩];have p:=fr _ _ b.gv glo;have L:=fr _ _ b.tk tlo;have n1:x.gl≠X:=neM b.gv H;have n2:x.tl≠X:=neM b.tk H;have ads:∀(A:Ab),∀a∈(⟨x.b,X,x.g,x.u,x.gl,x.tl,A⟩:Boat).ads,a∈x.ads\/M a=we:=λA a ha=>by
    simp only[Boat.ads,Xj,XM,or_false]at ha ⊢;rcases ha with e|e|e|e|e|e
    .erw[.inl (.inl e)]
    .erw[.inr (e▸H)]
    .erw[.inl (.inr (.inr (.inl e)))]
    .erw[.inl (.inr (.inr (.inr (.inl e))))]
    .erw[.inl (.inr (.inr (.inr (.inr (.inl e)))))]
    .erw[.inl (.inr (.inr (.inr (.inr (.inr e)))))]
   delta Ez;simp!;by_cases gvs:x.A.gives m=wf
   .have Y:(x.A.giver R.m c m).ws=x.A.ws++[m.getD 0]:=if_pos gvs;rcases hxo with e|⟨T,n,I,ea,rfl,U⟩
    .subst e;cases gvs
    rw[gvs];have g1:=cy _ fr _ _ hg;have r1:=cA _ fr;simp!;delta Nk
    simp![Fer.mv,r1,runO,valM,g1,vg,p,ea]
    erw[⟨⟨_,rfl⟩,by rw[X5];lia,?_⟩]
    have eM:x.A.ws.map natM++[MV.int (n:Int)]=(x.A.giver R.m c (wc n)).ws.map natM:=by rw[Y,XY];rfl
    rw[eM];have fy2:=fy.put p n1 ((x.A.giver R.m c (wc n)).ws.map natM);have gl2:updM M1 x.gl (.lst ((x.A.giver R.m c (wc n)).ws.map natM)) x.gl=_:=Xb;have tl2:updM M1 x.gl (.lst ((x.A.giver R.m c (wc n)).ws.map natM)) x.tl=_:=(X7 (XR b.n1.1)).trans L;have fr2:FrM M (updM M1 x.gl (.lst ((x.A.giver R.m c (wc n)).ws.map natM))) x.ads:=λa o e U=>(X7 (λz=>U (by simp[Boat.ads,z]))).trans (F _ fr a o e U)
    generalize updM M1 x.gl _=M2 at*;delta Nj;simp!;have tn:(x.A.giver R.m c (wc n)).tn<=x.A.ws.length:=by
     have:=b.fy.ok.lg1;have:=(b.fy.ok.tb _ (_v (by rw[b.fy.ok.tl];erw[b.fy.ok.gl.1]))).2
     have:=(b.fy.ok.tb _ (_v (by rw[b.fy.ok.tl];erw[b.fy.ok.gl.1]))).1
     have:=b.fy.ok.lt1;show x.A.tn<=_;lia
    have hy:BoatAt M2 f W.w (R.m+1) ⟨x.b,X,x.g,x.u,x.gl,x.tl,x.A.giver R.m c (wc n)⟩:=⟨fy2,gl2,by
      show M2 x.tl=wc (.lst (((x.A.giver R.m c (wc n)).ws.take (x.A.giver R.m c (wc n)).tn).map natM));rw[tl2,Y,FF tn];rfl,⟨b.n1.1,n1,n2⟩,b.k,by show R.m<R.m+1;lia,by show x.A.tm<R.m+1;have:=b.tm;lia,λu J=>by
      have J:u∈(x.A.giver R.m c (wc n)).ws:=J;rw[Y]at J;rcases Yo.mp J with J|J
      .erw[b.wd u J]
      .obtain rfl:u=n:=by simpa using J
       erw[U]⟩
    have⟨A1,A2⟩:=h.boat (y:=⟨x.b,X,x.g,x.u,x.gl,x.tl,x.A.giver R.m c (wc n)⟩) (p:=λi=>if i=j then R.m+1 else O i) B D fr2 (by show BoatAt _ _ _ (if j=j then R.m+1 else O j) _;rw[if_pos rfl];erw[hy]) rfl rfl rfl (ads _) E
    rw[<-ea];have Z:Yw W.w f z o l x.A=askO o l W.w:=by rw[Yw,eH,if_pos gvs,if_pos N]
    have:=q _ M2 A1 A2 eR (Z▸.inr (.inl ⟨T,I,rfl⟩));rw[Z,eS]at this;erw[this]
   .have Y:(x.A.giver R.m c m).ws=x.A.ws:=if_neg gvs;rw[Bool.not_eq_true]at gvs;rw[gvs];simp!;delta Nl;simp!;have hy:BoatAt M1 f W.w (R.m+1) ⟨x.b,X,x.g,x.u,x.gl,x.tl,x.A.giver R.m c m⟩:=⟨fy,by
      show M1 x.gl=wc (.lst ((x.A.giver R.m c m).ws.map natM));rw[Y];erw[p],by
      show M1 x.tl=wc (.lst (((x.A.giver R.m c m).ws.take (x.A.giver R.m c m).tn).map natM));rw[Y];erw[L],⟨b.n1.1,n1,n2⟩,b.k,by show R.m<R.m+1;lia,by show x.A.tm<R.m+1;have:=b.tm;lia,by
      show∀u∈(x.A.giver R.m c m).ws,u<2^W.w;rw[Y];erw[b.wd]⟩
    have⟨A1,A2⟩:=h.boat (y:=⟨x.b,X,x.g,x.u,x.gl,x.tl,x.A.giver R.m c m⟩) (p:=λi=>if i=j then R.m+1 else O i) B D (F _ fr) (by show BoatAt _ _ _ (if j=j then R.m+1 else O j) _;rw[if_pos rfl];erw[hy]) rfl rfl rfl (ads _) E
    have Z:Yw W.w f z o l x.A=.non:=by rw[Yw,eH,gvs];rfl
    have:=q _ M1 A1 A2 eR (Z▸.inl rfl);rw[Z,eS]at this;erw[this]
  delta Nm
  simp![fe,XW,valM,ob,runO]
  by_cases hw:Xs o f.name=wf
  .have⟨T,I⟩:=S hw;have⟨v0,v1⟩:=hT _ T I;have⟨n,en,U⟩:=_lg v0 v1;have ea:askO o l W.w=.tup [.str "give",.str f.name,.int (n:Int)]:=by rw[I];show MV.tup [.str "give",.str f.name,.int (T.val l W.w)]=_;rw[en]
   have:=go (wc n) _ rfl (by subst I;show(if f.name=f.name then wc (T.val l W.w).toNat else we)=wc n;rw[if_pos rfl,en];rfl) (.inr ⟨T,n,I,ea,rfl,U⟩)
   rw[if_pos hw]
   simp![ea]
   rw[<-ea];erw[this]
  .have gn:U8 W.w f o l=we:=by
    rcases o with _|s
    .rfl
    .cases s with
     |give g T=>erw[if_neg λe=>hw (decide_eq_true e)]
     |take _ _=>rfl
     |put _ _=>rfl
     |jump _ _=>rfl
   have:=go we _ rfl gn (.inl rfl);rw[if_neg hw]
   try walk_at "s"
   erw[this]
 . -- the taker's end
  have zt:f.taker=z:=(hz.resolve_left λe=>N e.symm).symm;have S:Xs o f.name=wf->∃y,o=wc (.take f.name y):=λe=>by
   rcases o with _|s
   .cases e
   .cases s with
    |take g y=>
     obtain rfl:g=f.name:=of_decide_eq_true e;erw[⟨y,rfl⟩]
    |give g T=>
     obtain rfl:g=f.name:=of_decide_eq_true e;erw[absurd ((hE _ rfl) f fm rfl) N]
    |put _ _=>cases e
    |jump _ _=>cases e
  delta Ey
  simp![fe,XW,valM,ob,runO]
  erw[ex8 x.b x.p x.g x.u x.A R.m c (Xs o f.name) ⟨rfl,b.fy,VS b.gm C,VS b.tm C,λM1 fr fy=>?_⟩];have p:=fr _ _ b.gv glo;have L:=fr _ _ b.tk tlo;have ads:∀(A:Ab),∀a∈(⟨x.b,x.p,x.g,x.u,x.gl,x.tl,A⟩:Boat).ads,a∈x.ads\/M a=we:=λA a ha=>.inl ha;have eR:x.A.taker R.m c (Xs o f.name)=Zx W.w f z R.m c o l x.A:=by rw[Zx,if_neg N]
  have eS:smpA f z c x.A=Xh x.A.k (x.A.tSamp c):=if_neg N;have eH:hitA W.w f z o l x.A=x.A.takes (Xs o f.name):=if_neg N;delta Ni;simp!;by_cases tks:x.A.takes (Xs o f.name)=wf
  .have eT:takM x.A (Xs o f.name)=.int (x.A.ws.getD x.A.tn 0:Nat):=if_pos tks;have Y:(x.A.taker R.m c (Xs o f.name)).tn=x.A.tn+1:=if_pos tks;have hw:Xs o f.name=wf:=((XQ _ _).mp tks).1;have hlt:x.A.tn<x.A.ws.length:=by
    have m2:=_v (j:=x.A.tx) (by rw[b.fy.ok.tl];erw[b.fy.ok.gl.1])
    have t1:=b.fy.ok.tb _ m2;have t2:=b.fy.ok.lt1;have t3:XF x.A.tx≠x.A.tn:=of_decide_eq_true ((XQ _ _).mp tks).2;lia
   have⟨y,I⟩:=S hw;have gd:x.A.ws.getD x.A.tn 0=x.A.ws[x.A.tn]:=by rw[Y1,X6 hlt];rfl
   rw[eT];have t1:=cy _ fr _ _ ht;have r1:=cA _ fr;simp!;delta Ng
   simp![Fer.mv,r1,runO,valM,t1,vt,L]
   erw[⟨⟨_,rfl⟩,by rw[X5,Yf];lia,?_⟩]
   have eM:(x.A.ws.take x.A.tn).map natM++[MV.int ((x.A.ws.getD x.A.tn 0:Nat):Int)]=(x.A.ws.take (x.A.tn+1)).map natM:=by
    rw[Zp,X6 hlt,XY,gd];rfl
   rw[eM];have fy2:=fy.put L b.n1.2.2 ((x.A.ws.take (x.A.tn+1)).map natM);have tl2:updM M1 x.tl (.lst ((x.A.ws.take (x.A.tn+1)).map natM)) x.tl=_:=Xb;have gl2:updM M1 x.tl (.lst ((x.A.ws.take (x.A.tn+1)).map natM)) x.gl=_:=(X7 b.n1.1).trans p;have fr2:FrM M (updM M1 x.tl (.lst ((x.A.ws.take (x.A.tn+1)).map natM))) x.ads:=λa o e U=>(X7 (λz=>U (by simp[Boat.ads,z]))).trans (F _ fr a o e U)
   generalize updM M1 x.tl _=M2 at*;delta Nf
   simp![Fer.mv]
   have hy:BoatAt M2 f W.w (R.m+1) ⟨x.b,x.p,x.g,x.u,x.gl,x.tl,x.A.taker R.m c (Xs o f.name)⟩:=⟨fy2,gl2,by
     show M2 x.tl=wc (.lst ((x.A.ws.take (x.A.taker R.m c (Xs o f.name)).tn).map natM));rw[Y];erw[tl2],b.n1,b.k,by show x.A.gm<R.m+1;have:=b.gm;lia,by show R.m<R.m+1;lia,b.wd⟩
   have⟨A1,A2⟩:=h.boat (y:=⟨x.b,x.p,x.g,x.u,x.gl,x.tl,x.A.taker R.m c (Xs o f.name)⟩) (p:=λi=>if i=j then R.m+1 else O i) B D fr2 (by show BoatAt _ _ _ (if j=j then R.m+1 else O j) _;rw[if_pos rfl];erw[hy]) rfl rfl rfl (ads _) E
   have Z:Yw W.w f z o l x.A=.tup [.str "take",.str f.name,.int (x.A.ws.getD x.A.tn 0:Nat)]:=by rw[Yw,eH,if_pos tks,if_neg N]
   have:=q _ M2 A1 A2 eR (Z▸.inr (.inr ⟨y,_,I,by rw[gd];erw[b.wd _ (XS hlt)],rfl⟩))
   rw[Z,eS]at this;erw[this]
  .have eT:takM x.A (Xs o f.name)=.non:=if_neg tks;have Y:(x.A.taker R.m c (Xs o f.name)).tn=x.A.tn:=if_neg tks;rw[eT];simp!;delta Nh;simp!;have hy:BoatAt M1 f W.w (R.m+1) ⟨x.b,x.p,x.g,x.u,x.gl,x.tl,x.A.taker R.m c (Xs o f.name)⟩:=⟨fy,p,by
     show M1 x.tl=wc (.lst ((x.A.ws.take (x.A.taker R.m c (Xs o f.name)).tn).map natM));rw[Y];erw[L],b.n1,b.k,by show x.A.gm<R.m+1;have:=b.gm;lia,by show R.m<R.m+1;lia,b.wd⟩
   have⟨A1,A2⟩:=h.boat (y:=⟨x.b,x.p,x.g,x.u,x.gl,x.tl,x.A.taker R.m c (Xs o f.name)⟩) (p:=λi=>if i=j then R.m+1 else O i) B D (F _ fr) (by show BoatAt _ _ _ (if j=j then R.m+1 else O j) _;rw[if_pos rfl];erw[hy]) rfl rfl rfl (ads _) E
   have Z:Yw W.w f z o l x.A=.non:=by rw[Yw,eH,if_neg tks]
   have:=q _ M1 A1 A2 eR (Z▸.inl rfl);rw[Z,eS]at this;erw[this]
def CF(w:Nat)(o:Option Stp)(j:Str->Int)(v:MV):Prop:=v=UE o\/(∃f T,o=wc (.give f T)/\v=askO o j w)\/∃(f x:Str) (n:Nat),o=wc (.take f x)/\n<2^w/\v=.tup [.str "take",.str f,.int n]
def RunAt.tick{M:MH}{W:Wld}{r:Addr}{R:RunS}{g u:Nat->Int}(h:RunAt M W r R g)(q:∀i,i<W.fer.length->g i<=u i)(m:Int):RunAt (updM M r (runO W {R with m:=m})) W r {R with m:=m} u/\Kept M (updM M r (runO W {R with m:=m})) r R {R with m:=m}:=by
 have p:∀a l,M a=wc (.dic l)->a≠r:=λa l e z=>by subst z;rw[h.ob]at e;cases e
 have d:∀a l,M a=wc (.dic l)->updM M r (runO W {R with m:=m}) a=wc (.dic l):=λa l e=>(X7 (p a l e)).trans e;erw[⟨⟨Xb,d _ _ h.hn,d _ _ h.hw,d _ _ h.hs,d _ _ h.hb,d _ _ h.hg,d _ _ h.ht,h.nl,h.wl,h.sl,h.bl,h.nb,λi I a L y=>let⟨k,e,o⟩:=h.wa i I a L y;⟨k,d _ _ e,o⟩,λj f x c N=>?_,h.sep,h.nd⟩,⟨λa o e O=>(X7 λz=>O (by simp[RunS.own,z])).trans e,λa y=>.inl y⟩⟩]
 have b:=h.ba j f x c N;erw[b.fr (q j (Xm.mp c).1) λa y o e=>(X7 λz=>b.run h.ob (by rw[<-z];erw[y])).trans e]
def RunAt.le{M:MH}{W:Wld}{r:Addr}{R:RunS}{u l:Nat->Int}(h:RunAt M W r R u)(y:∀i,u i<=l i):RunAt M W r R l:={h with ba:=λj f x z m=>(h.ba j f x z m).fr (y j) λ_ _ _ e=>e}
def RunAt.off{M:MH}{W:Wld}{r:Addr}{R:RunS}{m:Nat->Int}(h:RunAt M W r R m){p:Addr}{xs:List MV}(q:M p=wc (.lst xs))(g:p∉R.own r)(o:MO):RunAt (updM M p o) W r R m:=by
 have d:∀a l,M a=wc (.dic l)->updM M p o a=wc (.dic l):=λa l e=>(X7 λz=>by subst z;rw[q]at e;cases e).trans e
 erw[⟨(X7 λz=>g (by rw[<-z];erw[Y2 ..])).trans h.ob,d _ _ h.hn,d _ _ h.hw,d _ _ h.hs,d _ _ h.hb,d _ _ h.hg,d _ _ h.ht,h.nl,h.wl,h.sl,h.bl,h.nb,λi I a L y=>let⟨k,e,u⟩:=h.wa i I a L y;⟨k,d _ _ e,u⟩,λj f x N c=>(h.ba j f x N c).fr (Uo _) λa y u e=>(X7 λz=>g ?_).trans e,h.sep,h.nd⟩]
 rw[<-z];erw[XJ _ (XJ _ (XJ _ (XJ _ (Vd.mpr ⟨x,Xd c,y⟩))))]
def RunAt.ws_off{M:MH}{W:Wld}{r:Addr}{R:RunS}{g:Nat->Int}(h:RunAt M W r R g){i:Nat}{I:Isl}{a:Addr}(d:W.isl[i]?=wc I)(y:R.ws[i]?=wc a):a∉R.own r:=λz=>by
 have⟨f,e,_⟩:=h.wa i I a d y;have l:=h.nd;have u:=Xd y;simp only[Yc,Xj,not_or]at l;simp only[RunS.own,Xj,Vd]at z;rcases z with rfl|rfl|rfl|rfl|⟨x,c,z⟩
 .rw[h.ob]at e;cases e
 .erw[l.1.2.2.2.2.2 u]
 .erw[l.2.1.2.2.2.2 u]
 .erw[l.2.2.1.2.2.2 u]
 .have⟨j,m,rfl⟩:=Yn c;erw[(h.ba j _ _ (X6 (by rw[<-h.bl];erw[m])) (X6 m)).dic e z]
def newA(w:Nat)(z:Str)(m:Int)(c:Nat)(o:Option Stp)(j:Str->Int)(k:Nat)(f:Fer)(A:Ab):Ab:=if z=f.giver\/z=f.taker then Zx w f z m (c/2^(8*k)) o j A else A
def _j9{w:Nat}{z:Str}{m:Int}{c:Nat}{o:Option Stp}{j:Str->Int}{k:Nat}{f:Fer}{A:Ab}:(newA w z m c o j k f A).ws.length<=A.ws.length+1:=by
 unfold newA;split
 .unfold Zx;split
  .show(if A.gives _=wf then A.ws++[_]else A.ws).length<=_;split
   .rw[Ya];erw[X9 _]
   .erw[YC _]
  .erw[YC _]
 .erw[YC _]
def Hit(W:Wld)(bs:List Boat)(z:Str)(o:Option Stp)(j:Str->Int)(k:Nat)(f:Fer)(a:Boat):Prop:=W.fer[k]?=wc f/\bs[k]?=wc a/\(z=f.giver\/z=f.taker)/\hitA W.w f z o j a.A=wf
def WhatTo(W:Wld)(bs:List Boat)(z:Str)(o:Option Stp)(l:Str->Int)(j:Nat)(v:MV):Prop:=(v=UE o/\∀k f a,k<j->¬Hit W bs z o l k f a)\/∃k f a,k<j/\Hit W bs z o l k f a/\v=Yw W.w f z o l a.A
def WhatTo.stay{W:Wld}{bs:List Boat}{z:Str}{o:Option Stp}{ρ:Str->Int}{j:Nat}{v:MV}(h:WhatTo W bs z o ρ j v)(n:∀f a,¬Hit W bs z o ρ j f a):WhatTo W bs z o ρ (j+1) v:=by
 rcases h with⟨e,h⟩|⟨k,f,a,l,h,e⟩
 .erw[.inl ⟨e,λk f a l=>?_⟩];rcases Db.mp l with l|rfl
  .erw[h k f a l]
  .erw[n f a]
 .erw[.inr ⟨k,f,a,VP l,h,e⟩]
def BsTo(W:Wld)(bs l:List Boat)(z:Str)(m:Int)(c:Nat)(o:Option Stp)(y:Str->Int)(j:Nat):Prop:=∀k f a,k<j->W.fer[k]?=wc f->bs[k]?=wc a->∃u,l[k]?=wc u/\u.A=newA W.w z m c o y k f a.A
def BsTo.len{W:Wld}{bs l:List Boat}{z:Str}{m:Int}{c:Nat}{o:Option Stp}{ρ:Str->Int}{j:Nat}(h:BsTo W bs l z m c o ρ j)(g:l.length=W.fer.length)(r:bs.length=W.fer.length)(p:∀k,j<=k->l[k]?=bs[k]?){n:Nat} (d:∀y∈bs,y.A.ws.length<=n):∀y∈l,y.A.ws.length<=n+1:=λy L=>by
 have⟨k,u,rfl⟩:=Yn L;by_cases e:k<j
 .have f:k<bs.length:=by rw[r,<-g];erw[u]
  have⟨R,q,N⟩:=h k _ _ e (X6 (by rw[<-g];erw[u])) (X6 f)
  rw[X6 u]at q;cases q;rw[N];erw[Xv _j9 (Bb (d _ (XS f)))]
 .have O:=(p k (Nat.le_of_not_lt e)).symm.trans (X6 u);erw[Nat.le_succ_of_le (d _ (Xd O))]
def GoTo(W:Wld)(M c:MH)(r:Addr)(R y:RunS)(bs:List Boat)(i n:Nat)(j:List (Key×MV))(o:Option Stp)(v:MV):Prop:=
 (y={R with bs:=bs,m:=R.m+1}/\v=UE o/\∀s,o=wc s->∃z,Xs o z=wf)\/
 ∃s l g p d,o=wc s/\y=goR {R with bs:=bs,m:=R.m+1} i g p d/\R.dn[i]?=wc d/\XV s (rhoK j) W.w n=((g:Nat):Int)/\c p=wc (.dic (YG s j (rhoK j) W.w l))/\(∀u,M p=wc u->p∈R.own r)/\
  ((∀z,Xs o z=wg)/\v=UE o/\l=.non\/(∃f T,s=.give f T/\v=askO o (rhoK j) W.w/\l=.non)\/∃f x m,s=.take f x/\v=.tup [.str "take",.str f,.int m]/\l=.int m)
abbrev Ay:SpM:=λz M Q=>∃(r:Addr) (W:Wld) (R:RunS) (i:Nat) (I:Isl) (c n:Nat) (o:Option Stp) (a:Addr) (j:List (Key×MV)),z=[.ref r,.str I.name,.int c]/\W.Good/\RunAt M W r R (λ_=>R.m)/\W.isl[i]?=wc I/\(∀y∈R.bs,y.A.ws.length<=900)/\R.nums[i]?=wc n/\I.stps[n]?=o/\R.ws[i]?=wc a/\M a=wc (.dic j)/\
 ∀bs l u v p,RunAt u W r l (λ_=>l.m)->Kept M u r R l->BsTo W R.bs bs I.name R.m c o (rhoK j) W.fer.length->WhatTo W R.bs I.name o (rhoK j) W.fer.length v->GoTo W M u r R l bs i n j o v->Q (.tup [.str I.name,.int n,v,.ref p]) u
def Qw:MonW Ay:=by walk_at "m"
def _iv{w:Nat}{f:Fer}{z:Str}{o:Option Stp}{j:Str->Int}{A:Ab}(h:Qv w f o j (Yw w f z o j A))(l:hitA w f z o j A=wf):∃g,Yw w f z o j A=.tup g/\CF w o j (.tup g):=by
 rcases h with e|⟨T,u,e⟩|⟨y,m,u,d,e⟩
 .rw[Yw,if_pos l]at e;by_cases c:f.giver=z
  .rw[if_pos c]at e;cases o with
   |none=>rw[hitA,if_pos c]at l;cases l
   |some s=>cases s<;>cases e
  .rw[if_neg c]at e;cases e
 .rw[e,u];erw[⟨_,rfl,.inr (.inl ⟨_,T,rfl,rfl⟩)⟩]
 .rw[e];erw[⟨_,rfl,.inr (.inr ⟨_,y,m,u,d,rfl⟩)⟩]
def _f2{w:Nat}{o:Option Stp}{l:Str->Int}{v:MV}(h:CF w o l v):(∃(z:Str) (j:List MV),v=.tup (.str z::j)/\(z="done"\/z="wait")/\v=UE o/\∀s,o=wc s->∃y,Xs o y=wf)\/(∃(z:Str) (j:List MV) (s:Stp),v=.tup (.str z::j)/\¬(z="done"\/z="wait")/\¬z="take"/\o=wc s/\(((∀y,Xs o y=wg)/\v=UE o/\MV.non=.non)\/∃f T,s=.give f T/\v=askO o l w)/\∀f x,s≠.take f x)\/∃(f x:Str) (n:Nat),o=wc (.take f x)/\n<2^w/\v=.tup [.str "take",.str f,.int n]:=by
 have u:¬((("own":Str)="done")\/(("own":Str)="wait")):=by rw[_t,_t];decide
 have m:¬(("own":Str)="take"):=by rw[_t];decide
 have g:¬((("give":Str)="done")\/(("give":Str)="wait")):=by rw[_t,_t];decide
 have d:¬(("give":Str)="take"):=by rw[_t];decide
 rcases h with rfl|⟨f,T,rfl,rfl⟩|h
 .rcases o with _|s
  .erw[.inl ⟨_,_,rfl,.inl rfl,rfl,λs e=>nomatch e⟩]
  .cases s with
   |take f x=>erw[.inl ⟨_,_,rfl,.inr rfl,rfl,λs e=>⟨f,decide_eq_true rfl⟩⟩]
   |give f x=>erw[.inl ⟨_,_,rfl,.inr rfl,rfl,λs e=>⟨f,decide_eq_true rfl⟩⟩]
   |put x T=>erw[.inr (.inl ⟨_,_,_,rfl,u,m,rfl,.inl ⟨λ_=>rfl,rfl,rfl⟩,λf x e=>nomatch e⟩)]
   |jump T x=>erw[.inr (.inl ⟨_,_,_,rfl,u,m,rfl,.inl ⟨λ_=>rfl,rfl,rfl⟩,λf x e=>nomatch e⟩)]
 .erw[.inr (.inl ⟨_,_,_,rfl,g,d,rfl,.inr ⟨_,_,rfl,rfl⟩,λf x e=>nomatch e⟩)]
 .erw[.inr (.inr h)]
def CG{z a b:Str}:inV (toV (.str z)) ([MV.str a,.str b].map toV)=decide (z=a\/z=b):=by
 have:=Cg (z:=z) (j:=[a,b])
 simpa using this
def _dx(T:Txt K mg t):FM P w K mg base 53 "Run" "ring" Ay:=by
 erw[T.bQ.ok T.aa T.ab 3 ["self","name","choice","steps","number","asked","what","samples","j","ferry","told"] (mC T [("island_of",V2),("two_to",UW),("what_alone",Vz),("wish",Vu),("Run_go_on",UF),("Run_ring_ferry",V4)] [("Run_go_on",UF),("Run_ring_ferry",V4)] [(4,"Run","go_on"),(5,"Run","ring_ferry")] [] (fc (Fj T) (fc (Aq T) (fc (_bF T) (fc (OP T) f0)))) (fMc _8E (fMc _46 nl0)) (fMc ⟨_,_,rfl,fM (_cB T)⟩ (fMc ⟨_,_,rfl,fM (_6Y T)⟩ nl0)) nl0) Nd (fun vs M Q h=>?_) (fun vs M Q h=>?_)]
 .have⟨_,_,_,_,_,_,_,_,_,_,rfl,_⟩:=h;rfl
 erw[ee10 h λr W R i I c n o a N h=>?_];have⟨rfl,G,h,H,hL,hn,ho,C,O,q⟩:=h;show wSs _ _ _ [wc (.ref r),wc (.str I.name),wc (.int c),we,we,we,we,we,we,we,we] M;have hi:i<W.isl.length:=(Xm.mp H).1;have im:I∈W.isl:=Xd H;have ok:=G.io I im;have f6:=G.f6;have⟨kv0,hk0,wk⟩:=h.wa i I a H C;obtain rfl:N=kv0:=by rw[O]at hk0;cases hk0;rfl
 have ob:=h.ob;have hpn:=h.hn;have hpw:=h.hw;have vn:=h.nml G H hn;have vw:=h.wdl G H C;delta Nd
 simp![ob,runO,valM]
 erw[ex3 W i I ⟨rfl,G,H,?_⟩]
 simp![Isl.mv]
 delta Nc
 simp![ob,runO,valM,hpn,vn]
 delta Nb
 simp![ob,runO,valM,Wld.mv,hpw,vw]
 erw[ex8 _ a I.stps n W.w N (rhoK N) I.vars ⟨rfl,.inl rfl,λs hs=>Cu (ok.st s hs),h.nb i I n H hn,G.w1,G.w2,O,wk.reads ok.nd,?_⟩];rw[_oS];rw[ho];have hE:∀s,o=wc s->U5 W.fer I.name s:=λs e=>G.en I im s (Xd (ho.trans e));have hT:∀g T,o=wc (.give g T)->0<=T.val (rhoK N) W.w/\T.val (rhoK N) W.w<2^W.w:=λg T e=>T.val_in G.w1 λy hy=>(wk.at ok.nd ((ok.st _ (Xd (ho.trans e))).2.2.2 y hy)).2;obtain⟨L,hρ⟩:∃L,rhoK N=L:=⟨_,rfl⟩;rw[hρ]at hT q ⊢;delta Na;simp!;erw[ex3 o L W.w ⟨rfl,?_⟩];delta N9;simp!;intro p hp;have s1:=SameM.new hp (.lst []);have hp1:updM M p (.lst []) p=wc (.lst []):=Xb;have h1:=h.keep s1;have k1:Kept M (updM M p (.lst [])) r R R:=Kept.new s1;have own_some:∀b∈R.own r,∃u,M b=wc u:=λb hb=>by
  simp only[RunS.own,Xj,Vd]at hb;rcases hb with rfl|rfl|rfl|rfl|⟨x,hx,hb⟩
  .erw[⟨_,ob⟩]
  .erw[⟨_,hpn⟩]
  .erw[⟨_,hpw⟩]
  .erw[⟨_,h.hs⟩]
  .have⟨j,hj,rfl⟩:=Yn hx;have⟨u,e,_⟩:=(h.ba j _ _ (X6 (by rw[<-h.bl];erw[hj])) (X6 hj)).at_ b hb
   erw[⟨u,e⟩]
 have pno:p∉R.own r:=λz=>by
  have⟨u,e⟩:=own_some p z;rw[hp]at e;cases e
 generalize updM M p _=M1 at*;have ob1:=h1.ob;delta N8
 simp![ob1,runO,valM,Wld.mv,X5]
 obtain⟨J,hJ⟩:∃J:Nat->Sm->MH->Prop,∀j σ M',J j σ M'↔∃(bs:List Boat) (xs:List MV) (v:MV) (Z U l:Option MV),RunAt M' W r {R with bs:=bs} (λk=>if k<j then R.m+1 else R.m)/\Kept M M' r R {R with bs:=bs}/\CF W.w o L v/\WhatTo W R.bs I.name o L j v/\(M' p=wc (.lst xs)/\xs.length<=j)/\p∉RunS.own {R with bs:=bs} r/\(∀k,j<=k->bs[k]?=R.bs[k]?)/\BsTo W R.bs bs I.name R.m c o L j/\
  σ=[wc (.ref r),wc (.str I.name),wc (.int c),wc (.tup (I.stps.map Stp.mv)),wc (.int n),wc (askO o L W.w),wc v,wc (.ref p),Z,U,l]:=⟨_,λ_ _ _=>Yd⟩
 erw[⟨by lia,by lia,J,(hJ _ _ _).mpr (ex6 R.bs _ _ _ _ _ ⟨by simpa using h1,k1,.inl rfl,.inl ⟨rfl,λk f a O=>absurd O (VQ _)⟩,⟨hp1,X9 _⟩,pno,λ_ _=>rfl,λk f a O=>absurd O (VQ _),rfl⟩),λj σ M' h=>trivial,?_,?_⟩]
 .rintro j y σ M2 hy hj;erw[ee6 ((hJ _ _ _).mp hj) λbs xs v Z U l h=>?_];have⟨hR,hK,hv,hw,⟨hxs,xl⟩,hpo,A,Y,rfl⟩:=h;have⟨E,rfl⟩:=Vt hy;have E:j<W.fer.length:=by simpa using E
  have ej:((0:Int)+(j:Nat))=(j:Nat):=by lia
  have hf:W.fer[j]?=wc W.fer[j]:=X6 E;generalize W.fer[j]=f at*;have bl1:bs.length=W.fer.length:=hR.bl;obtain⟨x,hx⟩:∃x,bs[j]?=wc x:=⟨_,X6 (by rw[bl1];erw[E])⟩
  have hx0:R.bs[j]?=wc x:=(A j (X9 _)).symm.trans hx;have ob2:=hR.ob;have af:atI (W.fer.map Fer.mv) (j:Int)=wc f.mv:=Yl (by rw[Xe,hf];rfl)
  rw[ej]
  suffices key:∀D:EndM,D.nx=J (j+1)->wSs ([("island_of",V2),("two_to",UW),("what_alone",Vz),("wish",Vu),("Run_go_on",UF),("Run_ring_ferry",V4)]:List (Str×SpM)) Ex D [wc (.ref r),wc (.str I.name),wc (.int c),wc (.tup (I.stps.map Stp.mv)),wc (.int n),wc (askO o L W.w),wc v,wc (.ref p),wc (.int j),U,l] M2 from key _ rfl
  intro D hD;delta Ex
  simp![ob2,runO,valM,Wld.mv,af]
  delta N7
  simp![Fer.mv]
  erw[⟨rfl,rfl,?_⟩];rw[CG];simp!;erw[XU (λcz=>?_) (λcz=>?_)]
  .delta N6
   simp![ob2,runO,valM]
   have e8:(8:Int)*(j:Int)=((8*j:Nat):Int):=by lia
   rw[e8];erw[⟨8*j,rfl,by lia,?_⟩]
   simp!;have hc2:(c:Int)/2^(8*j)=((c/2^(8*j):Nat):Int):=by rw[Int.natCast_ediv,Vk];rfl
   rw[hc2];erw[⟨⟨Ap _,Int.lt_of_le_of_lt (OK (by lia)) (by decide)⟩,?_⟩]
   erw[ex11 r W ({R with bs:=bs}) _ j f I.name _ o L x ⟨rfl,G,hR,by simp,hf,cz,hE,hT,λy hy=>Xv (Y.len bl1 h.bl A hL y hy) (by decide),hx,λy X a3 a4 eA a5=>?_⟩]
   have a3:RunAt X W r {R with bs:=bs.set j y} (λi=>if i=j then R.m+1 else if i<j then R.m+1 else R.m):=a3;have a4:Kept M2 X r {R with bs:=bs} {R with bs:=bs.set j y}:=a4;have hp3:=a4.fr _ _ hxs hpo;have pno2:p∉RunS.own {R with bs:=bs.set j y} r:=λz=>by
    rcases a4.nw p z with y|y
    .erw[hpo y]
    .rw[hxs]at y;cases y
   have a3':RunAt X W r {R with bs:=bs.set j y} (λk=>if k<j+1 then R.m+1 else R.m):=a3.le λk=>by
    by_cases e1:k=j
    .subst e1;rw[if_pos rfl,if_pos (ZX _)];erw[Uo _]
    .rw[if_neg e1];by_cases S:k<j
     .rw[if_pos S,if_pos (by lia)];erw[Uo _]
     .rw[if_neg S,if_neg (by lia)];erw[Uo _]
   have k3:=hK.trans a4;delta N5
   simp![Fer.mv,hp3]
   erw[⟨⟨_,rfl⟩,by lia,?_⟩]
   obtain⟨ys,hys,yl⟩:∃ys,xs++[MV.tup [.str f.name,.int (smpA f I.name (c/2^(8*j)) x.A:Nat)]]=ys/\ys.length<=j+1:=⟨_,rfl,by rw[Ya];erw[Bb xl]⟩
   rw[hys];have r4:=a3'.off hp3 pno2 (.lst ys);have p4:updM X p (.lst ys) p=wc (.lst ys):=Xb;have k4:Kept M (updM X p (.lst ys)) r R {R with bs:=bs.set j y}:=⟨λb u e hb=>(X7 (neM e hp)).trans (k3.fr b u e hb),k3.nw⟩;generalize updM X p _=B at*;have bs4:∀k,j+1<=k->(bs.set j y)[k]?=R.bs[k]?:=λk O=>(AQ (by lia)).trans (A k (by lia))
   have to4:BsTo W R.bs (bs.set j y) I.name R.m c o L (j+1):=λk g a O F C=>by
    rcases Db.mp O with O|rfl
    .have⟨a',h1,h2⟩:=Y k g a O F C;erw[⟨a',(AQ (by lia)).trans h1,h2⟩]
    .rw[hf]at F;cases F;rw[hx0]at C;cases C;erw[⟨y,by rw[CP (by rw[bl1];erw[E])],by rw[eA,newA,if_pos cz]⟩]
   have fin:∀v3 w8 w9 w10,CF W.w o L v3->WhatTo W R.bs I.name o L (j+1) v3->J (j+1) [wc (.ref r),wc (.str I.name),wc (.int c),wc (.tup (I.stps.map Stp.mv)),wc (.int n),wc (askO o L W.w),wc v3,wc (.ref p),w8,w9,w10] B:=λv3 w8 w9 w10 hv3 hw3=>(hJ _ _ _).mpr (ex6 _ ys v3 w8 w9 w10 ⟨r4,k4,hv3,hw3,⟨p4,yl⟩,pno2,bs4,to4,rfl⟩);delta N2;by_cases hh:hitA W.w f I.name o L x.A=wf
   .have wt:WhatTo W R.bs I.name o L (j+1) (Yw W.w f I.name o L x.A):=.inr ⟨j,f,x,ZX _,⟨hf,hx0,cz,hh⟩,rfl⟩;have⟨us,et,wi⟩:=_iv a5 hh;rw[et]at wt ⊢;simp!;delta N0;simp!;rw[hD];erw[fin _ _ _ _ wi wt]
   .have et:Yw W.w f I.name o L x.A=.non:=if_neg hh;rw[et];simp!;rw[hD];erw[fin _ _ _ _ hv (hw.stay λg a F=>hh (by
     have⟨z1,z2,_,z4⟩:=F;rw[hf]at z1;cases z1;rw[hx0]at z2;cases z2;erw[z4]))]
  .rw[hD];erw[(hJ _ _ _).mpr (ex6 bs xs v _ _ _ ⟨hR.le λk=>?_,hK,hv,hw.stay λg a F=>cz (by
     have⟨z1,_,z3,_⟩:=F;rw[hf]at z1;cases z1;erw[z3]),⟨hxs,Nat.le_succ_of_le xl⟩,hpo,λk O=>A k (by lia),λk g a O F C=>?_,rfl⟩)]
   .show(if k<j then R.m+1 else R.m)<=(if k<j+1 then R.m+1 else R.m);by_cases S:k<j
    .rw[if_pos S,if_pos (by lia)];erw[Uo _]
    .rw[if_neg S];by_cases e3:k<j+1
     .rw[if_pos e3];lia
     .rw[if_neg e3];erw[Uo _]
   .rcases Db.mp O with O|rfl
    .erw[Y k g a O F C]
    .rw[hf]at F;cases F;erw[⟨a,(A k (X9 _)).trans C,by rw[newA,if_neg cz]⟩]
 .rintro σ M2 hj;erw[ee6 ((hJ _ _ _).mp hj) λbs xs v Z U l h=>?_];have⟨hR,hK,hv,hw,⟨hxs,xl⟩,hpo,A,Y,rfl⟩:=h;have hw:WhatTo W R.bs I.name o L W.fer.length v:=hw;have Y:BsTo W R.bs bs I.name R.m c o L W.fer.length:=Y;have ob2:=hR.ob;have⟨t1,t2⟩:=hR.tick (u:=λ_=>R.m+1) (λk O=>by show(if _ then _ else _)<=_;split<;>lia) (R.m+1)
  have k2:=hK.trans t2;delta MZ
  simp![ob2,runO,valM,putM]
  have eo:updM M2 r (runO W {R with bs:=bs,m:=R.m+1})=updM M2 r (.ins "Run" [("world",W.mv),("moment",.int (R.m+1)),("next_numbers",.ref R.pn),("words_now",.ref R.pw),("steps_so_far",.ref R.ps),("boats",.ref R.pb),("given_so_far",.ref R.pg),("taken_so_far",.ref R.pt)]):=rfl;rw[eo]at t1 k2;generalize updM M2 r _=X at*;have ret:∀(R3:RunS)(B:MH)(D:EndM),D.rt=Q->RunAt B W r R3 (fun _=>R3.m)->Kept M B r R R3->GoTo W M B r R R3 bs i n N o v->∀Z U l,wSs ([("island_of",V2),("two_to",UW),("what_alone",Vz),("wish",Vu),("Run_go_on",UF),("Run_ring_ferry",V4)]:List (Str×SpM)) Ao D [wc (.ref r),wc (.str I.name),wc (.int c),wc (.tup (I.stps.map Stp.mv)),wc (.int n),wc (askO o L W.w),wc v,wc (.ref p),Z,U,l] B:=by
   intro R3 B D hD a1 a2 a3 Z U l;delta Ao;simp!;rw[hD];erw[q bs R3 B _ p a1 a2 Y hw a3]
  have stay:v=UE o->(∀s,o=wc s->∃z,Xs o z=wf)->∀D:EndM,D.rt=Q->∀Z U l,wSs ([("island_of",V2),("two_to",UW),("what_alone",Vz),("wish",Vu),("Run_go_on",UF),("Run_ring_ferry",V4)]:List (Str×SpM)) Ao D [wc (.ref r),wc (.str I.name),wc (.int c),wc (.tup (I.stps.map Stp.mv)),wc (.int n),wc (askO o L W.w),wc v,wc (.ref p),Z,U,l] X:=fun e1 S D hD=>ret {R with bs:=bs,m:=R.m+1} X D hD t1 k2 (.inl ⟨rfl,e1,S⟩);have ob3:=t1.ob;have hk3:=k2.fr _ _ O (h.ws_off H C);have go:∀(s:Stp)(wd:MV),o=wc s->(∀f x,s=.take f x->∃v:Int,wd=.int v/\0<=v/\v<2^W.w)->((∀z,Xs o z=wg)/\v=UE o/\wd=.non\/(∃f T,s=.give f T/\v=askO o (rhoK N) W.w/\wd=.non)\/∃f x m,s=.take f x/\v=.tup [.str "take",.str f,.int m]/\wd=.int m)->∀Z U l,UF [.ref r,.str I.name,.tup (I.stps.map Stp.mv),wd] X (fun _ B=>wSs ([("island_of",V2),("two_to",UW),("what_alone",Vz),("wish",Vu),("Run_go_on",UF),("Run_ring_ferry",V4)]:List (Str×SpM)) Ao {nx:=fun _ M'=>Q .non M',rt:=Q} [wc (.ref r),wc (.str I.name),wc (.int c),wc (.tup (I.stps.map Stp.mv)),wc (.int n),wc (askO o L W.w),wc v,wc (.ref p),Z,U,l] B):=fun s wd es hw hd Z U l=>
   ⟨r,W,{R with bs:=bs,m:=R.m+1},_,i,n,I,s,wd,a,N,rfl,G,t1,H,hn,ho.trans es,hw,C,hk3,λn' p' d B e1 S e3 e4 a1 a2=>ret _ B _ rfl (a1.le λ_=>Uo _) (k2.trans a2) (.inr ⟨s,wd,n',p',d,es,rfl,e1,S,e4,(λu e=>Decidable.byContradiction λz=>by rw[k2.fr _ _ e z]at e3;cases e3),hd⟩) Z U l⟩
  delta MY;rcases _f2 hv with⟨z,us,rfl,hz,hw1,hw2⟩|⟨z,us,s,rfl,hz,hz2,es,hs⟩|⟨f,y,m,es,hm,rfl⟩
  .simp!;erw[⟨rfl,rfl,?_⟩];rw[CG,decide_eq_true hz]
   try walk_at "s"
   erw[stay hw1 hw2 _ rfl _ _ _]
  .have this:=go s .non es (λf x e=>absurd e (hs.2 f x)) (hs.1.imp_right fun⟨f,T,e1,S⟩=>.inl ⟨f,T,e1,by rw[hρ];erw[S],rfl⟩) Z U l
   simp!;erw[⟨rfl,rfl,?_⟩];rw[CG,decide_eq_false hz]
   try walk_at "s"
   delta Ew
   simp![ob3,runO,valM,hz2]
   erw[this]
  .have this:=go _ (.int (m:Int)) es (λf x e=>⟨_,rfl,by lia,by
    have e:((2:Int)^W.w)=((2^W.w:Nat):Int):=by rw[Vk];rfl
    lia⟩) (.inr (.inr ⟨f,y,m,rfl,rfl,rfl⟩)) Z U l
   simp!;erw[⟨rfl,rfl,?_⟩];rw[CG];simp!;delta Ew
   simp![ob3,runO,valM]
   erw[this]
noncomputable def RunS.all(R:RunS)(r:Addr):List Addr:=R.own r++R.pb::R.pg::R.pt::R.ws
structure Fd where
 F:Str
 e:IE
 d:Dc
noncomputable def fldS(x:Fd):IS:=.fset "Run" (.var 0) x.F x.e
def fld{z:List (Str×SpM)}{r:Addr}{v:MV}{x:Fd}{fs:List (Str×MV)}{D:EndM}{M:MH}(ok:Lays z [wc (.ref r),wc v] x.e x.d M)(m:M r=wc (.ins "Run" fs))(f:fs.length<1000)
  (q:∀p j u,FrM M u [r]->u r=wc (.ins "Run" (putM fs x.F (.ref p)))->Got x.d p j u->Laid M u (p::j.flatten)->D.nx [wc (.ref r),wc v] u):wS z (fldS x) D [wc (.ref r),wc v] M:=by
 rw[fldS,Je];erw[ok _ λp j M1 d g l=>⟨r,fs,rfl,d _ _ m,f,?_⟩];have c:∀a∈p::j.flatten,updM M1 r (.ins "Run" (putM fs x.F (.ref p))) a=M1 a:=fun a y=>X7 (neM m (l.2 a y).1).symm;erw[q p j _ (λa o e n=>(X7 (by simpa using n)).trans (d _ _ e)) Xb (g.move c) ⟨l.1,λa y=>⟨(l.2 a y).1,by rw[c a y];erw[(l.2 a y).2]⟩⟩]
def mkF:List Fd->ISs
 |[]=>.nil
 |d::ds=>.cons (fldS d) (mkF ds)
def CH:List Fd->(List (Str×MV)->List Addr->(MH->Prop)->Prop)->Prop
 |[],k=>k [] [] λ_=>True
 |x::ds,k=>∀p j,CH ds λfs A P=>k ((x.F,.ref p)::fs) (p::j.flatten++A) λM=>Got x.d p j M/\P M
theorem Qx:∀{j:List Fd} {k l:List (Str×MV)->List Addr->(MH->Prop)->Prop},(∀fs A P,k fs A P->l fs A P)->CH j k->CH j l
 |[],_,_,h,c=>h _ _ _ c
 |_::_,_,_,h,c=>λp u=>Qx (λ_ _ _ z=>h _ _ _ z) (c p u)
theorem flds{N:List (Str×SpM)}{r:Addr}{v:MV}{D:EndM}:∀(l:List Fd){fs:List (Str×MV)} {M:MH},(∀x∈l,∀M,Lays N [wc (.ref r),wc v] x.e x.d M)->M r=wc (.ins "Run" fs)->(fs.map (·.1)++l.map Fd.F).Nodup->fs.length+l.length<1000->
  CH l (fun y A P=>∀u,FrM M u [r]->u r=wc (.ins "Run" (fs++y))->A.Nodup->(∀a∈A,M a=we)->P u->D.nx [wc (.ref r),wc v] u)->wSs N (mkF l) D [wc (.ref r),wc v] M
 |[],fs,M,_,hr,_,_,h=>h M (FrM.refl _ _) (by rw[Z3];erw[hr]) WD (λ_ h=>(XM h).elim) trivial
 |d::l,fs,M,ok,hr,n2,O,h=>by
  rw[mkF,U4];have O:fs.length+(l.length+1)<1000:=O;erw[fld (ok d (Y2 ..) M) hr (by lia) λp R M1 fr c f new=>?_]
  have U:putM fs d.F (.ref p)=fs++[(d.F,.ref p)]:=Q6 λq W z=>(YS.mp n2).2.2 _ (XA.mpr ⟨q,W,rfl⟩) _ (Y2 ..) z;rw[U]at c;erw[flds l (λd hd=>ok d (XJ _ hd)) c (by simpa using n2) (by rw[Ya];show _+1+_<_;lia) (Qx (λy A P k u m Y Z L B=>?_) (h p R))]
  have st:∀a∈p::R.flatten,u a=M1 a:=λa j=>by
   have⟨T,o,g⟩:=new.2 a j;rw[g];erw[m _ _ g (λz=>by rw[Ye.mp z,hr]at T;cases T)]
  erw[k u (fr.trans m) (by rw[Y,Vb];rfl) (YS.mpr ⟨new.1,Z,λa j b C z=>?_⟩) (λa j=>?_) ⟨f.move st,B⟩]
  .have⟨_,o,g⟩:=new.2 a j;rw[z,L b C]at g;cases g
  .rcases Yo.mp j with j|j
   .erw[(new.2 a j).1]
   .cases e:M a with
    |none=>rfl
    |some o=>
     have:=fr a o e (λz=>?_)
     .rw[L a j]at this;cases this
     .rw[Ye.mp z]at j;rw[L r j]at c;cases c
def abOf(W:Wld)(j:Nat):Ab:=match W.fer[j]? with
 |wc f=>ab0 f.k f.st
 |we=>ab0 0 1
def UG(W:Wld)(l u y:List (List Addr))(j:Nat):Boat:=⟨hd (l.getD j []),(l.getD j []).getD 1 default,(l.getD j []).getD 2 default,(l.getD j []).getD 3 default,hd (u.getD j []),hd (y.getD j []),abOf W j⟩
def Hx{α β:Type}{d:α}{f:α->β}{L:List α}{n:Nat}(h:L.length=n):(Xq n).map (λj=>f (L.getD j d))=L.map f:=by
 apply WB;intro i;rw[Xe,Xe];by_cases hi:i<n
 .rw[Wy hi,X6 (by rw[h];erw[hi]),Bo,Bo,Y1,X6 (by rw[h];erw[hi])];rfl
 .rw[ZC (by rw[Ud];lia),ZC (by lia)];rfl
theorem CI:∀{L:List (List Addr)} {i j:Nat} {x y:List Addr},L.flatten.Nodup->L[i]?=wc x->L[j]?=wc y->i≠j->∀a∈x,a∉y
 |[],_,_,_,_,_,h,_,_=>by simp at h
 |l::L,0,0,_,_,_,_,_,ne=>absurd rfl ne
 |l::L,0,j+1,x,y,nd,h1,h2,_=>λa u z=>by
  rw[ZD,YS]at nd;obtain rfl:l=x:=by simpa using h1
  erw[nd.2.2 a u a (VL.mpr ⟨y,Xd (by simpa using h2),z⟩) rfl]
 |l::L,i+1,0,x,y,nd,h1,h2,_=>λa u z=>by
  rw[ZD,YS]at nd;obtain rfl:l=y:=by simpa using h2
  erw[nd.2.2 a z a (VL.mpr ⟨x,Xd (by simpa using h1),u⟩) rfl]
 |l::L,i+1,j+1,x,y,nd,h1,h2,ne=>by
  rw[ZD,YS]at nd;erw[CI nd.2.1 (by simpa using h1) (by simpa using h2) (λe=>ne (by rw[e]))]
def dBts(W:Wld):Dc:=⟨W.fns,λ_ N=>.ref (hd N),λj N M=>∃b p g u,N=[b,p,g,u]/\∀f,W.fer[j]?=wc f->FyAt M b p g u (ab0 f.k f.st),λj N M2 q y ⟨b,p,g,u,e,h⟩=>by
  subst e;erw[ex4 b p g u ⟨rfl,λf m=>?_⟩];have l:=h f m;have⟨d,c,z⟩:=l.pls;erw[⟨l.ok,(y b (by simp)).trans l.fe,⟨d,(y p (by simp)).trans c,z⟩,(y g (by simp)).trans l.gi,(y u (by simp)).trans l.ta,l.ne⟩]⟩
abbrev Az:SpM:=fun u M Q=>∃(r:Addr) (W:Wld),u=[.ref r,W.mv]/\M r=wc (.ins "Run" [])/\W.Good/\∀R l,FrM M l [r]->RunAt l W r R (fun _=>R.m)->R.m=0->(∀(j:Nat)f y,W.fer[j]?=wc f->R.bs[j]?=wc y->y.A=ab0 f.k f.st)->(∀a∈R.all r,a=r\/M a=we)->R.nums=(W.isl.map fun _=>0)->R.dn=(W.isl.map fun _=>0)->(∀(i:Nat)I a,W.isl[i]?=wc I->R.ws[i]?=wc a->l a=wc (.dic (wd0 I)))->Q .non l
def Qy:MonW Az:=by walk_at "m"
def _9a(T:Txt K mg t):FI P w K mg base 6 "Run" Az:=by
 erw[T.bG.oi T.aa T.ab T.g 2 ["self","world"] (mC T [("Ferry___init__",UC)] [("Ferry___init__",UC)] [] [(0,"Ferry")] f0 (fMc PM nl0) nl0 (fMc ⟨_,_,rfl,fI (_6Z T)⟩ nl0)) MX (fun vs M Q h=>?_) (fun vs M Q h=>?_)]
 .have⟨_,_,rfl,_⟩:=h;rfl
 have⟨r,W,rfl,hr,G,q⟩:=h;show wSs _ _ _ [wc (.ref r),wc W.mv] M;have S:=(_6 (u:=[("Ferry___init__",UC)]) (fMc PM nl0));have oB:∀M,Lays ([("Ferry___init__",UC)]:List (Str×SpM)) [wc (.ref r),wc W.mv] _ (dBts W) M:=fun M=>CA (x:=1) (E:=.make 0 "Ferry" (.ix (.var 0) (.int 3)) (.cons (.ix (.var 0) (.int 4)) .nil)) S G rfl rfl fun j f F M=>by
  have fo:=G.fo f (Xd F)
  simp![Fer.mv]
  intro b U;erw[ex3 b f.k f.st ⟨rfl,Xb,by have:=fo.k3;lia,fo.s1,fo.s3,λp g u M3 hp C hu fr B=>?_⟩]
  have J:∀z,updM M b (.ins "Ferry" []) z=we->z≠b/\M z=we:=fun z hz=>by
   have n:z≠b:=(neM Xb hz).symm;erw[⟨n,by rw[X7 n]at hz;erw[hz]⟩]
  have⟨pl,s,_⟩:=B.pls;have sm:SameM M M3:=λa o ea=>by
   have n:a≠b:=neM ea U;erw[fr a o ((X7 n).trans ea) (by simpa using n)]
  try walk_at "s"
  erw[⟨sm,[b,p,g,u],rfl,⟨?_,?_⟩,b,p,g,u,rfl,λf' hf'=>by rw[F]at hf';cases hf';erw[B]⟩]
  .simp only[Yc,Xj,XM,or_false,not_or,not_false_eq_true,WD,and_true];erw[⟨⟨(J p hp).1.symm,(J g C).1.symm,(J u hu).1.symm⟩,⟨YQ s B.gi (by intro z;cases z),YQ s B.ta (by intro z;cases z)⟩,B.ne⟩]
  .simp only[AN];erw[⟨⟨U,_,B.fe⟩,⟨(J _ hp).2,_,s⟩,⟨(J _ C).2,_,B.gi⟩,⟨(J _ hu).2,_,B.ta⟩,λ_ h=>by cases h⟩]
 have oN:∀M,Lays ([("Ferry___init__",UC)]:List (Str×SpM)) [wc (.ref r),wc W.mv] _ (dNum W.ins) M:=fun M=>Au (x:=1) S G rfl rfl fun j u _=>Fo j _;have oW:∀M,Lays ([("Ferry___init__",UC)]:List (Str×SpM)) [wc (.ref r),wc W.mv] _ (dWds W) M:=fun M=>Au (x:=1) S G rfl rfl (Qj G);have oL:∀M,Lays ([("Ferry___init__",UC)]:List (Str×SpM)) [wc (.ref r),wc W.mv] _ (dLst W) M:=fun M=>CA (x:=1) S G rfl rfl fun j u _=>Qk j _;delta MX
 simp![hr,putM]
 delta MW
 simp![Xb,putM]
 show wSs _ (mkF [⟨"next_numbers",_,dNum W.ins⟩,⟨"words_now",_,dWds W⟩,⟨"steps_so_far",_,dNum W.ins⟩,⟨"boats",_,dBts W⟩,⟨"given_so_far",_,dLst W⟩,⟨"taken_so_far",_,dLst W⟩]) _ _ _;erw[flds _ ?_ Xb ?_ (show 8<1000 by decide) ?_]
 .simp only[AN];erw[⟨oN,oW,oN,oB,oL,oL,λ_ h=>by cases h⟩]
 .show(["world","moment","next_numbers","words_now","steps_so_far","boats","given_so_far","taken_so_far"]:List Str).Nodup;decide
 rintro pn nn pw nw ps ns pb Y pg Z pt A X fr r' nd new ⟨g1,g2,g3,g4,g5,g6,_⟩;have⟨e1,n1⟩:=g1.num (y:=W.isl) ins_len.symm;have⟨e3,n3⟩:=g3.num (y:=W.isl) ins_len.symm;have O:∀{L:List (List Addr)} {j:Nat} {N} {a:Addr},L[j]?=wc N->a∈N->a∈L.flatten:=λh R=>VL.mpr ⟨_,Xd h,R⟩;have bl:Y.length=W.fer.length:=g4.l.trans fns_len;have gl:Z.length=W.fer.length:=g5.l.trans fns_len;have tl:A.length=W.fer.length:=g6.l.trans fns_len;have wl:nw.length=W.isl.length:=g2.l.trans ins_len;have back:∀{a x y},updM (updM M r x) r y a=we->M a=we:=fun{a x y} h=>by
  by_cases z:a=r
  .rw[z,Xb]at h;cases h
  .rwa [X7 z,X7 z]at h
 replace new:=λa R=>back (new a R);have e2:nw.flatten=nw.map hd:=Fm λj N h=>by
  have⟨p,_,e,_⟩:=g2.c j N h;erw[⟨p,e⟩]
 rw[e2,e1,e3]at nd new;simp only[Yk,Yz,Z3,Yc,Xj,Yo,not_or,YS]at nd new;have⟨q1,q2,wn,⟨q3,q4,bn,⟨q5,gn,⟨q6,tn⟩,gd⟩,bd⟩,wd⟩:=nd;have gD:∀{L:List (List Addr)} {j:Nat} {N},L[j]?=wc N->L.getD j []=N:=λh=>by rw[Y1,h];rfl
 have at_:∀{j:Nat} {f},W.fer[j]?=wc f->∃b p g u x y,Y[j]?=wc [b,p,g,u]/\Z[j]?=wc [x]/\A[j]?=wc [y]/\FyAt X b p g u (ab0 f.k f.st)/\X x=wc (.lst [])/\X y=wc (.lst [])/\UG W Y Z A j=⟨b,p,g,u,x,y,ab0 f.k f.st⟩:=fun{j f} F=>by
  have H:=(Xm.mp F).1;have U:=X6 (show j<Y.length by lia)
  have C:=X6 (show j<Z.length by lia)
  have v:=X6 (show j<A.length by lia)
  have⟨b,p,g,u,e,B⟩:=g4.c j _ U;have⟨x,_,e',hx,rfl⟩:=g5.c j _ C;have⟨y,_,e'',hy,rfl⟩:=g6.c j _ v;rw[e]at U;rw[e']at C;rw[e'']at v;erw[ex6 b p g u x y ⟨U,C,v,B f F,hx,hy,?_⟩];unfold UG abOf;rw[gD U,gD C,gD v,F];rfl
 have bg:∀{a},a∈Y.flatten->a∉Z.flatten:=λh z=>bd _ h _ (.inr (.inl z)) rfl;have bt:∀{a},a∈Y.flatten->a∉A.flatten:=λh z=>bd _ h _ (.inr (.inr (.inr z))) rfl;have gt:∀{a},a∈Z.flatten->a∉A.flatten:=λh z=>gd _ h _ (.inr z) rfl;have bat:∀{j:Nat} {x},((Xq W.fer.length).map (UG W Y Z A))[j]?=wc x->j<W.fer.length/\x=UG W Y Z A j:=fun{j x} h=>by
  have H:=(Xm.mp h).1;rw[X5,Ud]at H;rw[Xe,Wy H]at h;erw[⟨H,(Y4 h).symm⟩]
 have ads:∀{j:Nat} {x:Boat} {a},((Xq W.fer.length).map (UG W Y Z A))[j]?=wc x->a∈x.ads->(∃N,Y[j]?=wc N/\a∈N)\/(∃N,Z[j]?=wc N/\a∈N)\/∃N,A[j]?=wc N/\a∈N:=fun{j x a} h R=>by
  have⟨H,rfl⟩:=bat h;erw[ee6 (at_ (X6 H)) λb p g u x y h=>?_];have⟨U,C,v,_,_,_,e⟩:=h;rw[e]at R;simp only[Boat.ads,Xj,XM,or_false]at R;rcases R with c|c|c|c|c|c
  .erw[.inl ⟨_,U,by simp[c]⟩]
  .erw[.inl ⟨_,U,by simp[c]⟩]
  .erw[.inl ⟨_,U,by simp[c]⟩]
  .erw[.inl ⟨_,U,by simp[c]⟩]
  .erw[.inr (.inl ⟨_,C,by simp[c]⟩)]
  .erw[.inr (.inr ⟨_,v,by simp[c]⟩)]
 have eb:∀{L:List (List Addr)},L.length=W.fer.length->(Xq W.fer.length).map (λj=>MV.ref (hd (L.getD j [])))=L.map λN=>MV.ref (hd N):=λh=>Hx (d:=[]) (f:=λN=>MV.ref (hd N)) h;have wat:∀(i:Nat)I a,W.isl[i]?=wc I->(nw.map hd)[i]?=wc a->X a=wc (.dic (wd0 I)):=λi I a hI R=>by
  rw[Xe]at R;have⟨N,l,rfl⟩:=Vl.mp R;have⟨p,o,rfl,h,c⟩:=g2.c i N l;rw[c I hI]at h;erw[h]
 erw[q ⟨0,W.isl.map λ_=>0,nw.map hd,W.isl.map λ_=>0,(Xq W.fer.length).map (UG W Y Z A),pn,pw,ps,pb,pg,pt⟩ X ((((FrM.refl M [r]).upd (Ye.mpr rfl) _).upd (Ye.mpr rfl) _).trans fr) ⟨r',?_,?_,?_,?_,?_,?_,by rw[X5],by rw[X5];erw[wl],by rw[X5],by rw[X5,Ud],λi I m hI hm=>?_,λi I a hI R=>⟨_,wat i I a hI R,(Fn (G.io I (Xd hI)).nd (G.io I (Xd hI)).wd).2⟩,λj f x F hx=>?_,λi j x y J hx hy a R U=>?_,?_⟩ rfl (λj f y F hy=>?_) (λa R=>?_) rfl rfl wat]
 .erw[n1]
 .show X pw=wc (.dic (zipK W.ins ((nw.map hd).map MV.ref)));rw[XZ];erw[g2.dm rfl]
 .erw[n3]
 .show X pb=wc (.dic (zipK W.fns (((Xq W.fer.length).map (UG W Y Z A)).map (λx=>MV.ref x.b))));rw[XZ];erw[eb bl▸g4.dm rfl]
 .show X pg=wc (.dic (zipK W.fns (((Xq W.fer.length).map (UG W Y Z A)).map (λx=>MV.ref x.gl))));rw[XZ];erw[eb gl▸g5.dm rfl]
 .show X pt=wc (.dic (zipK W.fns (((Xq W.fer.length).map (UG W Y Z A)).map (λx=>MV.ref x.tl))));rw[XZ];erw[eb tl▸g6.dm rfl]
 .have hm:(W.isl.map λ_=>0)[i]?=wc m:=hm;rw[Xe,hI]at hm;cases hm;erw[YB _]
 .have⟨_,rfl⟩:=bat hx;erw[ee6 (at_ F) λb p g u x y h=>?_];have⟨U,C,v,B,h1,h2,e⟩:=h;have pm:p∈Y.flatten:=O U (by simp)
  have xm:x∈Z.flatten:=O C (by simp)
  have ym:y∈A.flatten:=O v (by simp)
  rw[e];erw[⟨B,h1,h2,⟨λz:x=y=>gt xm (z▸ym),λz:x=p=>bg pm (z▸xm),λz:y=p=>bt pm (z▸ym)⟩,rfl,(by decide:(-1:Int)<0),(by decide:(-1:Int)<0),λz hz=>by cases hz⟩]
 .rcases ads hx R with⟨N,l,c⟩|⟨N,l,c⟩|⟨N,l,c⟩<;>rcases ads hy U with⟨K,D,d⟩|⟨K,D,d⟩|⟨K,D,d⟩
  .erw[CI bn l D J a c d]
  .erw[bg (O l c) (O D d)]
  .erw[bt (O l c) (O D d)]
  .erw[bg (O D d) (O l c)]
  .erw[CI gn l D J a c d]
  .erw[gt (O l c) (O D d)]
  .erw[bt (O D d) (O l c)]
  .erw[gt (O D d) (O l c)]
  .erw[CI tn l D J a c d]
 .show(pn::pw::ps::pb::pg::pt::nw.map hd).Nodup;simp only[Yc,Xj,not_or];erw[⟨⟨q1.1,q1.2.2.1,q1.2.2.2.1,q1.2.2.2.2.2.1,q1.2.2.2.2.2.2.2.1,q1.2.1⟩,⟨q2.2.1,q2.2.2.1,q2.2.2.2.2.1,q2.2.2.2.2.2.2.1,q2.1⟩,⟨q3.1,q3.2.2.1,q3.2.2.2.2.1,λz=>wd _ z _ (.inl rfl) rfl⟩,⟨q4.2.1,q4.2.2.2.1,λz=>wd _ z _ (.inr (.inl rfl)) rfl⟩,⟨q5.2.1,λz=>wd _ z _ (.inr (.inr (.inr (.inl rfl)))) rfl⟩,λz=>wd _ z _ (.inr (.inr (.inr (.inr (.inr (.inl rfl)))))) rfl,wn⟩]
 .have⟨_,rfl⟩:=bat hy;erw[ee6 (at_ F) λ_ _ _ _ _ _ h=>?_];have⟨_,_,_,_,_,_,e⟩:=h;rw[e]
 .simp only[RunS.all,RunS.own,Yo,Xj,Vd]at R;erw[Decidable.or_iff_not_imp_left.mpr λar=>new a ?_];rcases R with(c|c|c|c|⟨x,hx,c⟩)|c|c|c|c
  .erw[(ar c).elim]
  .erw[.inl c]
  .erw[.inr (.inl c)]
  .erw[.inr (.inr (.inr (.inl c)))]
  .have⟨j,H⟩:=UJ hx;rcases ads H c with⟨N,l,d⟩|⟨N,l,d⟩|⟨N,l,d⟩
   .erw[.inr (.inr (.inr (.inr (.inr (.inl (O l d))))))]
   .erw[.inr (.inr (.inr (.inr (.inr (.inr (.inr (.inl (O l d))))))))]
   .erw[.inr (.inr (.inr (.inr (.inr (.inr (.inr (.inr (.inr (O l d)))))))))]
  .erw[.inr (.inr (.inr (.inr (.inl c))))]
  .erw[.inr (.inr (.inr (.inr (.inr (.inr (.inl c))))))]
  .erw[.inr (.inr (.inr (.inr (.inr (.inr (.inr (.inr (.inl c))))))))]
  .erw[.inr (.inr (.inl c))]
noncomputable abbrev AA:SpM:=λj M Q=>∃(r:Addr) (W:Wld) (R:RunS) (l:Nat->Int) (i n:Nat) (I:Isl),j=[.ref r,.str I.name]/\W.Good/\RunAt M W r R l/\W.isl[i]?=wc I/\R.dn[i]?=wc n/\Q (.int n) M
def Qz:MonW AA:=by walk_at "m"
def _6X(T:Txt K mg t):FM P w K mg base 3 "Run" "steps_done" AA:=by
 erw[T.aG.ok T.aa T.ab 2 ["self","name"] (fC T (fc (_cx T) f0)) Nv (fun j M Q h=>?_) (fun j M Q h=>?_)]
 .have⟨_,_,_,_,_,_,_,rfl,_⟩:=h;rfl
 have⟨r,W,R,z,i,n,I,rfl,G,h,l,u,q⟩:=h;show wSs _ _ _ [wc (.ref r),wc (.str I.name)] M;have y:=h.ob;delta Nv
 simp![y,runO,valM]
 erw[ex4 _ _ _ _ ⟨rfl,h.hs,h.dnl G l u,?_⟩];erw[q]
def RunAt.own_some{M:MH}{W:Wld}{r:Addr}{R:RunS}{z:Nat->Int}(h:RunAt M W r R z):∀a∈R.own r,∃o,M a=wc o:=λb l=>by
 simp only[RunS.own,Xj,Vd]at l;rcases l with rfl|rfl|rfl|rfl|⟨x,m,l⟩
 .erw[⟨_,h.ob⟩]
 .erw[⟨_,h.hn⟩]
 .erw[⟨_,h.hw⟩]
 .erw[⟨_,h.hs⟩]
 .have⟨j,y,rfl⟩:=Yn m;have⟨u,e,_⟩:=(h.ba j _ _ (X6 (by rw[<-h.bl];erw[y])) (X6 y)).at_ b l
  erw[⟨u,e⟩]
noncomputable abbrev rgM(x:Str×Nat):MV:=.tup [.str x.1,.int x.2]
abbrev CJ:SpM:=λd M Q=>∃(z m:Addr) (l:List Int) (g:List MV) (j:List Isl),d=[.ref z,.ref m]/\M z=wc (.lst (l.map MV.int))/\l.length<=80/\M m=wc (.lst g)/\IslsIn M j g/\1<=j.length/\j.length<=5/\
 ∀p (u:List (Str×Nat))y,SameM M y->M p=we->y p=wc (.lst (u.map rgM))->u.length=l.length->(∀x∈u,∃I∈j,x.1=I.name)->Q (.ref p) y
def QA:MonW CJ:=by walk_at "m"
def _bH(T:Txt K mg t):FO P w K mg base 1 "_law_rings" CJ:=by
 erw[T.bb.ok T.g QA 2 ["cells","islands","rings","cell"] (fC T f0) Ou (fun H M Q h=>?_) (fun H M Q h=>?_)]
 .have⟨_,_,_,_,_,rfl,_⟩:=h;rfl
 have⟨D,E,O,g,R,rfl,F,cl,o,G,i1,i5,q⟩:=h;show wSs _ _ _ [wc (.ref D),wc (.ref E),we,we] M;have yl:=G.1;delta Ou;simp!;intro p U;have S:=SameM.new U (.lst []);have W:updM M p (.lst []) p=wc (.lst []):=Xb;generalize updM M p _=M1 at*;have Y:=S _ _ F;delta Ot
 simp![Y]
 obtain⟨J,f⟩:∃J:Nat->Sm->MH->Prop,∀j r u,J j r u↔∃(m:List (Str×Nat)) (v:Option MV),SameM M u/\u p=wc (.lst (m.map rgM))/\m.length=j/\(∀x∈m,∃I∈R,x.1=I.name)/\r=[wc (.ref D),wc (.ref E),wc (.ref p),v]:=⟨_,λ_ _ _=>Yd⟩;erw[⟨J,(f _ _ _).mpr ⟨[],_,S,W,rfl,(λx h=>nomatch h),rfl⟩,λj r u h=>?_,?_,?_⟩]
 .have⟨_,_,s,_⟩:=(f _ _ _).mp h;erw[s _ _ F]
 .rintro j y r u i h;have⟨m,v,s,l,Z,A,rfl⟩:=(f _ _ _).mp h;have⟨X,rfl⟩:=YO (show(O.map MV.int)[j]?=wc y from i);generalize O[j]=x at*;have e:=s _ _ o;have B:=G.keep s;delta Os
  simp![l,e]
  have n:=ZL x (show(g.length:Int)≠0 by lia)
  have m1:=ZY x (show(0:Int)<(g.length:Int) by lia)
  obtain⟨k,hk⟩:∃k:Nat,x%(g.length:Int)=(k:Int):=⟨_,(UQ n).symm⟩;rw[hk]at m1 ⊢;have L:k<g.length:=by lia
  have N:k<R.length:=by lia
  have⟨a,b,ey,_⟩:=B.2 k _ _ (X6 N) (X6 L);erw[⟨⟨_,rfl⟩,by lia,_,Yl (X6 L),?_⟩]
  rw[ey]
  simp![e,l]
  have c0:=ZL (x/(g.length:Int)) (show(1000000000000000000000000000000:Int)≠0 by decide)
  obtain⟨c,C⟩:∃c:Nat,x/(g.length:Int)%1000000000000000000000000000000=(c:Int):=⟨_,(UQ c0).symm⟩;rw[C];have X:j<O.length:=X;erw[⟨⟨by lia,by lia⟩,by rw[X5];lia,(f _ _ _).mpr ⟨m++[(R[k].name,c)],_,s.upd U _,by rw[Xb,XY];rfl,by rw[Ya,Z];rfl,(λz d=>?_),rfl⟩⟩]
  rcases Yo.mp d with d|d
  .erw[A z d]
  .rw[Ye]at d;subst d;erw[⟨_,XS N,rfl⟩]
 .rintro r u h;have⟨m,v,s,l,Z,A,rfl⟩:=(f _ _ _).mp h;delta Oq;simp!;erw[q p m u s U l (Z.trans (X5 _)) A]
structure Sk where
 a:Nat
 kv:List (Key×MV)
 c:Str->Nat
def Sk.first(I:Isl):Sk:=⟨0,zipK I.vars ((I.prs.map (·.2)).map MV.int),λ_=>0⟩
def Sk.go(w:Nat)(S:Sk)(s:Stp)(j:MV):Sk:=⟨(XV s (rhoK S.kv) w S.a).toNat,YG s S.kv (rhoK S.kv) w j,λz=>if Xs (wc s) z=wf then S.c z+1 else S.c z⟩
inductive Kn (W:Wld):Nat->Nat->Sk->Prop
 |init {i:Nat} {I:Isl}:W.isl[i]?=some I->Kn W i 0 (Sk.first I)
 |own {i n:Nat} {S:Sk} {I:Isl} {s:Stp}:Kn W i n S->W.isl[i]?=some I->I.stps[S.a]?=some s->(∀f x,s≠.take f x)->Kn W i (n+1) (S.go W.w s .non)
 |take {i n:Nat} {S:Sk} {I:Isl} {f x:Str} {g m:Nat} {S':Sk} {I':Isl} {T:Tm}:Kn W i n S->W.isl[i]?=some I->I.stps[S.a]?=some (.take f x)->Kn W g m S'->W.isl[g]?=some I'->I'.stps[S'.a]?=some (.give f T)->S'.c f=S.c f->Kn W i (n+1) (S.go W.w (.take f x) (.int (T.val (rhoK S'.kv) W.w)))
section
variable{W:Wld}
def go_c{w:Nat}{S:Sk}{s:Stp}{j:MV}(z:Str):S.c z<=(S.go w s j).c z/\(Xs (wc s) z=wf->S.c z<(S.go w s j).c z):=by
 show _<=(if _ then _ else _)/\(_->_<if _ then _ else _);split
 .erw[⟨YC _,λ_=>ZX _⟩]
 .erw[⟨X9 _,λe=>absurd e (by assumption)⟩]
def Fw(W:Wld)(i n:Nat)(S:Sk):Prop:=∀l,l<=n->∃j,Kn W i l j/\(∀z,j.c z<=S.c z)/\(l<n->∀(I:Isl)(s:Stp)z,W.isl[i]?=wc I->I.stps[j.a]?=wc s->Xs (wc s) z=wf->j.c z<S.c z)
def QB{i n:Nat}{S:Sk}{I:Isl}{s:Stp}{u:MV}(h:Kn W i n S)(y:Fw W i n S)(m:W.isl[i]?=wc I)(g:I.stps[S.a]?=wc s)(d:Kn W i (n+1) (S.go W.w s u)):Fw W i (n+1) (S.go W.w s u):=λj r=>by
 rcases Nat.lt_trichotomy j n with l|rfl|l
 .have⟨c,k,f,q⟩:=y j (ZJ l);erw[⟨c,k,λz=>Xv (f z) (go_c z).1,λ_ I s z a b e=>YA (q l I s z a b e) (go_c z).1⟩]
 .erw[⟨S,h,λz=>(go_c z).1,λ_ p L z a b e=>?_⟩];rw[m]at a;cases a;rw[g]at b;cases b;erw[(go_c z).2 e]
 .obtain rfl:j=n+1:=by lia
  erw[⟨_,d,λz=>X9 _,λl=>absurd l (Ze _)⟩]
def Kn.pre{i n:Nat}{S:Sk}(h:Kn W i n S):Fw W i n S:=by
 induction h with
 |init j=>erw[λr d=>⟨_,Nat.le_zero.mp d▸.init j,λz=>X9 _,λl=>by lia⟩]
 |own h j u c y=>erw[QB h y j u (.own h j u c)]
 |take h j u g f m q y p=>erw[QB h y j u (.take h j u g f m q)]
def Kn.inv0{i:Nat}{S:Sk}(h:Kn W i 0 S):∃I,W.isl[i]?=wc I/\S=.first I:=by
 cases h with
 |init j=>erw[⟨_,j,rfl⟩]
def Kn.inv{i n:Nat}{z:Sk}(h:Kn W i (n+1) z):∃S I s wd,Kn W i n S/\W.isl[i]?=wc I/\I.stps[S.a]?=wc s/\z=S.go W.w s wd/\((∀f x,s≠.take f x)/\wd=.non\/∃f x g m j d T,s=.take f x/\Kn W g m j/\W.isl[g]?=wc d/\d.stps[j.a]?=wc (.give f T)/\j.c f=S.c f/\wd=.int (T.val (rhoK j.kv) W.w)):=by
 cases h with
 |own h l u c=>erw[⟨_,_,_,_,h,l,u,rfl,.inl ⟨c,rfl⟩⟩]
 |take h l u g q y r=>erw[⟨_,_,_,_,h,l,u,rfl,.inr ⟨_,_,_,_,_,_,_,rfl,g,q,y,r,rfl⟩⟩]
noncomputable def Uq(W:Wld)(i n:Nat):Prop:=∀S j,Kn W i n S->Kn W i n j->S=j
def Fx(G:W.Good){i j:Nat}{I J:Isl}(l:W.isl[i]?=wc I)(u:W.isl[j]?=wc J)(e:I.name=J.name):i=j:=
 (Ue (by rw[ins_len];erw[(Xm.mp l).1]) G.in_nd).mp ((Y5 l).trans ((Y5 u).trans (by rw[e])).symm)
def giv(G:W.Good){f:Str}{g m R d:Nat}{S q:Sk}{I r:Isl}{T p:Tm}(h:Kn W g m S)(z:W.isl[g]?=wc I)(e:I.stps[S.a]?=wc (.give f T))(L:Kn W R d q)(j:W.isl[R]?=wc r)(y:r.stps[q.a]?=wc (.give f p))(E:S.c f=q.c f)(u:∀n,n<=m->Uq W g n):S=q/\T=p:=by
 have U:=Xd z;have N:=Xd j;have Y:=Xd e;have⟨x,Z,rfl⟩:=XA.mp ((G.io I U).st _ Y).1;have A:=G.en I U _ Y x Z rfl;have B:=G.en r N _ (Xd y) x Z rfl;obtain rfl:=Fx G z j (A.symm.trans B);rw[z]at j;cases j;have C:Xs (wc (.give x.name T)) x.name=wf:=decide_eq_true rfl;have O:Xs (wc (.give x.name p)) x.name=wf:=decide_eq_true rfl;rcases Nat.lt_trichotomy m d with l|rfl|l
 .have⟨D,k,_,c⟩:=L.pre m (ZJ l);obtain rfl:=u m (X9 _) _ _ h k;have:=c l _ _ _ z e C;lia
 .obtain rfl:=u m (X9 _) _ _ h L;rw[e]at y;cases y;erw[⟨rfl,rfl⟩]
 .have⟨D,k,_,c⟩:=h.pre d (ZJ l);obtain rfl:=u d (ZJ l) _ _ L k;have:=c l _ _ _ z y O;lia
def Kn.uni(G:W.Good){i n:Nat}{S:Sk}(h:Kn W i n S):∀y,y<=n->Uq W i y:=by
 induction h with
 |init c=>
  intro y m A B a b;obtain rfl:=Nat.le_zero.mp m;have⟨L,u,rfl⟩:=a.inv0;have⟨D,j,rfl⟩:=b.inv0;rw[u]at j;cases j
  rfl
 |own h c q N d=>
  intro y m;rcases Nat.lt_or_eq_of_le m with l|rfl
  .erw[d y (WG l)]
  have one:∀A,Kn W _ (_+1) A->A=_:=λA a=>by
   have⟨O,L,R,T,k,u,j,rfl,z⟩:=a.inv;obtain rfl:=d _ (X9 _) _ _ h k;rw[c]at u;cases u;rw[q]at j;cases j;rcases z with⟨_,rfl⟩|⟨f,x,_,_,_,_,_,e,_⟩
   .erw[rfl]
   .erw[absurd e (N f x)]
  erw[λA B a b=>(one A a).trans (one B b).symm]
 |take h c q g U r Y d Z=>
  intro y m;rcases Nat.lt_or_eq_of_le m with l|rfl
  .erw[d y (WG l)]
  have one:∀A,Kn W _ (_+1) A->A=_:=λA a=>by
   have⟨O,L,R,T,k,u,j,rfl,z⟩:=a.inv;obtain rfl:=d _ (X9 _) _ _ h k;rw[c]at u;cases u;rw[q]at j;cases j;rcases z with⟨z,_⟩|⟨f,x,E,F,I,J,M,e,C,u,j,p,rfl⟩
   .erw[absurd rfl (z _ _)]
   .cases e;have⟨rfl,rfl⟩:=giv G g U r C u j (Y.trans p.symm) Z;erw[rfl]
  erw[λA B a b=>(one A a).trans (one B b).symm]
def Gv(W:Wld)(f:Str)(k v:Nat):Prop:=∃g m S I T,Kn W g m S/\W.isl[g]?=wc I/\I.stps[S.a]?=wc (.give f T)/\S.c f=k/\T.val (rhoK S.kv) W.w=(v:Int)
end
structure KnAt (W:Wld)(M:MH)(R:RunS):Prop where
 st:∀(i:Nat)I a n d,W.isl[i]?=wc I->R.ws[i]?=wc a->R.nums[i]?=wc n->R.dn[i]?=wc d->∃kv c,M a=wc (.dic kv)/\Kn W i d ⟨n,kv,c⟩/\∀(j:Nat)f x,W.fer[j]?=wc f->R.bs[j]?=wc x->(f.giver=I.name->c f.name=x.A.ws.length)/\(f.taker=I.name->c f.name=x.A.tn)
 gv:∀(j:Nat)f x (k:Nat)v,W.fer[j]?=wc f->R.bs[j]?=wc x->x.A.ws[k]?=wc v->Gv W f.name k v
def RunS.in_own{R:RunS}{r a:Addr}(h:a∈R.own r):a∈R.all r:=AO _ h
def KnAt.move{W:Wld}{M M':MH}{R:RunS}(h:KnAt W M R)(s:∀a∈R.ws,∀o,M a=wc o->M' a=wc o):KnAt W M' R:=
 ⟨λi I a n d l j u hd=>let⟨kv,c,e,k⟩:=h.st i I a n d l j u hd;⟨kv,c,s _ (Xd j) _ e,k⟩,h.gv⟩
def KnAt.first{W:Wld}{M:MH}{R:RunS}(q:R.nums=W.isl.map λ_=>0)(r:R.dn=W.isl.map λ_=>0)(hw:∀(i:Nat)I a,W.isl[i]?=wc I->R.ws[i]?=wc a->M a=wc (.dic (zipK I.vars ((I.prs.map (·.2)).map MV.int))))(m:∀(j:Nat)f y,W.fer[j]?=wc f->R.bs[j]?=wc y->y.A=ab0 f.k f.st):KnAt W M R:=by
 erw[⟨λi I a n d l p g hd=>?_,λj f x k v u z c=>?_⟩]
 .rw[q,Xe,l]at g;rw[r,Xe,l]at hd;cases g;cases hd;erw[⟨_,λ_=>0,hw i I a l p,.init l,λj f x u z=>by rw[m j f x u z];erw[⟨λ_=>rfl,λ_=>rfl⟩]⟩]
 .rw[m j f x u z]at c;cases c
noncomputable def tlen:MV->Nat
 |.tup xs=>xs.length
 |_=>0
def CK{w:Nat}{f:Fer}{z:Str}{o:Option Stp}{j:Str->Int}{A:Ab}(h:hitA w f z o j A=wf)(c:f.giver=z):∃T,o=wc (.give f.name T)/\A.gives (U8 w f o j)=wf/\U8 w f o j=wc (T.val j w).toNat:=by
 rw[hitA,if_pos c]at h;have l:(U8 w f o j).isSome=wf:=((XQ _ _).mp h).1;rcases o with _|s
 .cases l
 .cases s with
  |give g T=>
   by_cases e:g=f.name
   .subst e;erw[⟨T,rfl,h,if_pos rfl⟩]
   .rw[show U8 w f (wc (.give g T)) j=we from if_neg e]at l;cases l
  |take _ _=>cases l
  |put _ _=>cases l
  |jump _ _=>cases l
def V5{w:Nat}{f:Fer}{z:Str}{o:Option Stp}{j:Str->Int}{A:Ab}(h:hitA w f z o j A=wf):Xs o f.name=wf:=by
 by_cases c:f.giver=z
 .have⟨T,rfl,_⟩:=CK h c;erw[decide_eq_true rfl]
 .rw[hitA,if_neg c]at h;erw[((XQ _ _).mp h).1]
def _ix{A:Ab}(ok:A.Ok){b:Bool}(h:A.takes b=wf):A.tn<A.ws.length:=by
 have j:=_v (j:=A.tx) (by rw[ok.tl];erw[ok.gl.1])
 have l:=ok.tb _ j;have u:=ok.lt1;have y:XF A.tx≠A.tn:=of_decide_eq_true ((XQ _ _).mp h).2;lia
section
variable{w:Nat}{z:Str}{m:Int}{c:Nat}{o:Option Stp}{ρ:Str->Int}{k:Nat}{f:Fer}{A:Ab}
def Fy(h:¬((z=f.giver\/z=f.taker)/\hitA w f z o ρ A=wf)):(newA w z m c o ρ k f A).ws=A.ws/\(newA w z m c o ρ k f A).tn=A.tn:=by
 unfold newA;by_cases e:z=f.giver\/z=f.taker
 .rw[if_pos e];have h:¬hitA w f z o ρ A=wf:=λy=>h ⟨e,y⟩;unfold Zx;by_cases g:f.giver=z
  .rw[hitA,if_pos g]at h;rw[if_pos g];erw[⟨if_neg h,rfl⟩]
  .rw[hitA,if_neg g]at h;rw[if_neg g];erw[⟨rfl,if_neg h⟩]
 .rw[if_neg e];erw[⟨rfl,rfl⟩]
def _lK(g:f.giver=z)(h:hitA w f z o ρ A=wf):(newA w z m c o ρ k f A).ws=A.ws++[(U8 w f o ρ).getD 0]/\(newA w z m c o ρ k f A).tn=A.tn:=by
 unfold newA;rw[if_pos (.inl g.symm),Zx,if_pos g];rw[hitA,if_pos g]at h;erw[⟨if_pos h,rfl⟩]
def _lJ(g:¬f.giver=z)(t:z=f.taker)(h:hitA w f z o ρ A=wf):(newA w z m c o ρ k f A).ws=A.ws/\(newA w z m c o ρ k f A).tn=A.tn+1:=by
 unfold newA;rw[if_pos (.inr t),Zx,if_neg g];rw[hitA,if_neg g]at h;erw[⟨rfl,if_pos h⟩]
end
def QC{W:Wld}(G:W.Good){i j:Nat}{f g:Fer}(l:W.fer[i]?=wc f)(u:W.fer[j]?=wc g)(e:f.name=g.name):i=j:=
 (Ue (by rw[fns_len];erw[(Xm.mp l).1]) G.fn_nd).mp ((V1 l).trans ((V1 u).trans (by rw[e])).symm)
def ZmQ(W:Wld)(R:RunS)(bs:List Boat)(z:Str)(o:Option Stp):Prop:=∀(j:Nat)f l,W.fer[j]?=wc f->bs[j]?=wc l->∃x,R.bs[j]?=wc x/\(f.giver=z->l.A.ws.length=x.A.ws.length+if Xs o f.name=wf then 1 else 0)/\(f.taker=z->l.A.tn=x.A.tn+if Xs o f.name=wf then 1 else 0)/\(f.giver≠z->l.A.ws=x.A.ws)/\(f.taker≠z->l.A.tn=x.A.tn)/\∀(k:Nat)v,l.A.ws[k]?=wc v->x.A.ws[k]?=wc v\/Gv W f.name k v
section
variable{W:Wld}{M M':MH}{r:Addr}{R:RunS}{bs:List Boat}{i n n' d:Nat}{I:Isl}{p:Addr}{s:Stp}{wd:MV}{kvs:List (Key×MV)}{c:Str->Nat}
def KnAt.went(G:W.Good)(h:KnAt W M R)(D:∀(j:Nat)J b,W.isl[j]?=wc J->R.ws[j]?=wc b->∀u,M b=wc u->M' b=wc u)(Z:W.isl[i]?=wc I)(to:ZmQ W R bs I.name (wc s))(E:M' p=wc (.dic (YG s kvs (rhoK kvs) W.w wd)))(F:XV s (rhoK kvs) W.w n=((n':Nat):Int))(A:Kn W i (d+1) (Sk.go W.w ⟨n,kvs,c⟩ s wd))(hc:∀(j:Nat)f x,W.fer[j]?=wc f->R.bs[j]?=wc x->(f.giver=I.name->c f.name=x.A.ws.length)/\(f.taker=I.name->c f.name=x.A.tn)):KnAt W M' (goR {R with bs:=bs,m:=R.m+1} i n' p d):=by
 erw[⟨λj J a b e N g q L=>?_,λj f x k v y O Q=>?_⟩]
 .have g:(R.ws.set i p)[j]?=wc a:=g;have q:(R.nums.set i n')[j]?=wc b:=q;have L:(R.dn.set i (d+1))[j]?=wc e:=L;by_cases ij:j=i
  .subst ij;rw[Z]at N;cases N;have⟨_,rfl⟩:=(Y9 g).resolve_right λz=>z.1 rfl;have⟨_,rfl⟩:=(Y9 q).resolve_right λz=>z.1 rfl;have⟨_,rfl⟩:=(Y9 L).resolve_right λz=>z.1 rfl;have S:Sk.go W.w ⟨n,kvs,c⟩ s wd=⟨b,YG s kvs (rhoK kvs) W.w wd,λz=>if Xs (wc s) z=wf then c z+1 else c z⟩:=by
    unfold Sk.go;show(⟨(XV s (rhoK kvs) W.w n).toNat,_,_⟩:Sk)=_;rw[F];rfl
   rw[S]at A;erw[⟨_,_,E,A,λj f x y O=>?_⟩];have⟨T,l,X,H,_⟩:=to j f x y O;have⟨U,Y⟩:=hc j f T y l;erw[⟨λz=>?_,λz=>?_⟩]
   .rw[X z,<-U z];show(if _ then _ else _)=_;split<;>rfl
   .rw[H z,<-Y z];show(if _ then _ else _)=_;split<;>rfl
  .have⟨_,g⟩:=(Y9 g).resolve_left λz=>ij z.1;have⟨_,q⟩:=(Y9 q).resolve_left λz=>ij z.1;have⟨_,L⟩:=(Y9 L).resolve_left λz=>ij z.1;have⟨o,c',e1,e2,e3⟩:=h.st j J a b e N g q L;erw[⟨o,c',D j J a N g _ e1,e2,λB f x y O=>?_⟩];have⟨T,l,_,_,t3,t4,_⟩:=to B f x y O;have⟨U,Y⟩:=e3 B f T y l;have C:J.name≠I.name:=λz=>ij (Fx G N Z z);erw[⟨λz=>by rw[t3 (by rw[z];erw[C])];erw[U z],λz=>by rw[t4 (by rw[z];erw[C])];erw[Y z]⟩]
 .have⟨T,l,_,_,_,_,t5⟩:=to j f x y O;erw[(t5 k v Q).elim (h.gv j f T k v y l) id]
def KnAt.stay(h:KnAt W M R)(Y:∀(j:Nat)J b,W.isl[j]?=wc J->R.ws[j]?=wc b->∀u,M b=wc u->M' b=wc u)(to:∀(j:Nat)f z,W.fer[j]?=wc f->bs[j]?=wc z->∃x,R.bs[j]?=wc x/\z.A.ws=x.A.ws/\z.A.tn=x.A.tn):KnAt W M' {R with bs:=bs,m:=R.m+1}:=by
 erw[⟨λj J a b e N O Z A=>?_,λj f x k v y g T=>?_⟩]
 .have⟨B,C,D,E,F⟩:=h.st j J a b e N O Z A;erw[⟨B,C,Y j J a N O _ D,E,λU f x y g=>?_⟩];have⟨q,l,L,G⟩:=to U f x y g;rw[L,G];erw[F U f q y l]
 .have⟨q,l,L,_⟩:=to j f x y g;rw[L]at T;erw[h.gv j f q k v y l T]
end
noncomputable def CanR(W:Wld)(R:RunS):Stp->Prop
 |.take f _=>∃(j:Nat) (g:Fer) (b:Boat),W.fer[j]?=wc g/\R.bs[j]?=wc b/\g.name=f/\b.A.tn<b.A.ws.length
 |.give f _=>∃(j:Nat) (g:Fer) (b:Boat),W.fer[j]?=wc g/\R.bs[j]?=wc b/\g.name=f/\b.A.ws.length<b.A.tn+2^g.k
 |_=>True
def _js{A:Ab}(ok:A.Ok){o:Option Nat}(h:A.gives o=wf):A.ws.length<A.tn+2^A.k:=by
 have j:=(ok.gb _ (_v (j:=A.gx) ok.gl.1)).1;have l:=ok.lg1;have u:A.ws.length<XF A.gx+2^A.k:=of_decide_eq_true ((XQ _ _).mp h).2;lia
def KnAt.ring{W:Wld}{M M':MH}{r:Addr}{R R':RunS}{bs:List Boat}{i n m:Nat}{I:Isl}{a:Addr}{N:List (Key×MV)}{o:Option Stp}{v:MV}(G:W.Good)(hR:RunAt M W r R (λ_=>R.m))(h:KnAt W M R)(S:W.isl[i]?=wc I)(hn:R.nums[i]?=wc n)(ho:I.stps[n]?=o)(ha:R.ws[i]?=wc a)(hk:M a=wc (.dic N))(hbl:bs.length=W.fer.length)(k:Kept M M' r R R')(to:BsTo W R.bs bs I.name R.m m o (rhoK N) W.fer.length)(wt:WhatTo W R.bs I.name o (rhoK N) W.fer.length v)(go:GoTo W M M' r R R' bs i n N o v):KnAt W M' R'/\(R'.dn=R.dn/\(∀s,o=wc s->∃z,Xs o z=wf)/\(∀(j:Nat)f x,W.fer[j]?=wc f->R.bs[j]?=wc x->¬((I.name=f.giver\/I.name=f.taker)/\hitA W.w f I.name o (rhoK N) x.A=wf))\/∃s d,o=wc s/\R.dn[i]?=wc d/\R'.dn=R.dn.set i (d+1)/\CanR W R s):=by
 have im:=Xd S;have ms:∀(j:Nat)J b,W.isl[j]?=wc J->R.ws[j]?=wc b->∀u,M b=wc u->M' b=wc u:=λj J b hJ C u e=>k.fr _ _ e (hR.ws_off hJ C);have Z:∀(j:Nat)f B,W.fer[j]?=wc f->bs[j]?=wc B->∃x,R.bs[j]?=wc x/\B.A=newA W.w I.name R.m m o (rhoK N) j f x.A:=λj f B O D=>by
  have hj:=(Xm.mp O).1;obtain⟨x,q⟩:∃x,R.bs[j]?=wc x:=⟨_,X6 (by rw[hR.bl];erw[hj])⟩
  have⟨a',e1,e2⟩:=to j f _ hj O q;rw[D]at e1;cases e1;erw[⟨_,q,e2⟩]
 have U:(∀(j:Nat)f x,W.fer[j]?=wc f->R.bs[j]?=wc x->¬((I.name=f.giver\/I.name=f.taker)/\hitA W.w f I.name o (rhoK N) x.A=wf))->∀(j:Nat)f B,W.fer[j]?=wc f->bs[j]?=wc B->∃x,R.bs[j]?=wc x/\B.A.ws=x.A.ws/\B.A.tn=x.A.tn:=λnh j f B O D=>by
  have⟨x,q,e⟩:=Z j f B O D;rw[e];erw[⟨x,q,Fy (nh j f x O q)⟩]
 rcases go with⟨rfl,E,hs⟩|⟨s,wd,n',p,d,es,rfl,hd,hl,hp,_,hc⟩
 .suffices nh:∀(j:Nat)f x,W.fer[j]?=wc f->R.bs[j]?=wc x->¬((I.name=f.giver\/I.name=f.taker)/\hitA W.w f I.name o (rhoK N) x.A=wf)from⟨h.stay ms (U nh),.inl ⟨rfl,hs,nh⟩⟩
  intro j f x O D z;rcases wt with⟨_,nh⟩|⟨k,g,b,_,⟨_,_,_,L⟩,ev⟩
  .erw[nh j f x (Xm.mp O).1 ⟨O,D,z⟩]
  .rw[Yw,if_pos L]at ev;have X:=congrArg tlen (E.symm.trans ev);by_cases cg:g.giver=I.name
   .have⟨T,rfl,_⟩:=CK L cg;rw[if_pos cg]at X;cases X
   .rw[if_neg cg]at X;have hw:=V5 L;rcases o with _|s
    .cases hw
    .cases s with
     |take _ _=>cases X
     |give _ _=>cases X
     |put _ _=>cases hw
     |jump _ _=>cases hw
 .subst es;have⟨kv0,c,e1,K,F⟩:=h.st i I a n d S ha hn hd;obtain rfl:N=kv0:=by rw[hk]at e1;cases e1;rfl
  have hE:=G.en I im s (Xd ho);rcases hc with⟨nw,E,rfl⟩|⟨f0,T,rfl,E,rfl⟩|⟨f0,x0,u,rfl,E,rfl⟩
  .erw[⟨h.went G ms S (λj f B O D=>?_) hp hl (.own K S ho λf x e=>by subst e;erw[by have:=nw f;rw[show Xs (wc (Stp.take f x)) f=wf from decide_eq_true rfl]at this;cases this]) F,.inr ⟨s,d,rfl,hd,rfl,?_⟩⟩]
   rotate_left
   .cases s with
    |take f x=>erw[absurd (nw f) (by rw[show Xs (wc (Stp.take f x)) f=wf from decide_eq_true rfl];decide)]
    |give f x=>erw[absurd (nw f) (by rw[show Xs (wc (Stp.give f x)) f=wf from decide_eq_true rfl];decide)]
    |put _ _=>trivial
    |jump _ _=>trivial
   have⟨x,q,t1,t2⟩:=U (λj f x O D z=>absurd (V5 z.2) (by rw[nw f.name];decide)) j f B O D
   rw[t1,t2,if_neg (by rw[nw f.name];decide)]
   erw[⟨x,q,λ_=>rfl,λ_=>rfl,λ_=>rfl,λ_=>rfl,λ_ _=>.inl⟩]
  .rcases wt with⟨e,_⟩|⟨k,g,b,_,⟨Y,C,_,L⟩,ev⟩
   .have X:=congrArg tlen (E.symm.trans e);cases X
   .have gn:f0=g.name:=of_decide_eq_true (V5 L);subst gn;have Q:g.giver=I.name:=hE g (Xd Y) rfl;have gt:g.taker≠I.name:=λz=>(G.fo g (Xd Y)).ne (Q.trans z.symm);have tv:=T.val_in G.w1 λy hy=>by
     have⟨_,e5,wk⟩:=hR.wa i I a S ha;rw[hk]at e5;cases e5;erw[(wk.at (G.io I im).nd (((G.io I im).st _ (Xd ho)).2.2.2 y hy)).2]
    erw[⟨h.went G ms S (λj f B O D=>?_) hp hl (.own K S ho λf x e=>nomatch e) F,.inr ⟨_,d,rfl,hd,rfl,k,g,b,Y,C,rfl,?_⟩⟩]
    rotate_left
    .have⟨_,_,e,_⟩:=CK L Q;rw[<-(hR.ba k g b Y C).k];erw[_js (hR.ba k g b Y C).fy.ok e]
    by_cases jk:j=k
    .subst jk;rw[Y]at O;cases O;have⟨x,q,e⟩:=Z j g B Y D;rw[C]at q;cases q;have⟨H,n2⟩:=_lK (m:=R.m) (c:=m) (k:=j) Q L;have⟨T',eT,_,eN⟩:=CK L Q;cases eT;rw[eN]at H;rw[e,H,n2,if_pos (V5 L)];erw[⟨b,C,λ_=>by rw[Ya];rfl,λz=>absurd z gt,λz=>absurd Q z,λ_=>rfl,λk v E=>?_⟩]
     rcases Be k b.A.ws.length with l|l
     .rw[ZA l]at E;erw[.inl E]
     .rw[Zn l]at E;have hk0:k - b.A.ws.length=0:=by
       have:=(Xm.mp E).1;simp only[AM]at this;lia
      rw[hk0]at E;cases E;erw[.inr ⟨i,d,_,I,T,K,S,ho,((F j g b Y C).1 Q).trans (by lia),(UQ tv.1).symm⟩]
    .have nm:¬Xs (wc (Stp.give g.name T)) f.name=wf:=λz=>jk (QC G O Y (of_decide_eq_true z:g.name=f.name).symm);have⟨x,q,e⟩:=Z j f B O D;have⟨H,n2⟩:=Fy (w:=W.w) (z:=I.name) (m:=R.m) (c:=m) (o:=wc (.give g.name T)) (ρ:=rhoK N) (k:=j) (f:=f) (A:=x.A) λz=>nm (V5 z.2);rw[e,H,n2,if_neg nm];erw[⟨x,q,λ_=>rfl,λ_=>rfl,λ_=>rfl,λ_=>rfl,λ_ _=>.inl⟩]
  .rcases wt with⟨e,_⟩|⟨k,g,b,_,⟨Y,C,gend,L⟩,ev⟩
   .have X:=congrArg tlen (E.symm.trans e);cases X
   .have gn:f0=g.name:=of_decide_eq_true (V5 L);subst gn;have Q:g.taker=I.name:=hE g (Xd Y) rfl;have gt:¬g.giver=I.name:=λz=>(G.fo g (Xd Y)).ne (z.trans Q.symm);have hlt:b.A.tn<b.A.ws.length:=by
     rw[hitA,if_neg gt]at L;erw[_ix (hR.ba k g b Y C).fy.ok L]
    rw[Yw,if_pos L,if_neg gt]at ev;have eu:u=((b.A.ws[b.A.tn]:Nat):Int):=by
     have:=E.symm.trans ev;injection this with this;injection this with _ this;injection this with _ this;injection this with this _;injection this with this;rw[this,Y1,X6 hlt];rfl
    have⟨g',m',S',I',T',k1,k2,k3,k4,k5⟩:=h.gv k g b b.A.tn _ Y C (X6 hlt);have K2:=Kn.take K S ho k1 k2 k3 (k4.trans ((F k g b Y C).2 Q).symm);rw[k5,<-eu]at K2;erw[⟨h.went G ms S (λj f B O D=>?_) hp hl K2 F,.inr ⟨_,d,rfl,hd,rfl,k,g,b,Y,C,rfl,hlt⟩⟩];by_cases jk:j=k
    .subst jk;rw[Y]at O;cases O;have⟨x,q,e⟩:=Z j g B Y D;rw[C]at q;cases q;have⟨H,n2⟩:=_lJ (m:=R.m) (c:=m) (k:=j) gt Q.symm L;rw[e,H,n2,if_pos (V5 L)];erw[⟨b,C,λz=>absurd z gt,λ_=>rfl,λ_=>rfl,λz=>absurd Q z,λ_ _=>.inl⟩]
    .have nm:¬Xs (wc (Stp.take g.name x0)) f.name=wf:=λz=>jk (QC G O Y (of_decide_eq_true z:g.name=f.name).symm);have⟨x,q,e⟩:=Z j f B O D;have⟨H,n2⟩:=Fy (w:=W.w) (z:=I.name) (m:=R.m) (c:=m) (o:=wc (.take g.name x0)) (ρ:=rhoK N) (k:=j) (f:=f) (A:=x.A) λz=>nm (V5 z.2);rw[e,H,n2,if_neg nm];erw[⟨x,q,λ_=>rfl,λ_=>rfl,λ_=>rfl,λ_=>rfl,λ_ _=>.inl⟩]
def _y{W:Wld}(G:W.Good){j:Nat}{F:Fer}(u:W.fer[j]?=wc F):W.fat F.name=j:=by
 have l:W.fns[j]?=wc F.name:=by unfold Wld.fns;rw[Xe,u];rfl
 have:=(YX (Xd l)).1;erw[(Ue (by have:=(YX (Xd l)).2;unfold Wld.fns;rw[X5];erw[this]) G.fn_nd).mp (this.trans l.symm)]
def Wr{j:Type}{l:List j}{i k:Nat}{v d:j}:(l.set i v).getD k d=if k=i/\i<l.length then v else l.getD k d:=by
 rw[Y1,Y1,Vc];by_cases h:i=k
 .subst h;by_cases l':i<l.length
  .rw[if_pos rfl,if_pos l',if_pos ⟨rfl,l'⟩];rfl
  .rw[if_pos rfl,if_neg l',if_neg (λz=>l' z.2),ZC (by lia)]
 .rw[if_neg h,if_neg (λz=>h z.1.symm)]
def XX(W:Wld)(S:Std)(k:Nat):Option Stp:=match W.isl[k]? with
 |wc I=>YY W S k I
 |we=>we
def Fz(W:Wld)(S:Std)(i:Nat):(Xy W S (i+1)).1=match XX W S i with|wc s=>Zw W S i s (Xy W S i).1|we=>(Xy W S i).1:=by
 show(YZ W S i (Xy W S i)).1=_;unfold YZ XX;cases W.isl[i]? with
 |none=>rfl
 |some I=>
  dsimp only;cases YY W S i I with
  |none=>rfl
  |some s=>rfl
theorem FA{W:Wld}{S:Std}{l:Type}{d:l}(j:Std->List l)(v:Nat->Stp->l)(h:∀i s B,j (Zw W S i s B)=(j B).set i (v i s))(y:∀i,(j (Xy W S i).1).length=W.isl.length)(k:Nat):∀i:Nat,i<=W.isl.length->(j (Xy W S i).1).getD k d=if k<i then(match XX W S k with|wc s=>v k s|we=>(j S).getD k d)else(j S).getD k d
 |0,_=>by rw[if_neg (by lia)];rfl
 |i+1,hi=>by
  have u:=FA (d:=d) j v h y k i (by lia)
  rw[Fz];by_cases e:k=i
  .subst e;rw[if_pos (ZX k)];rw[if_neg (Ze k)]at u;cases XX W S k with
   |none=>erw[u]
   |some s=>dsimp only;rw[h,Wr,if_pos ⟨rfl,by rw[y];lia⟩]
  .have m:(k<i+1)↔k<i:=by lia
   simp only[m];rw[<-u];cases XX W S i with
   |none=>rfl
   |some s=>dsimp only;rw[h,Wr,if_neg (λz=>e z.1)]
def VA{W:Wld}{S:Std}{i:Nat}{s:Stp}(h:XX W S i=wc s):∃I,W.isl[i]?=wc I/\I.stps[S.num.getD i 0]?=wc s/\canM W S s=wf:=by
 unfold XX at h;cases j:W.isl[i]? with
 |none=>rw[j]at h;cases h
 |some I=>
  rw[j]at h;have⟨a,b⟩:=Cw h;erw[⟨I,rfl,a,b⟩]
def CL{W:Wld}{f j:Str}(h:f∈W.fns)(l:j∈W.fns)(e:W.fat f=W.fat j):f=j:=by
 have a:=(YX h).1;rw[e,(YX l).1]at a;erw[(Y4 a).symm]
def Ws(W:Wld)(S:Std)(j:Nat)(f:Str):List Int:=match XX W S j with
 |wc (.give f' T)=>if f'=f then [T.val (rhoK (S.wd.getD j [])) W.w]else []
 |_=>[]
def AB(W:Wld)(S:Std)(j:Nat)(f:Str):Nat:=match XX W S j with
 |wc (.take f' _)=>if f'=f then 1 else 0
 |_=>0
theorem QD{W:Wld}(G:W.Good){c:Nat}{S:Std}(L:SOk W c S){j:Nat}{F:Fer}(m:W.fer[j]?=wc F){l:Nat} (r:W.ins[l]?=wc F.giver):∀i:Nat,i<=W.isl.length->(Xy W S i).1.giv.getD j []=if l<i then S.giv.getD j []++Ws W S l F.name else S.giv.getD j []
 |0,_=>by rw[if_neg (by lia)];rfl
 |i+1,hi=>by
  have y:=QD G L m r i (by lia)
  have O:=(V0 G L i).1.gl;have R:=(Xm.mp m).1;have N:F.name∈W.fns:=XA.mpr ⟨F,Xd m,rfl⟩;rw[Fz];by_cases e:l=i
  .subst e;rw[if_pos (ZX l)];rw[if_neg (Ze l)]at y;unfold Ws;cases hd:XX W S l with
   |none=>dsimp only;rw[y,Z3]
   |some s=>
    cases s with
    |give u T=>
     have⟨I,g,q,_⟩:=VA hd;have p:u∈W.fns:=(UD G g q).1;dsimp only;show((Xy W S l).1.giv.set (W.fat u) _).getD j []=_;rw[Wr];by_cases d:u=F.name
     .subst d;rw[_y G m,if_pos ⟨rfl,by rw[O];erw[R]⟩,if_pos rfl,y]
     .rw[if_neg (λz=>d (CL p N (by rw[_y G m];erw[z.1.symm]))),if_neg d,y,Z3]
    |take u x=>dsimp only;rw[Z3];erw[y]
    |put x T=>dsimp only;rw[Z3];erw[y]
    |jump T k=>dsimp only;rw[Z3];erw[y]
  .have U:(l<i+1)↔l<i:=by lia
   have:(match XX W S i with|wc s=>Zw W S i s (Xy W S i).1|we=>(Xy W S i).1).giv.getD j []=(Xy W S i).1.giv.getD j []:=by
    cases hd:XX W S i with
    |none=>rfl
    |some s=>
     cases s with
     |give u T=>
      have⟨I,g,q,_⟩:=VA hd;have p:u∈W.fns:=(UD G g q).1;dsimp only;show((Xy W S i).1.giv.set (W.fat u) _).getD j []=_;rw[Wr,if_neg λz=>?_];have d:u=F.name:=CL p N (by rw[_y G m];erw[z.1.symm])
      have Y:F.giver=I.name:=G.en I (Xd g) _ (Xd q) F (Xd m) d.symm;have f:=Y5 g;rw[<-Y]at f;erw[e ((Ue (Xm.mp r).1 G.in_nd).mp (r.trans f.symm))]
     |take u x=>rfl
     |put x T=>rfl
     |jump T k=>rfl
   rw[this,y];simp only[U]
theorem QE{W:Wld}(G:W.Good){c:Nat}{S:Std}(L:SOk W c S){j:Nat}{F:Fer}(y:W.fer[j]?=wc F){l:Nat} (r:W.ins[l]?=wc F.taker):∀i:Nat,i<=W.isl.length->(Xy W S i).1.tak.getD j 0=if l<i then S.tak.getD j 0+AB W S l F.name else S.tak.getD j 0
 |0,_=>by rw[if_neg (by lia)];rfl
 |i+1,hi=>by
  have m:=QE G L y r i (by lia)
  have O:=(V0 G L i).1.tl;have R:=(Xm.mp y).1;have N:F.name∈W.fns:=XA.mpr ⟨F,Xd y,rfl⟩;rw[Fz];by_cases e:l=i
  .subst e;rw[if_pos (ZX l)];rw[if_neg (Ze l)]at m;unfold AB;cases hd:XX W S l with
   |none=>erw[m]
   |some s=>
    cases s with
    |take u x=>
     have⟨I,g,q,_⟩:=VA hd;have p:u∈W.fns:=(UD G g q).1;dsimp only;show((Xy W S l).1.tak.set (W.fat u) _).getD j 0=_;rw[Wr];by_cases d:u=F.name
     .subst d;rw[_y G y,if_pos ⟨rfl,by rw[O];erw[R]⟩,if_pos rfl]
     .rw[if_neg (λz=>d (CL p N (by rw[_y G y];erw[z.1.symm]))),if_neg d,m];rfl
    |give u T=>erw[m]
    |put x T=>erw[m]
    |jump T k=>erw[m]
  .have U:(l<i+1)↔l<i:=by lia
   have:(match XX W S i with|wc s=>Zw W S i s (Xy W S i).1|we=>(Xy W S i).1).tak.getD j 0=(Xy W S i).1.tak.getD j 0:=by
    cases hd:XX W S i with
    |none=>rfl
    |some s=>
     cases s with
     |take u x=>
      have⟨I,g,q,_⟩:=VA hd;have p:u∈W.fns:=(UD G g q).1;dsimp only;show((Xy W S i).1.tak.set (W.fat u) _).getD j 0=_;rw[Wr,if_neg λz=>?_];have d:u=F.name:=CL p N (by rw[_y G y];erw[z.1.symm])
      have Y:F.taker=I.name:=G.en I (Xd g) _ (Xd q) F (Xd y) d.symm;have f:=Y5 g;rw[<-Y]at f;erw[e ((Ue (Xm.mp r).1 G.in_nd).mp (r.trans f.symm))]
     |give u T=>rfl
     |put x T=>rfl
     |jump T k=>rfl
   rw[this,m];simp only[U]
def FB{W:Wld}{z:Str}(h:z∈W.ins):∃(i:Nat) (I:Isl),W.isl[i]?=wc I/\I.name=z:=by
 have⟨I,j,rfl⟩:=XA.mp h;have⟨i,l⟩:=UJ j;erw[⟨i,I,l,rfl⟩]
def dnM(W:Wld):Nat->Nat->Nat
 |0,_=>0
 |k+1,i=>dnM W k i+if(XX W (Xo W k) i).isSome=wf then 1 else 0
def GvI(W:Wld)(f:Str)(k:Nat)(v:Int):Prop:=∃g m S I T,Kn W g m S/\W.isl[g]?=wc I/\I.stps[S.a]?=wc (.give f T)/\S.c f=k/\T.val (rhoK S.kv) W.w=v
structure PlAt (W:Wld)(k:Nat):Prop where
 st:∀(i:Nat)I,W.isl[i]?=wc I->∃c,Kn W i (dnM W k i) ⟨(Xo W k).num.getD i 0,(Xo W k).wd.getD i [],c⟩/\∀(j:Nat)f,W.fer[j]?=wc f->(f.giver=I.name->c f.name=((Xo W k).giv.getD j []).length)/\(f.taker=I.name->c f.name=(Xo W k).tak.getD j 0)
 gv:∀(j:Nat)f (m:Nat)v,W.fer[j]?=wc f->((Xo W k).giv.getD j [])[m]?=wc v->GvI W f.name m v
def PlAt.zero{W:Wld}:PlAt W 0:=by
 have y:∀(j:Nat)f,W.fer[j]?=wc f->(Xo W 0).giv.getD j []=[]:=λj f l=>_8 (by show(W.fer.map _)[j]?=_;rw[Xe,l];rfl)
 erw[⟨λi I u=>?_,λj f m v l h=>by rw[y j f l]at h;cases h⟩]
 have z:(Xo W 0).num.getD i 0=0:=_8 (by show(W.isl.map _)[i]?=_;rw[Xe,u];rfl)
 have g:(Xo W 0).wd.getD i []=wd0 I:=_8 (by show(W.isl.map _)[i]?=_;rw[Xe,u];rfl)
 rw[z,g];erw[⟨λ_=>0,.init u,λj f l=>⟨λ_=>by rw[y j f l];rfl,λ_=>(_8 (by show(W.fer.map _)[j]?=_;rw[Xe,l];rfl)).symm⟩⟩]
def PlAt.next{W:Wld}(G:W.Good){k:Nat}(h:PlAt W k):PlAt W (k+1):=by
 have C:=Aw G k;have le:=X9 W.isl.length;have giv:∀(j:Nat)f (p:Nat),W.fer[j]?=wc f->W.ins[p]?=wc f.giver->(Xo W (k+1)).giv.getD j []=(Xo W k).giv.getD j []++Ws W (Xo W k) p f.name:=λj f p u N=>(QD G C u N _ le).trans (if_pos (by rw[<-ins_len];erw[(Xm.mp N).1]))
 have U:∀(j:Nat)f (p:Nat),W.fer[j]?=wc f->W.ins[p]?=wc f.taker->(Xo W (k+1)).tak.getD j 0=(Xo W k).tak.getD j 0+AB W (Xo W k) p f.name:=λj f p u N=>(QE G C u N _ le).trans (if_pos (by rw[<-ins_len];erw[(Xm.mp N).1]))
 erw[⟨λi I r=>?_,λj f m v u q=>?_⟩]
 .have Q:=(Xm.mp r).1;have L:=Y5 r;have⟨c,K,R⟩:=h.st i I r;have D:(Xo W (k+1)).num.getD i 0=_:=(FA (·.num) (λi s=>(XV s (rhoK ((Xo W k).wd.getD i [])) W.w ((Xo W k).num.getD i 0)).toNat) (λ_ _ _=>rfl) (λi=>(V0 G C i).1.nl) i _ le).trans (if_pos Q);have E:(Xo W (k+1)).wd.getD i []=_:=(FA (·.wd) (λi s=>YG s ((Xo W k).wd.getD i []) (rhoK ((Xo W k).wd.getD i [])) W.w (Z7 W (Xo W k) s)) (λ_ _ _=>rfl) (λi=>(V0 G C i).1.wl) i _ le).trans (if_pos Q);have F:dnM W (k+1) i=dnM W k i+if(XX W (Xo W k) i).isSome=wf then 1 else 0:=rfl;cases hd:XX W (Xo W k) i with
  |none=>
   rw[hd]at D E F;rw[F,D,E];erw[⟨c,K,λj f u=>⟨λz=>?_,λz=>?_⟩⟩]
   .rw[giv j f i u (by rw[z];erw[L]),Ws,hd,Z3]
    erw[(R j f u).1 z]
   .rw[U j f i u (by rw[z];erw[L]),AB,hd]
    erw[(R j f u).2 z]
  |some s=>
   rw[hd]at D E F;have⟨I',Y,O,Z⟩:=VA hd;rw[r]at Y;cases Y;have M:=G.en I (Xd r) s (Xd O);have S:Kn W i (dnM W k i+1) (Sk.go W.w ⟨(Xo W k).num.getD i 0,(Xo W k).wd.getD i [],c⟩ s (Z7 W (Xo W k) s)):=by
    cases s with
    |take f x=>
     have⟨g,N,rfl⟩:=XA.mp (UD G r O).1;have⟨j,J⟩:=UJ N;have lt:=of_decide_eq_true Z;rw[_y G J]at lt;have⟨g',m,S2,I2,T,X,H,o,n,b⟩:=h.gv j g _ _ J (X6 lt);have a:=Kn.take K r O X H o (n.trans ((R j g J).2 (M g N rfl)).symm);have e:Z7 W (Xo W k) (.take g.name x)=.int (((Xo W k).giv.getD j [])[(Xo W k).tak.getD j 0]'lt):=by
      unfold Z7;dsimp only;rw[_y G J,_8 (X6 lt)]
     rw[e,<-b];erw[a]
    |give f T=>erw[.own K r O λ_ _ e=>nomatch e]
    |put f T=>erw[.own K r O λ_ _ e=>nomatch e]
    |jump f T=>erw[.own K r O λ_ _ e=>nomatch e]
   rw[F,D,E];erw[⟨λz=>if Xs (wc s) z=wf then c z+1 else c z,S,λj f u=>⟨λz=>?_,λz=>?_⟩⟩]
   .have A:=Xd u;rw[giv j f i u (by rw[z];erw[L]),Ya,<-(R j f u).1 z,Ws,hd]
    cases s with
    |give d T=>
     dsimp only;by_cases e:d=f.name
     .rw[if_pos (show Xs (wc (.give d T)) f.name=wf from decide_eq_true e),if_pos e];rfl
     .rw[if_neg (show¬Xs (wc (.give d T)) f.name=wf from λy=>e (of_decide_eq_true y)),if_neg e];rfl
    |take d T=>erw[if_neg λy=>(G.fo f A).ne (z.trans (M f A (of_decide_eq_true y:d=f.name).symm).symm)]
    |put d T=>rfl
    |jump d T=>rfl
   .have A:=Xd u;rw[U j f i u (by rw[z];erw[L]),<-(R j f u).2 z,AB,hd]
    cases s with
    |take d T=>
     dsimp only;by_cases e:d=f.name
     .rw[if_pos (show Xs (wc (.take d T)) f.name=wf from decide_eq_true e),if_pos e]
     .rw[if_neg (show¬Xs (wc (.take d T)) f.name=wf from λy=>e (of_decide_eq_true y)),if_neg e];rfl
    |give d T=>erw[if_neg λy=>(G.fo f A).ne ((M f A (of_decide_eq_true y:d=f.name).symm).trans z.symm)]
    |put d T=>rfl
    |jump d T=>rfl
 .have⟨p,B⟩:=UJ (G.fo f (Xd u)).g;rw[giv j f p u B]at q;rcases Be m ((Xo W k).giv.getD j []).length with l|l
  .rw[ZA l]at q;erw[h.gv j f m v u q]
  .rw[Zn l,Ws]at q;cases hd:XX W (Xo W k) p with
   |none=>rw[hd]at q;cases q
   |some s=>
    rw[hd]at q;cases s with
    |give d T=>
     dsimp only at q;by_cases e:d=f.name
     .subst e;rw[if_pos rfl]at q;have⟨I,r,O,_⟩:=VA hd;have⟨c,K,R⟩:=h.st p I r;have gn:f.giver=I.name:=Y4 (B.symm.trans (Y5 r));have l1:=(Xm.mp q).1;rw[AM]at l1;have e0:m - ((Xo W k).giv.getD j []).length=0:=by lia
      rw[e0]at q;erw[⟨p,_,_,I,T,K,r,O,((R j f u).1 gn).trans (by lia),Y4 q⟩]
     .rw[if_neg e]at q;cases q
    |take d T=>cases q
    |put d T=>cases q
    |jump d T=>cases q
theorem plAt{W:Wld}(G:W.Good):∀k:Nat,PlAt W k
 |0=>.zero
 |k+1=>(plAt G k).next G
def RunLe(W:Wld)(k:Nat)(R:RunS):Prop:=∀(i:Nat)I d,W.isl[i]?=wc I->R.dn[i]?=wc d->d<=dnM W k i
section
variable{W:Wld}{M:MH}{r:Addr}{R R':RunS}{mm:Nat->Int}{k i n d:Nat}{I:Isl}{a:Addr}{kv:List (Key×MV)}
theorem RunAt.isl(h:RunAt M W r R mm)(u:W.isl[i]?=wc I):∃n a j d,R.nums[i]?=wc n/\R.ws[i]?=wc a/\M a=wc (.dic j)/\WdOk W.w I j/\R.dn[i]?=wc d:=by
 have l:=(Xm.mp u).1;obtain⟨a,y⟩:∃a,R.ws[i]?=wc a:=⟨_,X6 (by rw[h.wl];erw[l])⟩
 have⟨j,e,o⟩:=h.wa i I _ u y;erw[ex4 _ _ j _ ⟨X6 (by rw[h.nl];erw[l]),y,e,o,X6 (by rw[h.sl];erw[l])⟩]
def RunLe.ahead(G:W.Good)(e:RunAt M W r R mm)(h:KnAt W M R)(L:RunLe W k R){q:Nat}{g:Fer}{b:Boat}(y:W.fer[q]?=wc g)(N:R.bs[q]?=wc b){z:Str} (O:z∈W.ins):(g.giver=z->b.A.ws.length<=((Xo W k).giv.getD q []).length)/\(g.taker=z->b.A.tn<=(Xo W k).tak.getD q 0):=by
 have⟨_,J,j,rfl⟩:=FB O;have⟨n,a,T,d,U,Y,_,_,hd⟩:=e.isl j;have⟨kv,c,_,K,Z⟩:=h.st _ J a n d j Y U hd;have⟨A,B,u⟩:=(plAt G k).st _ J j;have l:=L _ J d j hd;have⟨E,C,D,_⟩:=B.pre d l;obtain rfl:=K.uni G d (X9 _) _ _ K C;have m:=Z q g b y N;have f:=u q g y;have p:c g.name<=A g.name:=D _;erw[⟨λz=>by rw[<-m.1 z,<-f.1 z];erw[p],λz=>by rw[<-m.2 z,<-f.2 z];erw[p]⟩]
def RunLe.ring(G:W.Good)(A:RunAt M W r R mm)(h:KnAt W M R)(L:RunLe W k R)(y:W.isl[i]?=wc I)(B:R.nums[i]?=wc n)(to:R'.dn=R.dn\/∃s d,I.stps[n]?=wc s/\R.dn[i]?=wc d/\R'.dn=R.dn.set i (d+1)/\CanR W R s):RunLe W (k+1) R':=by
 intro j J e Z m;have up:dnM W (k+1) j=dnM W k j+if(XX W (Xo W k) j).isSome=wf then 1 else 0:=rfl;have up1:dnM W k j<=dnM W (k+1) j:=by rw[up];erw[Uh ..]
 rcases to with z|⟨s,d,C,hd,z,p⟩
 .rw[z]at m;erw[Xv (L j J e Z m) up1]
 rw[z]at m;rcases Y9 m with⟨rfl,rfl⟩|⟨_,m⟩
 rotate_left
 .erw[Xv (L j J e Z m) up1]
 rw[y]at Z;cases Z;have l0:=L j I d y hd;by_cases l:d+1<=dnM W k j
 .erw[Xv l up1]
 have⟨c,K,D⟩:=(plAt G k).st j I y;have E:dnM W k j=d:=by lia
 rw[E]at K;have⟨n0,a,_,_,N,Q,_⟩:=A.isl y;rw[B]at N;cases N;have⟨kv,c',_,S,O⟩:=h.st j I a n d y Q B hd;have e:=K.uni G d (X9 _) _ _ K S;injection e with e1 e2 e3;subst e3;have F:=G.en I (Xd y) s (Xd C);have dm:XX W (Xo W k) j=wc s:=by
  unfold XX YY;rw[y];dsimp only;rw[e1,C];erw[if_pos ?_];cases s with
  |take f x=>
   have⟨q,g,b,u,U,rfl,lt⟩:=p;have Y:=Xd u;have t:=F g Y rfl;have X:=((D q g u).2 t).symm.trans ((O q g b u U).2 t);have H:=(L.ahead G A h u U (G.fo g Y).g).1 rfl;erw[decide_eq_true ?_];rw[_y G u];lia
  |give f T=>
   have⟨q,g,b,u,U,rfl,lt⟩:=p;have Y:=Xd u;have t:=F g Y rfl;have X:=((D q g u).1 t).symm.trans ((O q g b u U).1 t);have H:=(L.ahead G A h u U (G.fo g Y).t).2 rfl;have v:((2:Int)^g.k)=((2^g.k:Nat):Int):=by rw[Vk];rfl
   have o:(W.fer.map (·.k)).getD q 0=g.k:=_8 (by rw[Xe,u];rfl)
   erw[decide_eq_true ?_];rw[_y G u,o,v];lia
  |put _ _=>rfl
  |jump _ _=>rfl
 rw[up,if_pos (by rw[dm];rfl),E]
 erw[X9 _]
end
noncomputable def OffR(j M:MH)(r:Addr)(l R:RunS):Prop:=∀a o,j a=wc o->a∉l.own r->M a=wc o/\a∉R.own r
def OffR.kept{j M M':MH}{r:Addr}{l R u:RunS}(h:OffR j M r l R)(k:Kept M M' r R u):OffR j M' r l u:=λa o e n=>by
 have⟨y,m⟩:=h a o e n;erw[⟨k.fr a o y m,λz=>?_⟩];rcases k.nw a z with z|z
 .erw[m z]
 .rw[y]at z;cases z
def OffR.keep{j M M':MH}{r:Addr}{l R:RunS}(h:OffR j M r l R)(s:SameM M M'):OffR j M' r l R:=λa o e n=>⟨s _ _ (h a o e n).1,(h a o e n).2⟩
theorem GoTo.bs{W:Wld}{M M':MH}{l:RunS}{r:Addr}{R:RunS}{bs:List Boat}{i n:Nat}{j:List (Key×MV)}{o:Option Stp}{v:MV}(h:GoTo W M M' r R l bs i n j o v):l.bs=bs:=by
 rcases h with⟨rfl,_⟩|⟨_,_,_,_,_,_,rfl,_⟩<;>rfl
def RunAt.ab0_len{M:MH}{W:Wld}{r:Addr}{R:RunS}{u:Nat->Int}(h:RunAt M W r R u)(z:∀(j:Nat)f y,W.fer[j]?=wc f->R.bs[j]?=wc y->y.A=ab0 f.k f.st):∀y∈R.bs,y.A.ws.length<=0:=λy m=>by
 have⟨j,l,rfl⟩:=Yn m;rw[z j _ _ (X6 (by rw[<-h.bl];erw[l])) (X6 l)]
 erw[X9 _]
noncomputable def YH(j:List Str)(p:Nat×List Str)(z:Str):Nat×List Str:=if z∈p.2 then(if(p.2.erase z).length=0 then(p.1+1,j)else(p.1,p.2.erase z))else p
def strM(j l:List Str):Nat×List Str:=l.foldl (YH j) (0,j)
theorem CM(j:List Str):∀(l:List Str)(p:Nat×List Str),(l.foldl (YH j) p).1<=p.1+l.length
 |[],p=>X9 _
 |z::l,p=>by
  have:=CM j l (YH j p z);have h:(YH j p z).1<=p.1+1:=by
   unfold YH;split
   .split
    .erw[X9 _]
    .erw[YC _]
   .erw[YC _]
  rw[Ve,Yj];lia
theorem QF{j:List Str}:∀(l:List Str){p:Nat×List Str},p.2.length<=j.length->(l.foldl (YH j) p).2.length<=j.length
 |[],p,h=>h
 |z::l,p,h=>by
  erw[QF l ?_];unfold YH;split
  .split
   .erw[X9 _]
   .erw[Xv (List.length_erase_le ..) h]
  .erw[h]
abbrev QG:SpM:=λu M Q=>∃(W:Wld) (a:Addr) (j:List Str),u=[W.mv,.ref a]/\W.Good/\M a=wc (.lst (j.map MV.str))/\j.length<=100/\∀l,SameM M l->Q (.int ((strM W.ins j).1:Nat)) l
def _8y:MonW QG:=by walk_at "m"
def _cv(T:Txt K mg t):FO P w K mg base 1 "stretches" QG:=by
 erw[T.bI.ok T.g _8y 2 ["world","names","every","ended","missing","name"] (fC T f0) LI (fun D M Q h=>?_) (fun D M Q h=>?_)]
 .have⟨_,_,_,rfl,_⟩:=h;rfl
 have⟨W,a,l,rfl,G,B,x,q⟩:=h;show wSs _ _ _ [wc W.mv,wc (.ref a),we,we,we,we] M;have b:=G.i5;have li:W.ins.length=W.isl.length:=by unfold Wld.ins;rw[X5]
 have Y:=(_6 (u:=[]) nl0);delta LI;rw[Wld.mv];simp!;erw[_O W.isl Isl.mv (λI=>.str I.name) ?_ ?_ Y λe E=>?_]
 .simp!;erw[⟨rfl,by lia,trivial⟩]
 .intro I hI y s;simp only[sCm,Xt,Yb,YK,Yr,Yz,Yk]
  simp![Isl.mv]
 have O:=SameM.new E (.lst (W.isl.map λI=>.str I.name));have F:W.isl.map (λI=>MV.str I.name)=W.ins.map MV.str:=by unfold Wld.ins;rw[XZ];rfl
 rw[F]at O ⊢;have f:updM M e (.lst (W.ins.map MV.str)) e=wc (.lst (W.ins.map MV.str)):=Xb;generalize updM M e _=M0 at*;delta LH;simp!;delta LG
 simp![f]
 intro m g;have C:=SameM.new g (.lst (W.ins.map MV.str));have Z:updM M0 m (.lst (W.ins.map MV.str)) m=wc (.lst (W.ins.map MV.str)):=Xb;generalize updM M0 m _=M1 at*;delta LF;have A:=C _ _ (O _ _ B)
 simp![A]
 obtain⟨J,d⟩:∃J:Nat->Sm->MH->Prop,∀j r y,J j r y↔∃m R,SameM M0 y/\M0 m=we/\y m=wc (.lst ((strM W.ins (l.take j)).2.map MV.str))/\r=[wc W.mv,wc (.ref a),wc (.ref e),wc (.int ((strM W.ins (l.take j)).1:Nat)),wc (.ref m),R]:=⟨_,λ_ _ _=>Yd⟩;erw[⟨J,(d 0 _ _).mpr ⟨m,_,C,g,Z,rfl⟩,λj r y h=>?_,?_,?_⟩]
 .have⟨m,R,s,_⟩:=(d _ _ _).mp h;erw[s _ _ (O _ _ B)]
 .rintro j u r y S h;have⟨m,R,s,g,hd,rfl⟩:=(d _ _ _).mp h;have⟨X,rfl⟩:=YO (show(l.map MV.str)[j]?=wc u from S);have c:strM W.ins (l.take (j+1))=YH W.ins (strM W.ins (l.take j)) l[j]:=by
   unfold strM;rw[Zp,X6 X,AS];rfl
  have H:(strM W.ins (l.take j)).2.length<=W.ins.length:=QF _ (X9 _);have v:(strM W.ins (l.take j)).1<=100:=by
   have:=CM W.ins (l.take j) (0,W.ins);rw[Yf]at this;unfold strM;lia
  generalize strM W.ins (l.take j)=p at*;generalize l[j]=z at*;delta LD;simp!;erw[.inl ⟨_,hd,rfl,EK _,?_⟩];rw[Cg];by_cases hz:z∈p.2
  .rw[decide_eq_true hz];simp!;delta LC
   simp![hd]
   erw[⟨⟨_,rfl⟩,_,rfl,hz,?_⟩];have L:updM y m (.lst ((p.2.erase z).map MV.str)) m=wc (.lst ((p.2.erase z).map MV.str)):=Xb;have U:=s.upd g (.lst ((p.2.erase z).map MV.str));generalize updM y m _=M2 at*;delta LB
   simp![L]
   by_cases hl:(p.2.erase z).length=0
   .rw[if_pos (by rw[X5];lia)]
    delta LA;simp!;delta Lz
    simp![U _ _ f]
    intro o N;have i:=SameM.new N (.lst (W.ins.map MV.str));erw[(d _ _ _).mpr ⟨o,wc (.str z),U.trans i,U.free N,?_,?_⟩]
    .rw[c,YH,if_pos hz,if_pos hl];erw[Xb]
    .rw[c,YH,if_pos hz,if_pos hl];rfl
   .rw[if_neg (by rw[X5];lia)]
    erw[(d _ _ _).mpr ⟨m,wc (.str z),U,g,?_,?_⟩]
    .rw[c,YH,if_pos hz,if_neg hl];erw[L]
    .rw[c,YH,if_pos hz,if_neg hl]
  .rw[decide_eq_false hz];simp!;erw[(d _ _ _).mpr ⟨m,wc (.str z),s,g,?_,?_⟩]
   .rw[c,YH,if_neg hz];erw[hd]
   .rw[c,YH,if_neg hz]
 .rintro r y h;have⟨m,R,s,g,hd,rfl⟩:=(d _ _ _).mp h;have n:(Src.lst a (l.map MV.str)).len=l.length:=X5 _;rw[n,WC]at hd ⊢;delta Ly;simp!;erw[q y (O.trans s)]
structure Seen (A:Ab)(L n0 d0 rt rg:Nat):Prop where
 l:A.gx.length+2<=L
 n:n0<=A.ws.length
 d:d0<=A.tn
 lt:1<=rt->n0<=A.lt
 lg:1<=rg->d0<=A.lg
 tx:∀(e:Nat)x,e+1<rt->A.tx[e]?=wc x->n0<=x
 gx:∀(e:Nat)x,e+1<rg->A.gx[e]?=wc x->d0<=x
def QH{j:List Nat}{e x:Nat}(h:j.dropLast[e]?=wc x):j[e]?=wc x:=by
 rw[List.dropLast_eq_take,List.getElem?_take]at h;split at h
 .erw[h]
 .cases h
def QI{j:List Nat}(h:1<=j.length):j[j.length - 1]?=wc (XF j):=by
 have e:=Wm h;have l:j.dropLast.length=j.length - 1:=Va;obtain⟨m,u⟩:∃m,m=j.length - 1:=⟨_,rfl⟩;rw[<-u]
 conv=>lhs;rw[e]
 rw[Zn (by lia),l,u,Nat.sub_self];rfl
section
variable{A:Ab}{L n0 d0 rt rg:Nat}
theorem Seen.taker(ok:A.Ok)(h:Seen A L n0 d0 rt rg)(m:Int)(c:Nat)(w:Bool):Seen (A.taker m c w) L n0 d0 (rt+1) rg:=by
 erw[⟨h.l,h.n,?_,λ_=>h.n,h.lg,λe x l j=>?_,h.gx⟩]
 .show d0<=if _ then _ else _;have:=h.d;split<;>lia
 .have j:(A.tSamp c::A.tx.dropLast)[e]?=wc x:=j;cases e with
  |zero=>cases j;erw[Xv (h.lt (by lia)) (ok.tSamp c).1]
  |succ e=>erw[h.tx e x (by lia) (QH j)]
theorem Seen.giver(ok:A.Ok)(h:Seen A L n0 d0 rt rg)(m:Int)(c:Nat)(w:Option Nat):Seen (A.giver m c w) L n0 d0 rt (rg+1):=by
 have l:=ok.gl.1;erw[⟨?_,?_,h.d,h.lt,λ_=>h.d,h.tx,λe x u j=>?_⟩]
 .show(A.gSamp c::A.gx.dropLast).length+2<=L;have:=h.l;rw[Yj,Va];lia
 .show n0<=(if _ then _ else _:List Nat).length;have:=h.n;split
  .rw[Ya];lia
  .erw[this]
 .have j:(A.gSamp c::A.gx.dropLast)[e]?=wc x:=j;cases e with
  |zero=>cases j;erw[Xv (h.lg (by lia)) (ok.gSamp c).1]
  |succ e=>erw[h.gx e x (by lia) (QH j)]
theorem Seen.takes(ok:A.Ok)(h:Seen A L n0 d0 rt rg)(j:L<=rt+1)(lt:A.tn<n0):A.takes wf=wf:=by
 have l:=ok.gl.1;have u:=ok.tl;have y:=h.l;have:=h.tx _ _ (by lia) (QI (j:=A.tx) (by lia))
 erw[(XQ _ _).mpr ⟨rfl,decide_eq_true (by lia)⟩]
theorem Seen.gives(ok:A.Ok)(h:Seen A L n0 d0 rt rg)(j:L<=rg+1){v:Nat}(lt:A.ws.length<d0+2^A.k):A.gives (wc v)=wf:=by
 have l:=ok.gl.1;have u:=h.l;have:=h.gx _ _ (by lia) (QI (j:=A.gx) (by lia))
 erw[(XQ _ _).mpr ⟨rfl,decide_eq_true (by lia)⟩]
def Seen.rung(ok:A.Ok){f:Fer}(j:f.giver≠f.taker){cnt:Str->Nat}(h:Seen A L n0 d0 (cnt f.taker) (cnt f.giver)){w:Nat}{z:Str}{m:Int}{c:Nat}{o:Option Stp}{l:Str->Int}{k:Nat}:Seen (newA w z m c o l k f A) L n0 d0 (if f.taker=z then cnt f.taker+1 else cnt f.taker) (if f.giver=z then cnt f.giver+1 else cnt f.giver):=by
 unfold newA;by_cases g:f.giver=z
 .subst g;rw[if_pos (.inl rfl),Zx,if_pos rfl,if_neg j.symm,if_pos rfl];erw[h.giver ok _ _ _]
 .by_cases t:f.taker=z
  .subst t;rw[if_pos (.inr rfl),Zx,if_neg g,if_pos rfl,if_neg g];erw[h.taker ok _ _ _]
  .rw[if_neg λy=>y.elim (λy=>g y.symm) λy=>t y.symm,if_neg t,if_neg g];erw[h]
end
def RunGe(W:Wld)(k:Nat)(R:RunS):Prop:=∀(i:Nat)I d,W.isl[i]?=wc I->R.dn[i]?=wc d->dnM W k i<=d
structure Blk (W:Wld)(L k:Nat)(R:RunS)(cnt:Str->Nat):Prop where
 lo:RunGe W k R
 go:∀(i:Nat)I d,W.isl[i]?=wc I->R.dn[i]?=wc d->L<=cnt I.name->dnM W (k+1) i<=d
 se:∀(j:Nat)f x,W.fer[j]?=wc f->R.bs[j]?=wc x->∃n0 d0,Seen x.A L n0 d0 (cnt f.taker) (cnt f.giver)/\((Xo W k).giv.getD j []).length<=n0/\(Xo W k).tak.getD j 0<=d0
section
variable{W:Wld}{M M':MH}{r:Addr}{R R':RunS}{mm:Nat->Int}{k i n d m L:Nat}{I:Isl}{cnt:Str->Nat}
def RunGe.behind(G:W.Good)(O:RunAt M W r R mm)(h:KnAt W M R)(L:RunGe W k R){q:Nat}{g:Fer}{b:Boat}(y:W.fer[q]?=wc g)(T:R.bs[q]?=wc b){z:Str} (U:z∈W.ins):(g.giver=z->((Xo W k).giv.getD q []).length<=b.A.ws.length)/\(g.taker=z->(Xo W k).tak.getD q 0<=b.A.tn):=by
 have⟨_,J,j,rfl⟩:=FB U;have⟨n,a,Y,d,Z,A,_,_,hd⟩:=O.isl j;have⟨F,c,_,K,B⟩:=h.st _ J a n d j A Z hd;have⟨C,f,u⟩:=(plAt G k).st _ J j;have l:=L _ J d j hd;have⟨Q,D,E,_⟩:=K.pre _ l;obtain rfl:=f.uni G _ (X9 _) _ _ f D;have p:=B q g b y T;have e:=u q g y;have N:C g.name<=c g.name:=E _;erw[⟨λz=>by rw[<-p.1 z,<-e.1 z];erw[N],λz=>by rw[<-p.2 z,<-e.2 z];erw[N]⟩]
def Blk.start(G:W.Good)(z:RunAt M W r R mm)(h:KnAt W M R)(lo:RunGe W k R)(q:1<=L)(c:∀(j:Nat)f x,W.fer[j]?=wc f->R.bs[j]?=wc x->x.A.gx.length+2<=L):Blk W L k R λ_=>0:=by
 erw[⟨lo,λi I d p hd l=>by lia,λj f x u y=>?_⟩]
 have g:=G.fo f (Xd u);erw[⟨_,_,⟨c j f x u y,X9 _,X9 _,λl=>by lia,λl=>by lia,λe x l=>by lia,λe x l=>by lia⟩,(lo.behind G z h u y g.g).1 rfl,(lo.behind G z h u y g.t).2 rfl⟩]
def Blk.ring(G:W.Good)(Y:RunAt M W r R (λ_=>R.m))(h:KnAt W M R)(B:Blk W L k R cnt)(N:W.isl[i]?=wc I)(hn:R.nums[i]?=wc n){ρ:Str->Int} {bs:List Boat} (hbs:R'.bs=bs)(hbl:bs.length=W.fer.length)(tb:BsTo W R.bs bs I.name R.m m (I.stps[n]?) ρ W.fer.length)(to:R'.dn=R.dn/\(∀s,I.stps[n]?=wc s->∃z,Xs I.stps[n]? z=wf)/\(∀(j:Nat)f x,W.fer[j]?=wc f->R.bs[j]?=wc x->¬((I.name=f.giver\/I.name=f.taker)/\hitA W.w f I.name I.stps[n]? ρ x.A=wf))\/∃s d,I.stps[n]?=wc s/\R.dn[i]?=wc d/\R'.dn=R.dn.set i (d+1)/\CanR W R s):Blk W L k R' λy=>if y=I.name then cnt y+1 else cnt y:=by
 have up:∀(j p:Nat),R'.dn[j]?=wc p->∃d,R.dn[j]?=wc d/\d<=p/\(j≠i->p=d):=λj p hd=>by
  rcases to with⟨e,_⟩|⟨s,d,_,U,e,_⟩
  .rw[e]at hd;erw[⟨p,hd,X9 _,λ_=>rfl⟩]
  .rw[e]at hd;rcases Y9 hd with⟨rfl,rfl⟩|⟨_,hd⟩
   .erw[⟨d,U,YC _,λz=>absurd rfl z⟩]
   .erw[⟨p,hd,X9 _,λ_=>rfl⟩]
 erw[⟨λj J p A hd=>?_,λj J p A hd D=>?_,λj f x' E hx=>?_⟩]
 .have⟨d,U,h2,_⟩:=up j p hd;erw[Xv (B.lo j J d A U) h2]
 .have⟨d,U,h2,h3⟩:=up j p hd;by_cases ij:j=i
  rotate_left
  .rw[if_neg λz=>ij (Fx G A N z)]at D;rw[h3 ij];erw[B.go j J d A U D]
  subst ij;rw[N]at A;cases A;rw[if_pos rfl]at D;by_cases l:dnM W (k+1) j<=d
  .erw[Xv l h2]
  have lo:=B.lo j I d N U;have⟨c,K,hk⟩:=(plAt G k).st j I N;have F:dnM W (k+1) j=dnM W k j+if(XX W (Xo W k) j).isSome=wf then 1 else 0:=rfl;cases dm:XX W (Xo W k) j with
  |none=>rw[F,dm]at l;erw[absurd lo l]
  |some s=>
   rw[dm]at F;have F:dnM W (k+1) j=dnM W k j+1:=F;have ed:dnM W k j=d:=by lia
   rw[F];rw[ed]at K ⊢;rcases to with⟨_,ws,nh⟩|⟨s',d2,_,h5,h4,_⟩
   rotate_left
   .rw[U]at h5;cases h5;rw[h4]at hd;rcases Y9 hd with⟨_,rfl⟩|⟨z,_⟩
    .erw[X9 _]
    .erw[absurd rfl z]
   have⟨_,a,_,_,Q,ha,_⟩:=Y.isl N;rw[hn]at Q;cases Q;have⟨kv,c',_,K',X⟩:=h.st j I a n d N ha hn U;have eq:=K.uni G d (X9 _) _ _ K K';injection eq with e1 _ e3;subst e3;have⟨I',H,v,o⟩:=VA dm;rw[N]at H;cases H;rw[e1]at v;have en:=G.en I (Xd N) s (Xd v);have si:=(G.io I (Xd N)).st s (Xd v);have⟨z,hz⟩:=ws s v;rw[v]at hz nh;cases s with
   |take f x=>
    have⟨g,C,rfl⟩:=XA.mp si.1;have⟨q,u⟩:=UJ C;obtain⟨b,O⟩:∃b,R.bs[q]?=wc b:=⟨_,X6 (by rw[Y.bl];erw[(Xm.mp u).1])⟩
    have⟨n0,d0,S,g1,g2⟩:=B.se q g b u O;have t:=en g C rfl;have e4:=((hk q g u).2 t).symm.trans ((X q g b u O).2 t);have lt:=of_decide_eq_true o;rw[_y G u]at lt;have ok:=(Y.ba q g b u O).fy.ok;erw[absurd ⟨.inr t.symm,?_⟩ (nh q g b u O)];rw[hitA,if_neg λy=>(G.fo g C).ne (y.trans t.symm),show Xs (wc (Stp.take g.name x)) g.name=wf from decide_eq_true rfl];erw[S.takes ok (by rw[t];erw[D]) (by lia)]
   |give f T=>
    have⟨g,C,rfl⟩:=XA.mp si.1;have⟨q,u⟩:=UJ C;obtain⟨b,O⟩:∃b,R.bs[q]?=wc b:=⟨_,X6 (by rw[Y.bl];erw[(Xm.mp u).1])⟩
    have⟨n0,d0,S,g1,g2⟩:=B.se q g b u O;have t:=en g C rfl;have e4:=((hk q g u).1 t).symm.trans ((X q g b u O).1 t);have lt:=of_decide_eq_true o;have e6:((2:Int)^g.k)=((2^g.k:Nat):Int):=by rw[Vk];rfl
    have e7:(W.fer.map (·.k)).getD q 0=g.k:=_8 (by rw[Xe,u];rfl)
    rw[_y G u,e7,e6]at lt;have ba:=Y.ba q g b u O;erw[absurd ⟨.inl t.symm,?_⟩ (nh q g b u O)];rw[hitA,if_pos t,show U8 W.w g (wc (Stp.give g.name T)) ρ=wc (T.val ρ W.w).toNat from if_pos rfl];erw[S.gives ba.fy.ok (by rw[t];erw[D]) (by rw[ba.k];lia)]
   |put _ _=>cases hz
   |jump _ _=>cases hz
 .rw[hbs]at hx;have hj:=(Xm.mp E).1;obtain⟨x,Z⟩:∃x,R.bs[j]?=wc x:=⟨_,X6 (by rw[Y.bl];erw[hj])⟩
  have⟨a',e1,e2⟩:=tb j f _ hj E Z;rw[hx]at e1;cases e1;have⟨n0,d0,S,g1,g2⟩:=B.se j f x E Z;rw[e2];erw[⟨n0,d0,S.rung (Y.ba j f x E Z).fy.ok (G.fo f (Xd E)).ne,g1,g2⟩]
end
noncomputable def Stch(W:Wld)(L:Nat)(p:Nat×List Str)(R:RunS):Prop:=∃(k b:Nat) (cnt:Str->Nat),p.1=k*L+b/\b<L/\Blk W L k R cnt/\∀z∈W.ins,b+(if z∈p.2 then 0 else 1)<=cnt z
def Stch.ring{W:Wld}{L:Nat}{p:Nat×List Str}{R u:RunS}{z:Str}(h:Stch W L p R)(st:∀k cnt,Blk W L k R cnt->Blk W L k u λy=>if y=z then cnt y+1 else cnt y)(T:∀k,RunGe W k u->(∀(j:Nat)f x,W.fer[j]?=wc f->u.bs[j]?=wc x->x.A.gx.length+2<=L)->Blk W L k u λ_=>0):Stch W L (YH W.ins p z) u:=by
 have⟨k,b,cnt,q,r,B,N⟩:=h;have g:=st _ _ B;unfold YH;by_cases hm:z∈p.2
 rotate_left
 .rw[if_neg hm];erw[⟨k,b,_,q,r,g,λy l=>?_⟩];have:=N y l;split<;>split<;>lia
 have up:∀y∈W.ins,b+(if y∈p.2.erase z then 0 else 1)<=if y=z then cnt y+1 else cnt y:=λy l=>by
  have c:=N y l;by_cases e:y=z
  .subst e;rw[if_pos hm]at c;rw[if_pos rfl];split<;>lia
  .rw[if_neg e];have U:(y∈p.2.erase z)↔y∈p.2:=List.mem_erase_of_ne e;simp only[U];erw[c]
 rw[if_pos hm];by_cases e0:(p.2.erase z).length=0
 rotate_left
 .rw[if_neg e0];erw[⟨k,b,_,q,r,g,up⟩]
 rw[if_pos e0];have all:∀y∈W.ins,b+1<=if y=z then cnt y+1 else cnt y:=λy l=>by
  have c:=up y l;rw[Wx.mp e0,if_neg XM]at c;erw[c]
 by_cases m:b+1=L
 .erw[⟨k+1,0,λ_=>0,?_,by lia,T _ (λi I d O hd=>g.go i I d O hd ?_) λj f x Y Z=>let⟨_,_,S,_⟩:=g.se j f x Y Z;S.l,λy l=>?_⟩]
  .show p.1+1=_;rw[Nat.succ_mul];lia
  .rw[<-m];erw[all _ (Xd (Y5 O))]
  .show 0+(if y∈W.ins then 0 else 1)<=0;rw[if_pos l];erw[X9 _]
 .erw[⟨k,b+1,_,by show p.1+1=_;lia,by lia,g,λy l=>?_⟩]
  show b+1+(if y∈W.ins then 0 else 1)<=_;rw[if_pos l];erw[all y l]
def Stch.ge{W:Wld}{L:Nat}{p:Nat×List Str}{R:RunS}(h:Stch W L p R):RunGe W (p.1/L) R:=by
 have⟨k,b,cnt,j,l,B,_⟩:=h;have e:p.1/L=k:=by rw[j,UM,Nat.add_mul_div_right _ _ (by lia),Nat.div_eq_of_lt l,Nat.zero_add]
 rw[e];erw[B.lo]
noncomputable def Ym(fs:List Fer)(a:Nat):Nat:=fs.foldl (λl f=>max l (2+f.st)) a
theorem AC:∀(fs:List Fer)(a:Nat),a<=Ym fs a/\∀f∈fs,f.st+2<=Ym fs a
 |[],a=>⟨X9 _,λ_ h=>nomatch h⟩
 |f::fs,a=>by
  have⟨u,l⟩:=AC fs (max a (2+f.st));have e:Ym (f::fs) a=Ym fs (max a (2+f.st)):=rfl;rw[e];erw[⟨by lia,λg j=>?_⟩]
  rcases Xj.mp j with rfl|j
  .lia
  .erw[l g j]
theorem QJ:∀(fs:List Fer){a:Nat},a<=5->(∀f∈fs,f.st<=3)->Ym fs a<=5
 |[],_,h,_=>h
 |f::fs,a,h,g=>QJ fs (a:=max a (2+f.st)) (by have:=g f (Y2 ..);lia) λx j=>g x (XJ _ j)
def Stch.first{W:Wld}{M:MH}{r:Addr}{R:RunS}{u:Nat->Int}(G:W.Good)(m:RunAt M W r R u)(h:KnAt W M R)(g:∀(j:Nat)f y,W.fer[j]?=wc f->R.bs[j]?=wc y->y.A=ab0 f.k f.st):Stch W (Ym W.fer 2) (0,W.ins) R:=by
 have⟨e,c⟩:=AC W.fer 2;erw[⟨0,0,λ_=>0,by simp,by lia,Blk.start G m h (λi I d _ _=>YB _) (by lia) λj f x l q=>?_,λz p=>?_⟩]
 .rw[g j f x l q];show(Xi f.st 0).length+2<=_;rw[Zc];erw[c f (Xd l)]
 .show 0+(if z∈W.ins then 0 else 1)<=0;rw[if_pos p];erw[X9 _]
def _gx(W:Wld)(S:Std)(i:Nat):(Xy W S (i+1)).2=match XX W S i with|wc _=>(Xy W S i).2++[W.ins.getD i ""]|we=>(Xy W S i).2:=by
 show(YZ W S i (Xy W S i)).2=_;unfold YZ XX;cases h:W.isl[i]? with
 |none=>rfl
 |some I=>
  dsimp only;cases YY W S i I with
  |none=>rfl
  |some s=>dsimp only;rw[_8 (Y5 h)]
def QK{W:Wld}(G:W.Good){i q:Nat}(j:i<W.isl.length)(l:q<W.isl.length)(e:W.ins.getD i ""=W.ins.getD q ""):i=q:=by
 rw[<-ins_len]at j l;rw[_8 (X6 j),_8 (X6 l)]at e;erw[(Ue j G.in_nd).mp (by rw[X6 j,X6 l,e])]
theorem QL{W:Wld}(G:W.Good)(S:Std){q:Nat}(l:q<W.isl.length):∀i:Nat,i<=W.isl.length->(Xy W S i).2.count (W.ins.getD q "")=if q<i/\(XX W S q).isSome=wf then 1 else 0
 |0,_=>by rw[if_neg (λz=>absurd z.1 (VQ _))];rfl
 |i+1,hi=>by
  have j:=QL G S l i (by lia)
  have u:q≠i->(q<i+1↔q<i):=λe=>by lia
  rw[_gx];by_cases e:q=i
  .subst e;rw[if_neg (λz=>Ze _ z.1)]at j;cases hd:XX W S q with
   |none=>rw[if_neg (λz=>Bool.noConfusion z.2)];erw[j]
   |some s=>
    rw[if_pos ⟨ZX _,rfl⟩];show VO _ (_++[_])=1;rw[VJ,j,List.count_singleton_self]
  .simp only[u e];cases hd:XX W S i with
   |none=>erw[j]
   |some s=>
    show VO _ (_++[_])=_;rw[VJ,j,List.count_singleton,if_neg λz=>e (QK G hi l (eq_of_beq z)).symm];rfl
theorem QN(W:Wld)(i:Nat):∀k,dnM W k i<=k
 |0=>X9 _
 |k+1=>by
  have:=QN W i k;show dnM W k i+(if _ then 1 else 0)<=_;split<;>lia
theorem QO(W:Wld)(i:Nat){j:Nat}:∀k,j<=k->dnM W j i<=dnM W k i
 |0,h=>by rw[Nat.le_zero.mp h];erw[X9 _]
 |k+1,h=>by
  rcases Be k j with l|l
  .rw[Nat.le_antisymm h l];erw[X9 _]
  .erw[Xv (QO W i k l) (Uh ..)]
def _kM{W:Wld}(G:W.Good)(k:Nat):(∀z∈ZQ W (Xo W k),z∈W.ins)/\(ZQ W (Xo W k)).length<=5:=by
 have⟨_,_,j,l⟩:=V0 G (Aw G k) W.isl.length;erw[⟨j,Xv l G.i5⟩]
structure CntAt (W:Wld)(c:Nat->Nat)(M:MH)(pr:Addr)(ls:List Addr):Prop where
 d:M pr=wc (.dic (zipK W.ins (ls.map MV.ref)))
 ll:ls.length=W.isl.length
 lv:∀(i:Nat)l,ls[i]?=wc l->∃xs,M l=wc (.lst xs)/\xs.length=c i+1
 ln:ls.Nodup
section
variable{W:Wld}{c c':Nat->Nat}{M M':MH}{pr:Addr}{ls:List Addr}
def CntAt.keep(h:CntAt W c M pr ls)(s:SameM M M'):CntAt W c M' pr ls:=⟨s _ _ h.d,h.ll,λi l e=>let⟨xs,e1,e2⟩:=h.lv i l e;⟨xs,s _ _ e1,e2⟩,h.ln⟩
def CntAt.of(h:CntAt W c M pr ls)(e:∀i,i<W.isl.length->c' i=c i):CntAt W c' M pr ls:=⟨h.d,h.ll,λi l j=>by rw[e i (by rw[<-h.ll];erw[(Xm.mp j).1])];erw[h.lv i l j],h.ln⟩
def CntAt.app(h:CntAt W c M pr ls){i:Nat}{l:Addr}{d:List MV}(m:ls[i]?=wc l)(g:M l=wc (.lst d))(y:MV):CntAt W (λj=>if j=i then c j+1 else c j) (updM M l (.lst (d++[y]))) pr ls:=by
 erw[⟨(X7 λz=>by rw[<-z,h.d]at g;cases g).trans h.d,h.ll,λj q u=>?_,h.ln⟩]
 by_cases e:j=i
 .subst e;rw[m]at u;cases u;have⟨p,f,r⟩:=h.lv j l m;rw[g]at f;cases f;erw[⟨_,Xb,by rw[if_pos rfl,Ya,r];rfl⟩]
 .rw[if_neg e,X7 λz=>e ((Ue (Xm.mp u).1 h.ln).mp (by rw[u,m,z]))]
  erw[h.lv j q u]
end
noncomputable def dRow(W:Wld):Dc:=⟨W.ins,λ_ N=>.ref (N.getD 1 default),λ_ N M=>∃p l v,N=[p,l]/\M l=wc (.lst [v]),λ_ N M2 u j ⟨p,l,v,e,h⟩=>⟨p,l,v,e,(j l (by simp[e])).trans h⟩⟩
def _oC{f:List (Str×SpM)}{W:Wld}(j:Nat)(u:Isl)(_:W.isl[j]?=wc u)(z:MH):wE f (.lst (.cons (.tup (.cons (.int 0) (.cons (.bi .dict (.ix (.var 0) (.int 1)) .nil) .nil))) .nil)) [wc u.mv] z λy M2=>SameM z M2/\∃N,y=(dRow W).val j N/\Laid z M2 N/\(dRow W).C j N M2:=by
 simp![Isl.mv]
 erw[⟨_,Qi u.prs,λp m=>?_⟩]
 try walk_at "s"
 intro l g;have d:=SameM.new m (.dic (U2 (u.prs.map λp=>((Xn p.1:Key),MV.int p.2))));have c:=SameM.new g (.lst [.tup [.int 0,.ref p]]);erw[⟨d.trans c,[p,l],rfl,(Laid.one m _).trans (.one g _) d c,p,l,_,rfl,Xb⟩]
theorem QP:∀{L:List (List Addr)},(∀(j:Nat)N,L[j]?=wc N->∃p l,N=[p,l])->(L.map λN=>N.getD 1 default).Sublist L.flatten
 |[],_=>List.nil_sublist _
 |N::L,h=>by
  have⟨p,l,rfl⟩:=h 0 N rfl;erw[((QP λj N z=>h (j+1) N (by simpa using z)).cons₂ l).cons p]
def Got.rows{W:Wld}{m M:MH}{y:Addr}{z:List (List Addr)}(g:Got (dRow W) y z M)(l:Laid m M (y::z.flatten)):∃d,CntAt W (λi=>dnM W 0 i) M y d/\∀a∈d,m a=we:=by
 have sub:=QP λj N h=>let⟨p,l,_,e,_⟩:=g.c j N h;⟨p,l,e⟩
 erw[⟨z.map λN=>N.getD 1 default,⟨by rw[XZ];erw[g.dm rfl],by rw[X5];erw[g.l.trans ins_len],λi a u=>?_,(Yc.mp l.1).2.sublist sub⟩,λa u=>(l.2 a (XJ _ (sub.subset u))).1⟩]
 rw[Xe]at u;have⟨N,c,rfl⟩:=Vl.mp u;have⟨p,q,v,rfl,e⟩:=g.c i N c;erw[⟨_,e,rfl⟩]
abbrev FC:SpM:=λu M Q=>∃(W:Wld) (n:Nat),u=[W.mv,.int n]/\W.Good/\n<=100/\∀j l y,SameM M j->CntAt W (dnM W n) j l y->Q (.ref l) j
def QQ:MonW FC:=by walk_at "m"
def _j6(T:Txt K mg t):FO P w K mg base 54 "track" FC:=by
 erw[T.b9.ok T.g QQ 2 ["world","n","stand","rows","k","told","name"] (fC T (fc (_ad T) (fc (_du T) f0))) LO (fun vs M Q h=>?_) (fun vs M Q h=>?_)]
 .have⟨_,_,rfl,_⟩:=h;rfl
 have⟨W,n,rfl,G,hn,q⟩:=h;show wSs _ _ _ [wc W.mv,wc (.int n),we,we,we,we,we] M;have x:=(_6 (u:=[("first_stand",Fq),("round_of",Fu)]) (fMc Qq (fMc Qs nl0)));delta LO;simp!;erw[⟨W,rfl,G,λM1 A s1 h1 _ _=>?_⟩];show wSs _ Er _ [wc W.mv,wc (.int n),wc A.mv,we,we,we,we] M1;delta Er;rw[U4,UV];erw[Au x G rfl (d:=dRow W) rfl _oC _ λY ns M3 s3 g l=>?_];have⟨N,R3,b⟩:=g.rows l;replace b:∀a∈N,M a=we:=λa ha=>s1.free (b a ha);show wSs _ Ep _ [wc W.mv,wc (.int n),wc A.mv,wc (.ref Y),we,we,we] M3;delta Ep;simp!;obtain⟨J,H⟩:∃J:Nat->Sm->MH->Prop,∀k c y,J k c y↔∃A v4 v5 O,SameM M y/\StdAt W (Xo W k) y A/\CntAt W (dnM W k) y Y N/\c=[wc W.mv,wc (.int n),wc A.mv,wc (.ref Y),v4,v5,O]:=⟨_,λ_ _ _=>Yd⟩;erw[⟨by lia,by lia,J,(H 0 _ _).mpr ⟨A,_,_,_,s1.trans s3,h1.keep s3,R3,rfl⟩,λj c y h=>trivial,?_,?_⟩]
 .rintro k u c y hu h;have⟨A,v4,v5,O,s,hA,R,rfl⟩:=(H _ _ _).mp h;have⟨hk,rfl⟩:=Vt hu;delta LN;simp!;erw[ex4 W (Xo W k) A (5*k) ⟨rfl,G,Aw G k,by lia,hA,λM4 B v s4 r n4 w4 f4 C=>?_⟩]
  delta LM;simp!;delta LL
  simp![C]
  have⟨hw1,hw2⟩:=_kM G k;have D:=Aw G (k+1);have lo:∀l∈N,l∉B.own/\l≠v:=λl Z=>by
   have⟨i,L,rfl⟩:=Yn Z;have⟨xs,e,_⟩:=R.lv i _ (X6 L);erw[⟨λz=>neM e (n4.fr _ z) rfl,neM e f4⟩]
  obtain⟨J',f⟩:∃J':Nat->Sm->MH->Prop,∀j c y,J' j c y↔∃O,SameM M y/\StdAt W (Xo W (k+1)) y B/\CntAt W (fun i=>dnM W k i+((ZQ W (Xo W k)).take j).count (W.ins.getD i "")) y Y N/\y v=wc (.lst ((ZQ W (Xo W k)).map MV.str))/\c=[wc W.mv,wc (.int n),wc B.mv,wc (.ref Y),wc (.int (0+(k:Nat))),wc (.tup [B.mv,.ref v]),O]:=⟨_,fun _ _ _=>Yd⟩;erw[⟨J',(f 0 _ _).mpr ⟨_,s.trans s4,r,R.keep s4,C,rfl⟩,λj c y h=>?_,?_,?_⟩]
  .have⟨_,_,_,_,e,_⟩:=(f _ _ _).mp h;erw[e]
  .rintro j u c y hu h;have⟨O,s,r,R,C,rfl⟩:=(f _ _ _).mp h;have⟨hj,rfl⟩:=YO (show((ZQ W (Xo W k)).map MV.str)[j]?=wc u from hu);have⟨i,I,E,hz⟩:=FB (hw1 _ (XS hj));have ht:(ZQ W (Xo W k)).take (j+1)=(ZQ W (Xo W k)).take j++[I.name]:=by rw[Zp,X6 hj,hz];rfl
   rw[<-hz];have L:=(Xm.mp E).1;have F:=Y5 E;have Z:=X6 (show i<N.length by rw[R.ll];erw[L])
   have⟨xs,hx,hxl⟩:=R.lv i _ Z;have S:=Xd Z;have X:=lo _ S;have hc:=List.count_le_length (a:=W.ins.getD i "") (l:=(ZQ W (Xo W k)).take j);rw[Yf]at hc;have hd:=QN W i k;generalize N[i]'(by rw[R.ll];erw[L])=l at*
   have⟨a,a1,a2⟩:=r.ws_at D E;delta LK
   simp![R.d]
   erw[⟨.ref l,Yv G.in_nd F (by rw[Xe,Z];rfl),?_⟩]
   rw[StA.mv]
   simp![hx,r.n,r.w]
   erw[⟨⟨_,rfl⟩,_,Fk G D E,_,Fl G E a1,?_⟩]
   simp![a2]
   intro p hp;have o:=SameM.new hp (.dic ((Xo W (k+1)).wd.getD i []));have U:=o _ _ hx
   simp![U]
   erw[⟨by lia,?_⟩]
   erw[(f _ _ _).mpr ⟨_,(s.upd (s.free hp) _).upd (b _ S) _,(r.keep o).off U (λz=>X.1 (CD z)) _,((R.keep o).app Z U _).of λm hm=>?_,?_,rfl⟩]
   .show dnM W k m+VO _ _=_;rw[ht,VJ,List.count_singleton,<-_8 (d:=("":Str)) F];by_cases e:m=i
    .rw[if_pos e,e,if_pos (beq_self_eq_true _)];rfl
    .rw[if_neg e,if_neg λz=>e (QK G L hm (eq_of_beq z)).symm];rfl
   .rw[X7 λz=>X.2 z.symm];erw[o _ _ C]
  .rintro c y h;have⟨O,s,r,R,C,rfl⟩:=(f _ _ _).mp h;erw[(H _ _ _).mpr (ex4 B _ _ _ ⟨s,r,R.of λi L=>?_,rfl⟩)];have el:(Src.lst v ((ZQ W (Xo W k)).map MV.str)).len=(ZQ W (Xo W k)).length:=X5 _;rw[el,WC];have:=QL G (Xo W k) L _ (X9 _);simp only[L,true_and]at this;show _=_+VO _ (Xy W (Xo W k) W.isl.length).2;rw[this];rfl
 .rintro c y h;have⟨A,v4,v5,O,s,hA,R,rfl⟩:=(H _ _ _).mp h;delta LJ;simp!;erw[q y Y N s R]
def CntD(W:Wld)(n:Nat)(M:MH)(p:Addr):Prop:=∃j,M p=wc (.dic (zipK W.ins j))/\∀(i:Nat)I,W.isl[i]?=wc I->j[i]?=wc (.int (dnM W n i:Nat))
def CntD.keep{W:Wld}{n:Nat}{M M':MH}{p:Addr}(h:CntD W n M p)(s:SameM M M'):CntD W n M' p:=let⟨vs,e,f⟩:=h;⟨vs,s _ _ e,f⟩
abbrev QR:SpM:=λl M Q=>∃(W:Wld) (n:Nat),l=[W.mv,.int n]/\W.Good/\n<=100/\∀j p,SameM M j->CntD W n j p->Q (.ref p) j
def _5R:MonW QR:=by walk_at "m"
def _96(T:Txt K mg t):FO P w K mg base 55 "steps_behind" QR:=by
 erw[T.aZ.ok T.g _5R 2 ["world","n","rows"] (fC T (fc (_j6 T) f0)) LP (fun N M Q h=>?_) (fun N M Q h=>?_)]
 .have⟨_,_,rfl,_⟩:=h;rfl
 have⟨W,n,rfl,G,O,q⟩:=h;show wSs _ _ _ [wc W.mv,wc (.int n),we] M;have U:=G.i5;have z:=(_6 (u:=[("track",FC)]) (fMc QQ nl0));delta LP;simp!;erw[⟨W,n,rfl,G,O,λM1 r l Y R=>?_⟩];show wSs _ Es _ [wc W.mv,wc (.int n),wc (.ref r)] M1;delta Es;rw[U4,Jd];erw[dct z (d:=⟨W.ins,λj _=>.int (dnM W n j:Nat),λ_ _ _=>True,λ_ _ _ _ _ h=>h⟩) G.in_nd (by show W.ins.length<_;rw[ins_len];erw[Ba U (by decide)]) ?_ _ λp Z M2 A g _=>?_]
 .simp![R.d]
  intro o;have e:(zipK W.ins (l.map MV.ref)).map (λp=>kM p.1)=W.ins.map MV.str:=Fp (by rw[X5,R.ll,ins_len])
  erw[⟨by show(zipK _ _).length=_;rw[U7 (by rw[X5,R.ll,ins_len])],.inr ⟨_,_,_,rfl,R.d,rfl⟩,λj x k y u X s=>?_⟩]
  have y:((zipK W.ins (l.map MV.ref)).map λp=>kM p.1)[j]?=wc x:=y;rw[e,Xe,u]at y;cases y;have u:W.ins[j]?=wc k:=u;have B:j<l.length:=by rw[R.ll,<-ins_len];erw[(Xm.mp u).1]
  have L:=X6 B;have⟨C,m,D⟩:=R.lv j _ L;have c:l[j]≠r:=λe=>by rw[e,R.d]at m;cases m
  have f:=s _ _ ((X7 (M:=M1) c).trans m);have E:=s _ _ (Xb (M:=M1));simp only[Xt,Yb,YK,Yr]
  simp![E]
  erw[⟨.ref l[j],Yv G.in_nd u (by rw[Xe,L];rfl),?_⟩]
  simp![f]
  have F:(C.length:Int) - 1=(dnM W n j:Nat):=by lia
  rw[F];erw[⟨SameM.refl _,rfl,[],WD,λ_ h=>(XM h).elim⟩]
 .erw[q _ p (Y.trans A) ⟨_,g.di,λi I J=>?_⟩];have S:i<Z.length:=by rw[g.l];show i<W.ins.length;rw[ins_len];erw[(Xm.mp J).1]
  rw[List.getElem?_mapIdx,X6 S];rfl
theorem QS:∀(fs:List Fer)(a:Nat),Ym fs a=a\/∃f∈fs,Ym fs a=2+f.st
 |[],a=>.inl rfl
 |f::fs,a=>by
  have e:Ym (f::fs) a=Ym fs (max a (2+f.st)):=rfl;rw[e];rcases QS fs (max a (2+f.st))with h|⟨g,j,h⟩
  .rcases Nat.le_total a (2+f.st)with l|l
   .erw[.inr ⟨f,Y2 ..,h.trans (Nat.max_eq_right l)⟩]
   .erw[.inl (h.trans (Nat.max_eq_left l))]
  .erw[.inr ⟨g,XJ _ j,h⟩]
abbrev QT:SpM:=λl M Q=>∃W:Wld,l=[W.mv]/\W.Good/\∀j,SameM M j->Q (.int (Ym W.fer 2:Nat)) j
def _34:MonW QT:=by walk_at "m"
def _4T(T:Txt K mg t):FO P w K mg base 1 "stretches_a_round" QT:=by
 erw[T.bS.ok T.g _34 1 ["world"] (fC T f0) LQ (fun z M Q h=>?_) (fun z M Q h=>?_)]
 .have⟨_,rfl,_⟩:=h;rfl
 have⟨W,rfl,G,q⟩:=h;show wSs _ _ _ [wc W.mv] M;have N:=G.f6;have u:=(_6 (u:=[]) nl0);delta LQ;rw[Wld.mv];simp!;erw[_O W.fer Fer.mv (λf=>.int f.st) ?_ ?_ u λe d=>?_]
 .simp!;erw[⟨rfl,by lia,trivial⟩]
 .intro f y O s;simp only[sCm,Xt,Yb,YK,Yr,Yz,Yk]
  simp![Fer.mv]
 simp!;erw[⟨W.fer.map λf=>(f.st:Int),by rw[XZ];rfl,λm c=>?_⟩]
 have r:m+2=(Ym W.fer 2:Nat):=by
  have⟨R,p⟩:=AC W.fer 2;have j:=QS W.fer 2;generalize Ym W.fer 2=k at*;rcases c with⟨e,rfl⟩|⟨e,g⟩
  .rcases j with j|⟨x,l,_⟩
   .lia
   .rw[List.map_eq_nil_iff.mp e]at l;cases l
  .have⟨f,y,rfl⟩:=XA.mp e;have L:=p f y;rcases j with j|⟨x,l,j⟩
   .lia
   .have:=g _ (XA.mpr ⟨x,l,rfl⟩);lia
 rw[r];erw[q _ (SameM.new d _)]
abbrev CN:SpM:=λz M Q=>∃(W:Wld) (a:Addr) (j:List Str),z=[W.mv,.ref a]/\W.Good/\M a=wc (.lst (j.map MV.str))/\j.length<=100/\
 ∀l u y,SameM M l->CntD W ((strM W.ins j).1/Ym W.fer 2) l u->CntD W j.length l y->Q (.tup [.ref u,.ref y]) l
def QU:MonW CN:=by walk_at "m"
def _gO(T:Txt K mg t):FO P w K mg base 56 "bounds" CN:=by
 erw[T.aH.ok T.g QU 2 ["world","names","rounds"] (fC T (fc (_96 T) (fc (_cv T) (fc (_4T T) f0)))) LS (fun r M Q h=>?_) (fun r M Q h=>?_)]
 .have⟨_,_,_,rfl,_⟩:=h;rfl
 have⟨W,a,j,rfl,G,u,y,q⟩:=h;show wSs _ _ _ [wc W.mv,wc (.ref a),we] M;delta LS;simp!;erw[ex3 W a j ⟨rfl,G,u,y,λM1 z=>?_⟩];simp!;erw[⟨W,rfl,G,λM2 m=>?_⟩];simp!;have Y:=(AC W.fer 2).1;have Z:=QJ W.fer (a:=2) (by decide) λf p=>(G.fo f p).s3
 have g:=CM W.ins j (0,W.ins);have g:(strM W.ins j).1<=0+j.length:=g;have e:(strM W.ins j).1/Ym W.fer 2<=100:=Xv (Nat.div_le_self _ _) (by lia)
 erw[⟨⟨by lia,by lia⟩,?_⟩]
 delta LR;simp!;erw[⟨W,(strM W.ins j).1/Ym W.fer 2,by rw[Int.natCast_ediv],G,e,λA L d N=>?_⟩]
 simp!;have l:=((z.trans m).trans d) _ _ u
 simp![l]
 rw[X5];erw[⟨W,j.length,rfl,G,y,λO R c U=>?_⟩]
 try walk_at "s"
 erw[q O L R (((z.trans m).trans d).trans c) (N.keep c) U]
def _oh(T:Txt K mg t){f:Addr}{d:Zk}(F:Fn1 K "law" Jf f d):FnOk P w K mg base CX0 60 f d ["script"] (liSp K J5):=by
 erw[F.F.okM (scB.fs (n:=1) (N:=["script","width","islands","ferries","world","run","rings","k","least","most","island","done"]) (by decide+kernel)) (mC T [("_law_cell_at",Wp),("_law_rings",CJ),("_law_things",Cs),("bounds",CN),("made",Ci),("Run___init__",Az),("Run_ring",Ay),("Run_steps_done",AA)] [("Run___init__",Az),("Run_ring",Ay),("Run_steps_done",AA)] [(6,"Run","ring"),(7,"Run","steps_done")] [(5,"Run")] (fc (PQ T) (fc (_bH T) (fc (_af T) (fc (_gO T) (fc (_lC T) f0))))) (fMc Qy (fMc Qw (fMc Qz nl0))) (fMc ⟨_,_,rfl,fM (_dx T)⟩ (fMc ⟨_,_,rfl,fM (_6X T)⟩ nl0)) (fMc ⟨_,_,rfl,fI (_9a T)⟩ nl0)) OI (by decide+kernel) (fun vs M Q h=>?_) (fun vs M Q h=>?_)]
 .have⟨U,rfl,_⟩:=h;rfl
 have⟨U,rfl,h63,q⟩:=h;have hΦ:=(_6 (u:=[("_law_cell_at",Wp),("_law_rings",CJ),("_law_things",Cs),("bounds",CN),("made",Ci),("Run___init__",Az),("Run_ring",Ay),("Run_steps_done",AA)]) (fMc PP (fMc QA (fMc Q5 (fMc QU (fMc Pm (fMc Qy (fMc Qw (fMc Qz nl0)))))))));show wSs _ _ _ [wc (.frl (U.map .int)),we,we,we,we,we,we,we,we,we,we,we] M;delta OI;simp!;erw[⟨U,3,rfl,λW pi pf ys M1 s1 G i1 f1 f2 f3 hpi hIs hpf=>?_⟩];have i5:=G.i5;have f6:=G.f6;simp!;delta OH
 simp![hpi]
 intro p1 hp1;have s2:=SameM.new hp1 (.lst ys);have hp2:updM M1 p1 (.lst ys) p1=wc (.lst ys):=Xb;generalize updM M1 p1 _=M2 at*;have hpf2:=s2 _ _ hpf
 simp![hpf2]
 intro p2 hp3;have s3:=SameM.new hp3 (.lst (W.fer.map Fer.mv));have hp4:updM M2 p2 (.lst (W.fer.map Fer.mv)) p2=wc (.lst (W.fer.map Fer.mv)):=Xb;generalize updM M2 p2 _=M3 at*;erw[ex4 p1 p2 ys W ⟨rfl,s3 _ _ hp2,hIs.keep (s2.trans s3),hp4,G,λM4 s4=>?_⟩];have s14:=(s2.trans s3).trans s4;have Y:=s14 _ _ hpi;have hIs4:=hIs.keep s14;have hys:∀(i:Nat)I y,W.isl[i]?=wc I->ys[i]?=wc y->∃xs,y=.tup (.str I.name::xs):=λi I y a b=>by
  have⟨_,_,e,_⟩:=hIs.2 i I y a b;erw[⟨_,e⟩]
 have yl:ys.length=W.isl.length:=hIs.1
 try walk_at "s"
 delta OG;simp!;intro r hr;have rr:updM M4 r (.ins "Run" []) r=wc (.ins "Run" []):=Xb;have s5:=SameM.new hr (.ins "Run" []);erw[⟨r,W,rfl,rr,G,λR M5 fr5 A hm5 hA5 ho5 hn5 hd5 hw5=>?_⟩];have s45:SameM M4 M5:=λa o e=>fr5 a o (s5 a o e) (by simpa using neM e hr)
 have no5:∀a o,M4 a=wc o->a∉R.own r:=λa o e z=>by
  rcases ho5 a (RunS.in_own z)with rfl|c
  .rw[hr]at e;cases e
  .rw[s5 _ _ e]at c;cases c
 clear fr5 rr s5;have l1:=A.ab0_len hA5;have K5:=KnAt.first hn5 hd5 hw5 hA5
 have Le5:RunLe W 0 R:=λi I d hI hd=>by
  rw[hd5,Xe,hI]at hd;cases hd;erw[X9 _]
 have St5:=Stch.first G A K5 hA5
 clear hA5 ho5 hn5 hd5 hw5 hm5
 try walk_at "s"
 delta OF;simp!;intro pc hpc;obtain⟨cs,hcs,cl⟩:∃cs:List Int,cutM (U.map MV.int) (wc 10) (wc 90)=cs.map MV.int/\cs.length<=63:=by
  erw[⟨(U.drop (HT.sIx (U.map MV.int).length 0 (wc 10))).take (HT.sIx (U.map MV.int).length (U.map MV.int).length (wc 90) - HT.sIx (U.map MV.int).length 0 (wc 10)),?_,?_⟩]
  .unfold cutM;rw[AX,List.map_drop]
  .rw[Yf,AU];lia
 rw[hcs];have s6:=SameM.new hpc (.lst (cs.map MV.int));have hc6:updM M5 pc (.lst (cs.map MV.int)) pc=wc (.lst (cs.map MV.int)):=Xb;generalize updM M5 pc _=M6 at*;have s46:=s45.trans s6;erw[ex5 pc pi cs ys W.isl ⟨rfl,hc6,by lia,s46 _ _ Y,hIs4.keep s46,i1,i5,λp l M7 s7 hp C rl ro=>?_⟩]
 have s57:=s6.trans s7;have hR7:=A.keep s57;have K7:=K5.move λa _=>s57 a;have nw:∀a,M6 a=we->a∉R.own r:=λa e z=>by
  have⟨o,e2⟩:=(A.keep s6).own_some a z;rw[e]at e2;cases e2
 have n1:=no5 _ _ Y;have q1:=(s45.trans s57) _ _ Y;have n2:=nw p hp;have rl:l.length<=63:=by lia
 clear Y hIs4 s57 s46 s45 no5 A K5 hcs hc6 s6
 try walk_at "s"
 delta OE;erw[_oV hΦ (λZ u=>∃(p:Addr) (l:List (Str×Nat)),u p=wc (.lst (l.map rgM))/\p∉R.own r/\l.length<=63/\(∀x∈l,∃I∈W.isl,x.1=I.name)/\SameM M7 u/\Z=[wc (.frl (U.map MV.int)),wc (.int W.w),wc (.ref pi),wc (.ref pf),wc W.mv,wc (.ref r),wc (.ref p),we,we,we,we,we]) ?_ ?_]
 .simp!;erw[⟨U,0,rfl,?_⟩];simp!;erw[XU (λ_=>?_) λ_=>⟨p,l,C,n2,rl,ro,SameM.refl _,rfl⟩];delta OD
  simp![C]
  erw[_O (Xq l.length) (fun i=>.int (0+(i:Nat))) (fun i=>rgM (W.ins.getD (i%W.isl.length) "",(l.getD i ("",0)).2)) ?_ ?_ hΦ fun D hD=>?_]
  .simp![C]
   rw[X5,YT];erw[⟨by lia,by lia,rfl,by rw[Ud];lia,trivial⟩]
  .intro i hi u s;have hi:=Zd.mp hi;simp only[sCm,Xt,Yb,YK,Yr,Yz,Yk]
   simp![s _ _ q1]
   have hm:=UN i (show 0<W.isl.length by lia)
   have em:((0:Int)+(i:Nat))%(ys.length:Int)=((i%W.isl.length:Nat):Int):=by rw[yl,Um];rfl
   have hI:=X6 hm;have⟨xs,ex⟩:=hys _ _ _ hI (X6 (by rw[yl];erw[hm]))
   erw[⟨by lia,_,by rw[em];erw[Yl (X6 (by rw[yl];erw[hm]))],?_⟩]
   rw[ex,_8 (Y5 hI),Um,_8 (X6 hi)]
   simp![s _ _ C]
   erw[⟨_,Yl (by rw[Xe,X6 hi];rfl),?_⟩]
   simp![rgM]
  erw[⟨D,(Xq l.length).map fun i=>(W.ins.getD (i%W.isl.length) "",(l.getD i ("",0)).2),by rw[XZ];erw[Xb],fun z=>?_,by rw[X5,Ud];erw[rl],fun x hx=>?_,SameM.new hD _,rfl⟩]
  .have⟨o,e⟩:=hR7.own_some D z;rw[hD]at e;cases e
  .have⟨i,_,rfl⟩:=XA.mp hx;have hI:=X6 (UN i (show 0<W.isl.length by lia))
   erw[⟨_,XS _,_8 (Y5 hI)⟩]
 clear C n2 ro s7 hp;rintro Z M8 ⟨p,l,hp8,n2,rl,ro,s8,rfl⟩;have hR8:=hR7.keep s8;have K8:=K7.move λa _=>s8 a;have q8:=s8 _ _ q1;clear hR7 K7 q1 s8;delta OC
 simp![hp8]
 rw[X5,YT];obtain⟨J,hJ⟩:∃J:Nat->Sm->MH->Prop,∀j Z u,J j Z u↔∃(R':RunS) (v7 v8 v9 g L:Option MV),RunAt u W r R' (λ_=>R'.m)/\KnAt W u R'/\RunLe W j R'/\Stch W (Ym W.fer 2) (strM W.ins ((l.map (·.1)).take j)) R'/\OffR M8 u r R R'/\(∀y∈R'.bs,y.A.ws.length<=j)/\Z=[wc (.frl (U.map MV.int)),wc (.int W.w),wc (.ref pi),wc (.ref pf),wc W.mv,wc (.ref r),wc (.ref p),v7,v8,v9,g,L]:=⟨_,λ_ _ _=>Yd⟩;erw[⟨by lia,by lia,J,(hJ _ _ _).mpr (ex6 R _ _ _ _ _ ⟨hR8,K8,Le5,St5,λa o e n=>⟨e,n⟩,l1,rfl⟩),λj Z u h=>trivial,?_,?_⟩]
 .rintro j y Z M9 hy h;erw[ee6 ((hJ _ _ _).mp h) λR1 v7 v8 v9 g L h=>?_];have⟨hR,K,Le,St,O,b1,rfl⟩:=h;have⟨hj,rfl⟩:=Vt hy;have⟨I,hIm,en⟩:=ro _ (XS hj);have ht:strM W.ins ((l.map (·.1)).take (j+1))=YH W.ins (strM W.ins ((l.map (·.1)).take j)) I.name:=by
   unfold strM;rw[Zp,Xe,X6 hj,AS,<-en];rfl
  have hx:atI (l.map rgM) (0+(j:Nat))=wc (rgM l[j]):=by rw[Um];erw[Yl (by rw[Xe,X6 hj];rfl)]
  generalize l[j]=x at*;have⟨i,hi⟩:=UJ hIm;erw[ee4 (hR.isl hi) λn1' a1 kv1 d1 h=>?_];have⟨E,ha1,hk1,_,_⟩:=h;have ob:=hR.ob;have e1:=(O _ _ hp8 n2).1;delta OB
  simp![ob,runO,valM,e1,hx,en]
  erw[ex10 r W R1 i I x.2 n1' _ a1 kv1 ⟨rfl,G,hR,hi,λy hy=>Xv (b1 y hy) (by lia),E,rfl,ha1,hk1,λbs R2 M10 v pv S k2 t1 t2 t3=>?_⟩]
  have bl:bs.length=W.fer.length:=by rw[<-t3.bs];erw[S.bl]
  have⟨K2,to⟩:=K.ring G hR hi E rfl ha1 hk1 bl k2 t1 t2 t3;have b2:∀y∈R2.bs,y.A.ws.length<=j+1:=by
   rw[t3.bs];erw[t1.len bl hR.bl (λj hj=>by rw[ZC (by rw[bl];erw[hj]),ZC (by rw[hR.bl];erw[hj])]) b1]
  have Le2:=Le.ring G hR K hi E (to.imp_left And.left);have St2:Stch W (Ym W.fer 2) (strM W.ins ((l.map (·.1)).take (j+1))) R2:=by rw[ht];erw[St.ring (λk cnt B=>B.ring G hR K hi E t3.bs bl t1 to) λk lo hl=>Blk.start G S K2 lo (by have:=(AC W.fer 2).1;lia) hl]
  have O2:=O.kept k2;clear O Le K hR ob k2 t1 t2 t3 to b1 E ha1 hk1 e1 hx ht St h hy;have fin:∀u v8 v9 g L,SameM M10 u->J (j+1) [wc (.frl (U.map MV.int)),wc (.int W.w),wc (.ref pi),wc (.ref pf),wc W.mv,wc (.ref r),wc (.ref p),wc (.int (0+(j:Nat))),v8,v9,g,L] u:=λu _ _ _ _ s=>(hJ _ _ _).mpr (ex6 R2 _ _ _ _ _ ⟨S.keep s,K2.move λa _=>s a,Le2,St2,O2.keep s,b2,rfl⟩);have e1:=(O2 _ _ hp8 n2).1;have e2:=(O2 _ _ q8 n1).1
  try walk_at "s"
  delta OA
  simp![e1,X5]
  erw[(λX=>XU (λ_=>X) λ_=>XU (λ_=>X) λ_=>fin _ _ _ _ _ (SameM.refl _)) ?_];delta Oz;simp!;erw[Jb (l.take (j+1)) rgM (λx=>.str x.1) ?_ ?_ hΦ λD M11 hD s11 hd=>?_]
  .simp![e1]
   intro p0 hp0;have ec:cutM (l.map rgM) we (wc (0+(j:Nat)+1))=(l.take (j+1)).map rgM:=by rw[Um,AX];erw[_fG _ (j+1)]
   rw[ec];erw[⟨rfl,by rw[Yf];lia,Xb,SameM.new hp0 _⟩]
  .intro x hx u s;simp only[sCm,Xt,Yb,YK,Yr,Yz,Yk]
   simp![rgM]
   erw[λ_ _ h=>h]
  have s11:SameM M10 M11:=s11;erw[ex3 W D ((l.map (·.1)).take (j+1)) ⟨rfl,G,by rw[hd,<-AX,XZ];rfl,by rw[Yf];lia,λM12 l1 l2 s12 c1 c2=>?_⟩]
  have s02:=s11.trans s12;have⟨vs1,hv1,c1⟩:=c1;have⟨vs2,hv2,c2⟩:=c2;have el:((l.map (·.1)).take (j+1)).length=j+1:=by rw[Yf,X5];lia
  rw[el]at c2;have le:=CM W.ins ((l.map (·.1)).take (j+1)) (0,W.ins);rw[el]at le;have le:(strM W.ins ((l.map (·.1)).take (j+1))).1<=0+(j+1):=le;have Ge:=St2.ge;have ql:=Xv (Nat.div_le_self (strM W.ins ((l.map (·.1)).take (j+1))).1 (Ym W.fer 2)) le;generalize(strM W.ins ((l.map (·.1)).take (j+1))).1/Ym W.fer 2=e at*;have e3:=s02 _ _ e2
  try walk_at "s"
  delta Oy
  simp![e3]
  obtain⟨J2,H⟩:∃J:Nat->Sm->MH->Prop,∀i Z u,J i Z u↔∃(g L:Option MV),u=M12/\Z=[wc (.frl (U.map MV.int)),wc (.int W.w),wc (.ref pi),wc (.ref pf),wc W.mv,wc (.ref r),wc (.ref p),wc (.int (0+(j:Nat))),wc (.ref l1),wc (.ref l2),g,L]:=⟨_,λ_ _ _=>Yd⟩;erw[⟨J2,(H _ _ _).mpr ⟨_,_,rfl,rfl⟩,λi Z u h=>?_,?_,?_⟩]
  .have⟨_,_,rfl,_⟩:=(H _ _ _).mp h;erw[e3]
  .rintro k y Z u hy h;have⟨g,L,rfl,rfl⟩:=(H _ _ _).mp h;have hy:ys[k]?=wc y:=hy;obtain⟨Ik,m⟩:∃I,W.isl[k]?=wc I:=⟨_,X6 (by rw[<-yl];erw[(Xm.mp hy).1])⟩
   have⟨xs,rfl⟩:=hys _ _ _ m hy;have hR3:=S.keep s02;have ob:=hR3.ob;erw[ee4 (S.isl m) λ_ _ _ d h=>?_];have⟨_,_,_,_,hd⟩:=h;have u1:=Le2 k Ik d m hd;have u2:=Ge k Ik d m hd;have u3:=QO W k (j+1) (show e<=j+1 by lia)
   have z1:=Yv G.in_nd (Y5 m) (c1 k Ik m);have z2:=Yv G.in_nd (Y5 m) (c2 k Ik m);delta Ox
   simp![ob,runO,valM]
   erw[ex7 r W R2 _ k d Ik ⟨rfl,G,hR3,m,hd,?_⟩]
   try walk_at "s"
   delta Ow
   simp![hv1]
   erw[⟨_,z1,?_⟩];simp!;erw[XU (λc=>by lia) λ_=>?_]
   simp![hv2]
   erw[⟨_,z2,?_⟩];simp!;erw[XU (λc=>by lia) λ_=>?_]
   simp![hv1]
   erw[⟨_,z1,?_⟩]
   simp![hv2]
   erw[⟨_,z2,?_⟩];simp!;erw[XU (λc=>by lia) λ_=>?_]
   erw[(H _ _ _).mpr ⟨_,_,rfl,rfl⟩]
  .rintro Z u h;have⟨_,_,rfl,rfl⟩:=(H _ _ _).mp h;erw[fin _ _ _ _ _ s02]
 .rintro Z M9 h;erw[ee6 ((hJ _ _ _).mp h) λR1 v7 v8 v9 g L h=>?_];have⟨_,_,_,_,_,_,rfl⟩:=h;delta Ov;simp!;erw[q _]
end
def all_mk{l:Da}{w:Xl}{K:X4}{h:Heap}{u:Str->Option X0}{c:Addr}(X:K.In h)(G:h.Ns Xp u)(y:u "law"=wc (.ref c)){q r p:Addr}(M:TxM K q r p)(F:TxF K){N O P R U W Y Z A z m:Tok}(g1:XC K Xp "MOST_WIDTH"=wc (wc (.int 64 N)))(g2:XC K Xp "MOST_LETTERS"=wc (wc (.int 8 O)))(g3:XC K Xp "MOST_ISLANDS"=wc (wc (.int 5 P)))(g4:XC K Xp "MOST_FERRIES"=wc (wc (.int 6 R)))(g5:XC K Xp "MOST_VARS"=wc (wc (.int 6 U)))(g6:XC K Xp "MOST_STEPS"=wc (wc (.int 12 W)))(g7:XC K Xp "MOST_PARTS"=wc (wc (.int 30 Y)))(g8:XC K Xp "MOST_DEPTH"=wc (wc (.int 8 Z)))(g9:XC K Xp "MOST_K"=wc (wc (.int 3 A)))(g10:XC K Xp "MOST_STAGES"=wc (wc (.int 3 z)))(g11:XC K Xp "BITS_A_FERRY"=wc (wc (.int 8 m))):
  ∃L:Zk,(∀(s:X2)(v:X0),BindsTo s L ⟨[v],[]⟩ [("script",v)])/\∀j:Heap,K.In j->j.Ns Xp u->FnOk l.prog w K u j CX0 60 c L ["script"] (BY K):=by
 have T:Txt K u ⟨q,r,p⟩:={toTxF:=F,toTxM:=M,g:=(λx v e=>by cases v with|none=>erw[PySem.W.mg_none_of X G e]|some v=>erw[B7 X G e]),gl:=(fMc ⟨_,g1⟩ (fMc ⟨_,g2⟩ (fMc ⟨_,g3⟩ (fMc ⟨_,g4⟩ (fMc ⟨_,g5⟩ (fMc ⟨_,g6⟩ (fMc ⟨_,g7⟩ (fMc ⟨_,g8⟩ (fMc ⟨_,g9⟩ (fMc ⟨_,g10⟩ (fMc ⟨_,g11⟩ nl0)))))))))))}
 have⟨f,d,H⟩:=F.bU;have e:=y.symm.trans (B7 X G H.a);cases e;erw[⟨d,H.bt λ_ _ _ _ _ _ _=>rfl,λj _ _=>_lY (FnOk.mono (_oh T H) (by decide))⟩]
def walk{l:Da}{q:Xr}{y:List Str}{e:(Str->Option X0)->Heap->Prop}{c:Xl->Heap->Prop}{d:DefRec}{K:Params->X4}(L:l.most=wc 63)(g:d.params.defaults=[])
  (N:∀(w:Xl)(h:Heap),c w h->(K w.params).In h)
  (F:∀(w:Xl)(m:Str->Option X0)(r:Addr)(h:Heap),(K w.params).In h->h.Ns Xp m->m d.name=wc (.ref r)->
   ∃p:Zk,(∀(s:X2)(u:X0),BindsTo s p ⟨[u],[]⟩ [("script",u)])/\∀j:Heap,(K w.params).In j->j.Ns Xp m->FnOk l.prog w (K w.params) m j CX0 60 r p ["script"] (BY (K w.params))):
  PySem.W.WalkO q y e c l.row.toRowW d [] (λf O=>PySem.call f O):=
 L2.walk_of (n:=63) (k:=60) (x:="script") (A:=fun _=>CX0) (B:=fun w=>BY (K w.params)) L (by decide) g ⟨rfl,by decide,by decide⟩ N F (fun _ H a P R T U=>⟨a,P,rfl,_oN T U,R,fun _=>rfl⟩) fun _ _ _ _ _ z=>z
end My
structure PySem.W.Fast:Prop where
 (tw2666138674478478229 tw10381011780914621195 tw11047496801616438531 tw9014849349413898174 tw14569337874566277410 tw10863102042783504864 tw7590151550442420678 tw9712489755340191746 tw13461705999662920949 tw2567089261684558230 tw5628364884011652151 tw16056003319472545922 tw17022658587016226323 tw7792521394795947314 tw16019307516031594496 tw14151713126701244197 tw14866698751501740865 tw14596999354070910319 tw1459180133042326938 tw8049275576559335818 tw2158115594770409474 tw5437564467960074122 tw5777067141561361064 tw13267725150031045202 tw5744072116398784427 tw3139554519507207415 tw7514922070986612832 tw3709011540998522477 tw17044778380828999288 tw1500136768664248923 tw4994191477895234396 tw15194894323897526838 tw15641491773442366498 tw438533023486974363 tw12410684060957978408 tw17467291953326108851 tw8742909554228726877 tw6024866641654793062 tw11060699222902931174 tw12264739719095291275 tw5480534017164919890 tw9775660111951813002 tw4590722338058610678 tw13138431903753882752 tw15208924788161933692 tw1504471363337288240 tw7436173236599423160 tw4061919416310244415 tw16474416778437797655 tw16328074095311814191 tw5619433692978365559 tw1094119327902231962 tw4017663567859629261 tw13837647663272868037 tw1978704747013257540 tw6465301670642628351 tw9939735093369871260 tw254627975743043291 tw15230003524866842824 tw8893515543333400028 tw15288716893173515323 tw72442127344516969 tw13131659700952322873 tw6310478746490944481 tw4874738635187337858 tw17321048435539664735 tw7407464853287610715 tw10453890831878539289 tw10037905958612234390 tw6063735150717653592 tw1392073635418978549 tw10327058801268351944 tw2672317126883460039 tw9728575814150785990 tw16731963928079723494 tw4912121402466930541 tw14250713778294431465 tw4771064734717906989 tw4195426742260632092 tw9775639510103996652 tw8075448364832713086 tw13092630823757928 tw10337683917063851751 tw2038905839926248802 tw14897688102914081827 tw9054690476715801498 tw2266102777931050844 tw14416579415827431427 tw15381421142751631603 tw7458954123102771633 tw1003483947244012774 tw7405586630989775868 tw12339589996964487903 tw17005667925780615241 tw5969331580582693259 tw3298088440493120320 tw10352975985614046286 tw10672451870812132182 tw18353144172806003879 tw4823520138463344886 tw10671641912692626998 tw1223959322298243572 tw5453835581700584224 tw381996301299667775 tw9486849789617079483 tw10408829365325911231 tw16230392526804888778 tw7827785358662561801 tw7557306215410006208 tw12382757799752227752 tw4394748329884917818 tw9017772999854491572 tw2677668636822893558 tw15287814595070440554 tw6267406049144663285 tw1358998898708976024 tw6413837471434421179 tw18011902556353541377 tw5427626747909998263 tw18043453456563321789 tw821947633305824122 tw9281830413341032863 tw9587954420989935734 tw12339292965815974935 tw126072110380473356 tw2284166387222922385 tw9772085635025267084 tw9664926096390845488 tw8383066387049578104 tw11711261111942433547 tw11499944343952596237 tw289011174425734317 tw16432101226798004493 tw17346005616053295583 tw1864412740007517135 tw16379506207371056357 tw3872946747219309530 tw17349287071332992854 tw8815016911157517524 tw1062422494894909049 tw7068447097155513674 tw6631986018615650168 tw7441861620206567075 tw166672485553899615 tw16815648377383261865 tw10392963836917304996 tw11369735789500824953 tw2580307723523601668 tw6062630148686442961 tw12044917052712088217 tw12619843663468342771 tw5386792497401549654 tw17141066533566912766 tw384390141075485649 tw13081174862160734999 tw7787154467295820743 tw11121661989555228307 tw6744899103081215697 tw7425720110965450043 tw16331044581919938020 tw14012948758352227323 tw4179386727025620990 tw18361303039468796039 tw2958245937646278281 tw2396313895167919058 tw7673819358578656864 tw9667392338348907530 tw4611432519037041512 tw12799906783024380811 tw16099339719656822169 tw3735534654439939856 tw18121247759504100660 tw11496301467331166434 tw10077309224513028731 tw1253803259859624279 tw5059330871905887146 tw14778122187831481223 tw11513248390640724484 tw8050608384491252494 tw1476022707444229001 tw12868504020246817398 tw9100318364898301751 tw7626405100369634423 tw13071398967818570666 tw8344946009454957981 tw16723750840755769051 tw4545493546682688640 tw3605348712597230645 tw16411816560907517630 tw8887769588081105150 tw6305368609040463515 tw4513359596245577684 tw3682483364349436697 tw12675084548220719314 tw10803687651701968378 tw824685009757193386 tw6234364436275411337 tw11825941435189452525 tw9582742620934926766 tw4842182021762019021 tw8025801880000260565 tw14390553452976068403 tw10121868740712412812 tw12485064713765011030 tw6277098235843400963 tw14151389028071988048 tw11080951569672165122 tw8542054633640864736 tw4619610666738279953 tw17537862643928216021 tw14225135391697056186 tw8454509531710538165 tw2010518099526559422 tw7679522490070323344 tw647801986415806025 tw10162787935979390396 tw18007367212432938644 tw4504005899629425654 tw4323609248820835788 tw9811215252589005967 tw4089446912560859957 tw3404087983557558671 tw4510889952755155548 tw9264803588413282413 tw3156606374727521868 tw13679902746755208646 tw12776617197871246904 tw15851142403674115194 tw5805061667945398049 tw3476631969765639600 tw18424260743666473177 tw4019134575357122155 tw6578844407459100514 tw4747604209705089244 tw235828449547717784 tw16293553236987584939 tw1187406041222843921 tw6433626484542378975 tw5771673655507366564 tw17510656724922307336 tw16862388961189929003 tw2951702771191676032 tw17055664624042671362 tw2366010501825095154 tw12198961849141507862 tw215573427117648501 tw13277445985649122377 tw10667555957182503143 tw6266335194918943056 tw1744671339722372994 tw6016352632324826881 tw900144227966048188 tw2508585191154012990 tw10688232768337118050 tw5951813657670092994 tw4942905212163746922 tw17432153094026847266 tw9369732617404029620 tw10287495316575014171 tw17467437956293356268 tw5371457851922840217 tw396133581672184353 tw17269521948567430949 tw15479785769730274451 tw10974581119721126932 tw16188605373737372617 tw10911173147708763050 tw2168920683611577218 tw12531529441919041305 tw10360948916564992041 tw4343691347801302685 tw10984327649114219861 tw14810422619183488689 tw15083324719960656561 tw2352920510018590252 tw3205042692030593589 tw203186122715114717 tw5422889288425267646 tw393446778124700723 tw17049974521415259413 tw3454590007638561256 tw14809901465683543212 tw2809638416346804066 tw15136164381581677387 tw4642554727519016739 tw13356133512361675517 tw5191412683906596671 tw3392423643783978182 tw9025342300325283922 tw2656380919667679927 tw16499969886167269416 tw17337389708352875971 tw16450232270937091045 tw8594497244512388431 tw8412127558049325502 tw14849309910591339669 tw13944826510871085354 tw7006227685764154910 tw5585127227929047357 tw3443134861248955352 tw1608082350571423854 tw15722040262549917258 tw11915670266270354525 tw4560849607198901995 tw17559164851186455583 tw15013911346349867791 tw13238111720378243527 tw10282374375245517317 tw6804386974261454829 tw562908184443127889 tw15266507506976626251 tw11556546286367249286 tw16544002918240620048 tw11719146442577942491 tw17464439368132648511 tw17225869652909891899 tw16062363982087019151 tw15397026085269386806 tw6871328954509050220 tw16120061909911799771 tw14680055694287155176 tw11679760994901394468 tw11393959535279053159 tw14242089251975798200 tw15091098845011533168 tw16451348559804262902 tw5901166681299693135 tw16408679549185182073 tw7946135034351036168 tw7227340298213294237 tw546501163822099342 tw478954811089870083 tw14143216753739565968 tw13857021166867891849 tw5352990533292059261 tw18425985129995518040 tw15902869451654587640 tw7959047822792815962 tw12022554846710375778 tw8483685122391955790 tw16880437032179458479 tw16087027031595055571 tw4045368254404131623 tw17749640871630260579 tw15761171803387148343 tw16500132844417604387 tw4467058518720017795 tw12090919324552000230 tw11375892546033462542 tw9021824681954221045 tw14108191027601720692 tw12040688469647599438 tw12085067944441124303 tw11304581387026123671 tw15193273776948928493 tw14801144413542721364 tw14992399906062843099 tw13983537889794545043 tw17917445887335854452 tw16483145576794486929 tw15029195496057497841 tw2008830320568885009 tw9562734075927169014 tw7188414484034398632 tw15239817849530044193 tw13561895063039132455 tw11544767220901190477 tw3133126411691666064 tw1080585893686446256 tw9494451424485215150 tw10244087585372214752 tw8596399732532400372 tw17676869201230770642 tw6444858306448085155 tw9246279714280353750 tw15356922079826746001 tw8160550142017452826 tw4582932459776702559 tw17436899308343108469 tw2109497125879554841 tw4710267545460446132 tw17058792389074202014 tw715157658248597542 tw11265055044070023005 tw9730327402786457795 tw4909944990698469638 tw4209131126383575462 tw3074854092115836971 tw8086075947423858782 tw16744990001858253038 tw15333729454403416506 tw12275153476050791239 tw9829754960096029779 tw12471983447629727756 tw10797617440310157542 tw947250758753593374 tw9185146528043806859 tw5532890433456283459 tw2007535180632388406 tw17181013322150387368 tw17183091650357947137 tw946999328102785460 tw16507581327265305915 tw3980539926139772090 tw10399512977275424680 tw2961143754249871597 tw10406252248648292712 tw6719965605792252654 tw11534408317375151286 tw5878026505829384615 tw378927172902221571 tw3560908413711752839 tw17581214302410138495 tw15169480087799603371 tw15034496716813222176 tw12307565251895083350 tw11742087169897053159 tw11521586731570496791 tw11308331267762188796 tw16124158934114911594 tw12627743047493812662 tw4680128563219487475 tw395461463713002038 tw3026745271068670036 tw5322722226513778320 tw8334561340184778121 tw3949380212138466585 tw17079493955956438526 tw17878287243054075200 tw5002275432770158889 tw18128734955647780253 tw15922823121247027270 tw13184437154498939195 tw285678694098567775 tw9485057187570577449 tw6209833890993090223 tw5387609919658647245 tw14891007541599347948 tw11910976479471877279 tw4214493140905963614 tw7923385532986460202 tw8606061034887466251 tw18044689230635557326 tw5698570811185602113 tw12069640058416925719 tw7312590973402019550 tw7084584208627026011 tw15440393715791294059 tw12295335155332607032 tw7535021243821879289 tw2528414591026528666 tw16175729917621324178 tw15529342380459488923 tw11732859913784728811 tw9325614545499616559 tw15204717545583441463 tw11690996379553277656 tw11337767491940069245 tw15023451163463639685 tw8798276686790527396 tw7334625606907261329 tw5489718957157201272 tw2735280637630544341 tw2406869330066833688 tw17454394632906067521 tw17136427238425039089 tw16643890761465269760 tw162770777919450577 tw14480196522152779144 tw1391530224285621078 tw11756820411855395781 tw899985226434159705 tw8566756913675048317 tw2951807335615234978 tw261556659228039419 tw2573089607477095941 tw2409146277024164203 tw17889477322167810519 tw1786685960734516889 tw15065864451041671640 tw1498060643246038804 tw14454734645638458691 tw10820388582357151787 tw10670914972867233253 tw815662099890133519 tw5875983732765603628 tw2997187933593554095 tw2898267975717208577 tw17990317921305344812 tw15840018471824504252 tw12932551034285595526 tw1276681731037352566 tw7343385884322745466 tw7231433140007697007 tw7135521872905922435 tw6254092969123717218 tw5289418303133491492 tw4405808750921160306 tw436742596864875332 tw1807636921170838774 tw15100249967650942838 tw12927190968034183351 tw10652627205389934080 tw1006238652221269652 tw9942294615772593716 tw9933672204674463351 tw9907983676676447592 tw9780572642730573316 tw9689538832577167617 tw9434665705556430907 tw9372642509886742906 tw9360619316107857879 tw9315679342628249221 tw9250063071462289035 tw8991845601530027706 tw8966062339401493736 tw8469829112476065374 tw8443145837892781897 tw8433721339823921692 tw8379989904706070477 tw8306882030630816402 tw8216172224984093085 tw808573347760058085 tw806073222897011271 tw8015929857381114523 tw7956293239546324503 tw792845650496760962 tw7922596658219935443 tw7882656395117151096 tw782865739126973054 tw7814137733722292340 tw7682486910325133166 tw7636515192411896902 tw7475665365112514380 tw7353052116814689762 tw7290308665782572226 tw7269468014759264490 tw7247872090981291761 tw7182563310517803856 tw7020472779518405026 tw6904352335525743032 tw6743807451105856151 tw6731565193990373836 tw6715615974487525194 tw6642640493473727680 tw6598997621857575391 tw6596779674749753676 tw6538898666201506042 tw64289001426190852 tw6413317789046915111 tw6371110992679980440 tw6348605145465044149 tw6272845571152760238 tw6184653253373504427 tw5982043847249266318 tw5879892340694975342 tw5716315125160298476 tw5594732378354788551 tw5485710308893979901 tw5383515631618858690 tw5233168155352664561 tw5052226665891858204 tw4609444317549296305 tw4299062405316627592 tw4267125307866366077 tw4238277112622755648 tw4115471980834232702 tw4084465948963949623 tw4040201674464146048 tw4004691797639031609 tw391496745957916216 tw3801882405638488740 tw3724303273974786582 tw3704493051994949645 tw3484372852345551224 tw31739526428467093 tw2927605203477058253 tw2726545692073166615 tw2567966712109127462 tw2553485263515579427 tw239926610128704544 tw2303054194568219640 tw2049192984659757263 tw1988689272960365515 tw1981442006012198283 tw18372713100175349934 tw1836523934626782171 tw18281353584609105147 tw18274972485396339220 tw18243006312940762181 tw17957029099343443574 tw17947907778377177787 tw17941109489241400085 tw17791670981365541995 tw17722082062837345423 tw17710375025080431525 tw17694036652623753514 tw17682415113592597337 tw17545700183618447998 tw17461538771397197688 tw17436127530852307587 tw17293543393807943138 tw1727409960600750211 tw17177146033905380001 tw16821923885366488262 tw1681762183491490540 tw1679131036831092356 tw16715749284151835264 tw16662049582513764619 tw16598766960642396349 tw1654283202130768101 tw16296182469201835406 tw16285026363731889284 tw16260423939263156253 tw1606673262997706182 tw16027735607912791330 tw15843597457996296167 tw15765243508020878059 tw15256415045522728186 tw15091013371104831488 tw14946806920721421055 tw14839745961685041017 tw14711258662258670888 tw14659319539903283593 tw1449138177065114755 tw14429932572517568519 tw14319807950165365393 tw14315389778252038632 tw1421447051699105813 tw14097170273380580618 tw13971006548369942944 tw13938599674735433475 tw13684162418639784272 tw13663838395032973132 tw1346875197832642445 tw13135411631546109533 tw13091331062318959126 tw13055012029663703399 tw12920764156927812264 tw12910386825317565341 tw12763391141214531904 tw12740405720693188746 tw1264487054275801435 tw12602385781949665896 tw12518616850535137519 tw12499830987174218234 tw12318018379387271295 tw12307101859743872008 tw1228332009699043481 tw12164884549614265137 tw12131880754312620083 tw12126628892635038297 tw12050382432644700985 tw11938256504661301963 tw11846274895103241519 tw11831498541273310070 tw11794675242852575768 tw1166379225039625611 tw11554209694615014357 tw11378901750788126687 tw11354444328033837271 tw11333991626132751406 tw11086668541124931113 tw11083685072451516197 tw10990688570760990141 tw10919691624982771143 tw10839473629384803630 tw10767655652665068389 tw10695410750520094473 tw10676794941672672297 tw10596292136611475222 tw10586570349318059060 tw10472646906248874163 tw10456260475061464089 tw10436168876136935963 tw10393465348249870696 tw10259695200730225529 tw10257865116210759891 tw10159570592060409054 tw10060689905332990281:True)
open PySem PySem.W PyProof.Rows
local macro_rules | `(tactic| walk_at "q_fn") => `(tactic| (refine' ⟨_, _, ?a, L2.fun_mk ?l ?c ?k⟩; (case a => k_is); (case l => k_is); (case c => k_is); (case k => k_is)))
local macro_rules | `(tactic| walk_at "q_mt") => `(tactic| (refine' ⟨_, _, L2.mt_mk ?a ?i ?l ?c ?k⟩; (case a => k_is); (case i => k_is); (case l => k_is); (case c => k_is); (case k => k_is)))
local macro_rules | `(tactic| walk_at "q_cl") => `(tactic| (refine' ⟨⟨?a, ?b, ?c, ?d⟩, ?e, ?f⟩; (case a => k_is); (case b => k_is); (case c => k_is); (case d => k_is); (case e => k_is); (case f => k_is)))
local macro_rules | `(tactic| walk_at "q_z") => `(tactic| (refine' L2.fMc ?a ?b; (case a => k_is)))
set_option maxRecDepth 100000 in
set_option maxHeartbeats 0 in
theorem PySem.Challenge.cw_bellferry_k64_whole_between_the_bounds_holds : PySem.Challenge.rw_bellferry_k64_whole_between_the_bounds.Holds := by
 w_on;o_law;k_head;(case hw=>w_witness2)
 k_fill
 refine My.walk (l:=PySem.Challenge.rw_bellferry_k64_whole_between_the_bounds) rfl rfl (λw h Y=>PySem.W.kIn_of Y) ?F
 case F=>
  intro w y z h u G j;refine' My.all_mk u G j ?zM ?zF ?g1 ?g2 ?g3 ?g4 ?g5 ?g6 ?g7 ?g8 ?g9 ?g10 ?g11
  case zM=>
   constructor
   iterate 3 k_is
   iterate 3 walk_at "q_cl"
   iterate 15 k_is
   iterate 13 walk_at "q_mt"
  case zF=>
   constructor
   iterate 63 walk_at "q_fn"
   .iterate 13 walk_at "q_z"
    exact λ_ h=>nomatch h
  case g1|g2|g3|g4|g5|g6|g7|g8|g9|g10|g11=>k_is
