import PyProof.Rows.All
import Wide.All
import OpenK.AllK
import Wide.FinOn
import Lean
import PyProof.EqAt
import PyProof.EqKinds
import PyProof.TupleCall
import PySem.Challenge.RW_bellferry_k72_whole_whatever_rings_first
import PyProof.Rows.SetFrom
import PyProof.FactsAll.set_1
import PyProof.CollectWalk
import PyProof.Rows.SortStr
import PyProof.IsiH_list
import PyProof.ConsumeWalk
import PyProof.StrWalks
import PyProof.IsiH_tuple
import PyProof.SliceStr2
import PyProof.ListRange
import PyProof.Rows.Range3
import PyProof.Rows.CallKwBuiltin
import PyProof.WalkInts
import PyProof.NeKinds
import PyProof.FString5
set_option Elab.async false
set_option tactic.hygienic false
set_option linter.all false
set_option maxRecDepth 100000
set_option maxHeartbeats 8000000
set_option genSizeOf false
set_option genSizeOfSpec false
noncomputable section
set_option bootstrap.genMatcherCode false
set_option compiler.extract_closed false
open PySem renaming Value->X0,World->Xm,Program->Xw,sysModules->YO,mainGlobals->Xp,bootBuiltins->YB,Around->Xz,Shared->X2,wpAny->X3,model->X6,backTo->XZ,starEach->XA,wpAny_mono->Zw,holding->Z0,wpAny_truthy_bool->Zx,swapsWith->Zy,assignEach->Zz,wpAny_bind->X1,wpAny_holding->YH,wpAny_passesOwn->UP,letOwnedTupleGo->BS,wpAny_pure->X7,wpAny_load->Vk,rawInt->Y4,foldedSetIterable->BU,Operator->Um,binaryOp->Ym,compareOp->Y1,codeAny->YQ,attributeBase->Uo,FuncData->Xb,codeAny_mono->Vl,wpAny_Call_Name_kw->Up,backToKw->ZY,keywordEach->ZZ,Keyword->Z1,NameKind->Z2,wpAny_callSpecial?_slot->BV,wpAny_call_entry->Zd,wpAny_typeOf->ZA,wpAny_newObj_type->U0,typeLookup->Vm,sliceBounds->UQ,call_meets->Ur,valueAt->YW,tupleKind_room_in1->BW,wpAny_richCompare_same_room->Vn,wpAny_loadPart'->Yb,plainId_quiet->Ze,codeAny_builtin->Z3,codeAny_call_builtin->Wo,wpAny_dictEntries->BX,wpAny_notOrdered_dict->BY,wpAny_isInstance->Us,SetTable->Ys,wpAny_setState_of->Wp,wpAny_rule->Ut,wpAny_askSetting->Wq,wpAny_pyIter_list->BZ,typeLookup_type->Vo,builtinLookup_eq_fast->Vp,wpAny_setField->Vq,ownMembersOf->YR,getattributeRaised->C0
open List renaming getElem?_eq_getElem->X8,length_map->Xd,mem_of_getElem?->Xo,getElem?_eq_some_iff->XF,replicate->Xj,getElem?_map->Xq,mem_cons->Xk,mem_cons_of_mem->XM,map_cons->Xx,not_mem_nil->XJ,size_toArray->XR,getD_eq_getElem?_getD->Yf,getElem_of_mem->Y5,range->Xt,getElem_mem->XU,mem_singleton->Y6,mem_cons_self->Ya,map_append->Y0,mem_map->XQ,mem_append_right->YC,getD_cons_succ->Yn,getD_cons_zero->Yo,nil_append->Y7,length_append->Yt,getElem?_append_right->Zf,cons_append->Yg,mem_append->Yh,getElem?_append_left->ZB,nodup_cons->Yp,length_replicate->Z4,length_cons->YD,replicate_succ->Z5,map_nil->Yc,getElem?_eq_none->ZC,map_map->Yi,length_take->Z6,nodup_append->Zg,eq_of_mem_replicate->UR,lookup_cons->Zh,flatten_cons->ZD,mem_range->Z7,take_add_one->U1,length_range->Uu,eq_nil_of_length_eq_zero->C1,mem_flatMap->Uv,any_cons->ZE,length_set->Uw,take_of_length_le->Wr,length_dropLast->Ws,append_assoc->Vr,getElem?_set->Vs,getElem?_range->Wt,mem_flatten->Vt,map_replicate->Wu,lookup->U2,append_nil->Vu,foldl_cons->Vv,find?_cons->Vw,all_cons->US,ext_getElem?->Wv,getElem?_set_ne->C2,dropLast_subset->C3,mem_or_eq_of_mem_set->DM,length_eq_zero_iff->DO,filter_append->C4,getElem?_set_self->DP,reverse_cons->C5,getElem?_inj->C6,getElem_inj->C7,length_drop->C8,all_eq_true->C9,ext_getElem->Ca,take_append_of_le_length->HC,mem_append_left->DQ,filterMap_cons->DR,length_pos_iff->DS,range_succ->Cb,length_eraseIdx_of_lt->HD,pairwise_cons->DT,map_set->Ww,getElem?_take->DU,getElem?_eq_none_iff->HE,foldl->Vx,foldl_append->DV,pairwise_map->DW,length->Wx,getElem?_replicate->HF,take_length->DX,getElem_map->DY,getElem_set->DZ,drop_eq_nil_of_le->HG,mem_filter->E1,of_mem_zip->E2,map_id'->Cc,getD->Wy,map_take->E3
open PySem.W renaming Frag->X4,nsIn->Xy,findIn->XV,mg_none_of->YX,mg_of->Yu,keepIn->YI,kia_one->Zi,kia_tup->Zj,emptyDict->U3,instObj->Ux,plainGet->UT,fnOf->ZF,hasDictIn->Vy,kitOne->UU,plainOver->Wz,makesIn->WB,kitx_list->Cd,kitx_dict->Ce,plainGet_of->E4,callWith_K->E5,lookIn->Cf,codeIn->Cg,kitAny->Ch,methodObj->E6,cellsFrom_some->HH,isFn->Ci,takerIn->E7,methodCall_KW->HI,OpenLaw->E8
open PySem.Heap renaming get?_push_of_some->Xr,get?_push_size->XS,lt_size->Xv,get?_update_self->UV,size_push->Zk,get?_update_other->Vz,SameBut->U4,ExtBut->Cj
open Nat renaming le_refl->Xe,ne_of_lt->XB,lt_of_lt_of_le->Yv,le_trans->XY,two_pow_pos->Zl,zero_le->YS,lt_succ_of_lt->Uy,lt_irrefl->Uz,lt_succ_self->VA,le_of_lt->UA,le_succ->U5,pow_le_pow_right->Ck,ne_of_gt->UW,lt_trans->UX,lt_succ_iff_lt_or_eq->E9,not_lt_zero->Cm,le_of_eq->WC,lt_or_eq_of_le->Ea,mod_lt->VB
open Bool renaming false_ne_true->XD,and_eq_true->XX,false_eq_true->Yj,not_true->VC,false_and->WD,or_self->VD,eq_iff_iff->Cn,and_false->Co,not_false->Cp,true_and->Cq,or_eq_true->Eb,false_or->Ec
open PySem.Value renaming none->Xu,ref->Xn,type->XC,str->XE,bool->Y8,int->VE,float->Cr
open Array renaming length_toList->Yq,getElem?_eq_getElem->UY,getElem?_eq_none->Ed,getElem?_toList->HJ
open Option.some renaming inj->Y9,injEq->Cs
open Sum renaming inr->Xs,inl->UZ
open PySem.NameKind renaming free->Yk,cell->VF
open PySem.Around renaming under_plainId->Zm,under->Ee
open Int renaming toNat_natCast->YY,toNat_of_nonneg->U6,emod_lt_of_pos->U7,emod_nonneg->ZG,lt_of_lt_of_le->VG,le_refl->ZH,natCast_nonneg->WE,natCast_pow->WF,zero_add->WG,natCast_emod->Ef,sub_emod->Ct
open PySem.Str renaming ofString->Yd,empty->U8
open False renaming elim->Y2
open PyProof.Rows renaming slot_tuple_getitem->VH,callWith_type1->WH,callWith_builtin1->HK,bitAnd_pp->HL
open PySem.Heap.SameBut renaming update->U9
open Ne renaming symm->XT
open True renaming intro->YE
open PySem.Builtin.Tuple renaming tupleCompareSizes->Cu,tupleExact->Cv,tupleItemsOf->HM,tupleTooMany->HN,tupleIsExact->HP
open PySem.AutoSeq1 renaming wpAny_loadPart'->Cw,sub_tuple_tuple->HQ,sub_list_list->HR,idx_int->HS
open PySem renaming mem_of_lookup->VI,Within->Eg
open PySem.Builtin.Slice renaming slicePlaces->Cy,sliceAdjust->Eh,sliceApplied->HU
open PySem.Builtin.Dict renaming dictSlotArgs->Cz,updateFrom->CA,selfAndRest->HV,samePairs->HW
open PySem.F renaming slot_tuple_getattribute->CB,slot_list_getattribute->CC,slot_tuple_mul->CD,called_set->UB,args_tuple_add_2->HX,args_tuple_mul_2->HY,entry_tuple_add->HZ,slot_tuple_rmul->I0,entry_tuple_mul->Ia,slot_tuple_add->Ib,sub_dict_dict->Ic,slot_int_rmul->Ie,slot_dict_eq->Ig,slot_dict_ne->Ih,slot_list_eq->Ei,slot_list_ne->Ej
open PySem.Builtin.List renaming listTooLong->CF,listExtendWith->Ii,listSameRef->Ij
open Iff renaming rfl->Ye
open PySem.SetTable renaming grown->V0,below->CG
open PySem.Calls renaming spliced_cons->WI,spliced_nil->WJ,Name_function_global->Ik,callWith_builtin->Il
open PySem.Data renaming fields->Ua,seq->YT
open PySem.Manifest renaming find?->VJ
open PySem.Obj renaming mapSeq->Ub,data_mapFields->CH,isFreed_of_fields->Ek,cls_mapFields->El,mapFields->Em
open Option renaming map_eq_some_iff->En,map_some->CI,toList_some->Eo,isSome_map->Ep
open Sum.inr renaming inj->V1
open PySem.Shared renaming TypeIs->WK
open ForInStep renaming yield->CJ
open Nat.succ renaming inj->WL
open PySem.Builtin renaming bitAnd->CK,bitXor->CL
open PySem.Builtin.Frozenset renaming sizeOf->Im
open List.Pairwise renaming sublist->Io,imp->Ip
open PySem.SeqAt.EqAt renaming int_str->Iq,str_int->Ir
open PySem.ScopeKind renaming function->Iu
open PySem.SetTable.below renaming go->Iv
open Char renaming toNat->CM
open PySem.Heap.DictOf renaming new->Iw
namespace L2
open PySem PySem.Spec PyProof.Rows
theorem nl0 {j:Type _}{p:j->Prop}:∀x∈([]:List j),p x:=λ_ h=>nomatch h
theorem fMc{j:Type _}{p:j->Prop}{a:j}{l:List j}(h:p a/\∀x∈l,p x):∀x∈a::l,p x:=List.forall_mem_cons.2 h
noncomputable abbrev Key:=Sum Int Str
def VL:Key->X0->Bool
 |.inl k,v=>Value.isInt k v
 |.inr x,v=>Value.isStrOf x v
def keyH(w:Xm):Key->Int
 |.inl k=>hashInt k
 |.inr x=>hashStr w x
theorem Uc:∀{k:Key} {v:X0},VL k v=true->(∃i t,k=UZ i/\v=VE i t)\/(∃x t,k=Xs x/\v=XE x t)
 |.inl i,v,h=>by
  obtain⟨t,e⟩:=Value.isInt_shape (k:=i) (v:=v) h;exact .inl ⟨i,t,rfl,e⟩
 |.inr x,v,h=>by
  obtain⟨t,e⟩:=Value.isStrOf_shape (x:=x) (v:=v) h;exact .inr ⟨x,t,rfl,e⟩
theorem SU(i:Int)(t:Tok):VL (.inl i) (.int i t)=true:=by simp[VL,Value.isInt]
theorem SV(x:Str)(t:Tok):VL (.inr x) (.str x t)=true:=by simp[VL,Value.isStrOf]
theorem SW(a b:Int):decide ((UZ a:Key)=UZ b)=(a==b):=by
 by_cases e:a=b
 .subst e;simp
 .have h:¬(UZ a:Key)=UZ b:=λq=>e (Sum.inl.inj q);rw[decide_eq_false h];exact(beq_eq_false_iff_ne.mpr e).symm
theorem SX(a b:Str):decide ((Xs a:Key)=Xs b)=decide (a=b):=by
 by_cases e:a=b
 .subst e;simp
 .have h:¬(Xs a:Key)=Xs b:=λq=>e (V1 q);rw[decide_eq_false h,decide_eq_false e]
theorem SY(a:Int)(b:Str):decide ((UZ a:Key)=Xs b)=false:=decide_eq_false (λq=>nomatch q)
theorem SZ(a:Str)(b:Int):decide ((Xs a:Key)=UZ b)=false:=decide_eq_false (λq=>nomatch q)
def YJ(prog:Xw)(w:Xm):PySem.KeyKind prog w Key where
 is:=VL
 hash:=keyH w
 inj:=λv a b m z=>by
  rcases Uc m with⟨i,t,rfl,rfl⟩|⟨x,t,rfl,rfl⟩
  .rcases Uc z with⟨j,u,rfl,e⟩|⟨y,u,rfl,e⟩
   .injection e with e1 _;rw[e1]
   .exact nomatch e
  .rcases Uc z with⟨j,u,rfl,e⟩|⟨y,u,rfl,e⟩
   .exact nomatch e
   .injection e with e1 _;rw[e1]
 byValue:=λk v h=>by
  rcases Uc h with⟨i,t,rfl,rfl⟩|⟨x,t,rfl,rfl⟩<;>rfl
 pyHash:=λl h=>by
  rcases Uc l with⟨i,t,rfl,rfl⟩|⟨x,t,rfl,rfl⟩
  .exact wpAny_pyHash_int h
  .exact wpAny_pyHash_str h
 eqBool:=λg l h=>by
  rcases Uc g with⟨i,t,rfl,rfl⟩|⟨x,t,rfl,rfl⟩
  .rcases Uc l with⟨j,u,rfl,rfl⟩|⟨y,u,rfl,rfl⟩
   .rw[SW]at h;exact wpAny_eqBool_int h
   .rw[SY]at h;exact Iq i t y u _ _ _ _ h
  .rcases Uc l with⟨j,u,rfl,rfl⟩|⟨y,u,rfl,rfl⟩
   .rw[SZ]at h;exact Ir x t j u _ _ _ _ h
   .rw[SX]at h;exact wpAny_eqBool_str h
 «strs»:=λk x t v h=>by
  rcases Uc h with⟨i,u,rfl,e⟩|⟨y,u,rfl,e⟩
  .exact nomatch e
  .injection e with e1 _;subst e1;cases v<;>rfl
theorem T0(prog:Xw)(w:Xm)(i:Int)(t:Tok):(YJ prog w).is (.inl i) (.int i t)=true:=SU i t
theorem T1(prog:Xw)(w:Xm)(x:Str)(t:Tok):(YJ prog w).is (.inr x) (.str x t)=true:=SV x t
inductive V where
 |non|bl (b:Bool)|int (i:Int)|str (x:Str)|byt (b:Array UInt8)|flt (b:UInt64)|ref (a:Addr)|ty (n:String)
  deriving DecidableEq
noncomputable def RelV:V->X0->Prop
 |.non,u=>u=Xu
 |.bl b,u=>u=Y8 b
 |.int i,u=>∃t,u=VE i t
 |.str x,u=>∃t,u=XE x t
 |.byt b,u=>∃t,u=Value.bytes b t
 |.flt b,u=>∃t,u=Cr b t
 |.ref a,u=>u=Xn a
 |.ty n,u=>u=XC n
abbrev Vals:List V->List X0->Prop:=Paired RelV
theorem Vals.length(r:Vals xs us):xs.length=us.length:=Paired.length r
theorem Vals.get:∀{xs:List V} {us:List X0} {i:Nat} {x:V},Vals xs us->xs[i]?=some x->∃u,us[i]?=some u/\RelV x u
 |_,_,_,_,.nil,e=>by simp at e
 |_,_,0,_,.cons r _,e=>by simp at e;subst e;exact⟨_,rfl,r⟩
 |_,_,i+1,x,.cons _ t,e=>by
  obtain⟨u,j,l⟩:=Vals.get (i:=i) (x:=x) t (by simpa using e)
  exact⟨u,by simpa using j,l⟩
theorem Vals.set(r:RelV x u):∀{xs:List V} {us:List X0} (i:Nat),Vals xs us->Vals (xs.set i x) (us.set i u)
 |_,_,_,.nil=>.nil
 |_,_,0,.cons _ t=>.cons r t
 |_,_,i+1,.cons q t=>.cons q (Vals.set r i t)
theorem Vals.append:∀{xs ys:List V} {us j:List X0},Vals xs us->Vals ys j->Vals (xs++ys) (us++j)
 |_,_,_,_,.nil,s=>s
 |_,_,_,_,.cons r t,s=>.cons r (Vals.append t s)
theorem Vals.take:∀{xs:List V} {us:List X0} (n:Nat),Vals xs us->Vals (xs.take n) (us.take n)
 |_,_,0,_=>.nil
 |_,_,_+1,.nil=>.nil
 |_,_,n+1,.cons r t=>.cons r (Vals.take n t)
theorem Vals.drop:∀{xs:List V} {us:List X0} (n:Nat),Vals xs us->Vals (xs.drop n) (us.drop n)
 |_,_,0,r=>r
 |_,_,_+1,.nil=>.nil
 |_,_,n+1,.cons _ t=>Vals.drop n t
def RelO:Option V->Option X0->Prop
 |some v,some u=>RelV v u
 |none,none=>True
 |_,_=>False
def KV{j:Type}:List (j×V)->List (j×X0)->Prop:=Paired fun(p:j×V) (q:j×X0)=>p.1=q.1/\RelV p.2 q.2
def kV:Key->V
 |.inl i=>.int i
 |.inr x=>.str x
inductive HO where
 |lst (xs:List V)
 |tup (xs:List V)
 |dK (kvs:List (Key×V))|dT (kvs:List (List Key×V))
 |set (S:Int->Bool)(n:Nat)
 |ins (C dx:Addr)(fs:List (Str×V))
 |own (x:Addr)
 |xd (fs:List (Str×V))
 |met (f x:Addr)
 |rng (lo hi:Int)
 |frz (o:Obj)(u:HO)
 |tbl (ps:Array X0)
 |ext (φ:Heap->Prop)
noncomputable abbrev Hp:=Addr->Option HO
noncomputable def upd(H:Hp)(a:Addr)(o:HO):Hp:=λb=>if b=a then some o else H b
theorem _I{H:Hp}{a:Addr}{o:HO}:upd H a o a=some o:=by unfold upd;rw[if_pos rfl]
theorem XN{H:Hp}{a b:Addr}{o:HO}(h:b≠a):upd H a o b=H b:=by unfold upd;rw[if_neg h]
theorem Ix{H:Hp}{a b:Addr}{o u:HO}(h:H a=some o)(h':H b=some u)(d:o≠u):a≠b:=by
 intro e;subst e;rw[h]at h';exact d (Y9 h')
theorem V2{H:Hp}{a b:Addr}{o:HO}(h:H a=some o)(h':H b=none):a≠b:=by
 intro e;subst e;rw[h]at h';cases h'
section
variable(P:Xw)(w:Xm)
def ObjOk(H:Hp)(h:Heap)(a:Addr):HO->Prop
 |.lst l=>l.length<=sizeLine/\∃(j:List X0) (n:Nat),Vals l j/\h.get? a=some {cls:=.type "list",data:=.seq j.toArray n}
 |.tup l=>l.length<=sizeLine/\∃j:List X0,Vals l j/\IsTup h a j.toArray/\∃o,h.get? a=some o/\o.dict=none
 |.dK kvs=>kvs.length<=sizeLine/\(a==YO)=false/\∃z,KV kvs z/\h.DictOf (YJ P w) a z
 |.dT kvs=>kvs.length<=sizeLine/\(a==YO)=false/\∃l:List (List Key×Addr×X0),
   Paired (fun(p:List Key×V) (q:List Key×Addr×X0)=>p.1=q.1/\H q.2.1=some (.tup (p.1.map kV))/\RelV p.2 q.2.2) kvs l/\
   ∃o m c,h.get? a=some o/\o.ExactDict/\o.data=.dict m c/\m.toList=l.map (entryOfKey (tupleKind (YJ P w)))/\(l.map (·.1)).Nodup
 |.set S n=>h.SetOf (intKind P w) a S n
 |.ins C dx fs=>H dx=some (.own a)/\fs.length<=1000/\dx≠a/\h.get? a=some (Ux C dx)/\
   ∃y,h.Ns1 dx y/\(∀f,RelO (fs.lookup f) (y f))/\Eg y (fs.map (·.1))
 |.own _=>∃o,h.get? a=some o
 |.xd fs=>∃y,h.Ns1 a y/\∀f,RelO (fs.lookup f) (y f)
 |.rng lo hi=>∃t u v,h.get? a=some {cls:=.type "range",data:=.fields #[.int lo t,.int hi u,.int 1 v]}
 |.frz o u=>h.get? a=some o/\ObjOk H h a u
 |.tbl ps=>h.get? a=some {cls:=.none,data:=.fields ps}
 |.met f x=>h.get? a=some (E6 (.ref f) (.ref x))
 |.ext φ=>φ h/\(∃o,h.get? a=some o)/\∀g d:Heap,φ g->(∀o,g.get? a=some o->d.get? a=some o)->φ d
def HOk(H:Hp)(h:Heap):Prop:=∀a o,H a=some o->ObjOk P w H h a o
end
section
variable{P:Xw}{w:Xm}{H H':Hp}{h h':Heap}{a:Addr}{o:HO}
theorem ObjOk.lt(x:ObjOk P w H h a o):a<h.objs.size:=by
 cases o with
 |lst l=>obtain⟨_,_,_,_,e⟩:=x;exact Xv e
 |tup l=>obtain⟨_,_,_,p⟩:=x;exact p.1.lt
 |dK j=>obtain⟨_,_,_,_,o,_,_,e,_⟩:=x;exact Xv e
 |dT j=>obtain⟨_,_,_,_,o,_,_,e,_⟩:=x;exact Xv e
 |set S n=>obtain⟨o,_,_,_,e,_⟩:=x;exact Xv e
 |ins C z fs=>obtain⟨_,_,_,e,_⟩:=x;exact Xv e
 |own y=>obtain⟨_,e⟩:=x;exact Xv e
 |xd fs=>obtain⟨_,⟨_,_,_,e,_⟩,_⟩:=x;exact Xv e
 |rng lo m=>obtain⟨_,_,_,e⟩:=x;exact Xv e
 |frz g u=>obtain⟨e,_⟩:=x;exact Xv e
 |tbl d=>exact Xv (show h.get? a=some _ from x)
 |met f y=>exact Xv (show h.get? a=some _ from x)
 |ext c=>obtain⟨_,⟨_,e⟩,_⟩:=x;exact Xv e
theorem Paired.mapP{u y:Type}{F G:u->y->Prop}:∀{j:List u} {l:List y},Paired F j l->(∀a b,F a b->G a b)->Paired G j l
 |_,_,.nil,_=>.nil
 |_,_,.cons r t,f=>.cons (f _ _ r) (Paired.mapP t f)
theorem ObjOk.stay(x:ObjOk P w H h a o)(k:∀b u,(b=a\/H b=some (.own a))->h.get? b=some u->h'.get? b=some u)
  (U:∀b,H b=some (.own a)->H' b=some (.own a))(W:∀b xs,H b=some (.tup xs)->H' b=some (.tup xs)):ObjOk P w H' h' a o:=by
 induction o with
 |lst xs=>obtain⟨z,g,n,r,e⟩:=x;exact⟨z,g,n,r,k _ _ (.inl rfl) e⟩
 |tup xs=>obtain⟨z,g,r,⟨j,e,c⟩,Y,L,Z⟩:=x;exact⟨z,g,r,⟨j,k _ _ (.inl rfl) e,c⟩,Y,k _ _ (.inl rfl) L,Z⟩
 |dK N=>obtain⟨z,y,A,r,j,l,m,e,c⟩:=x;exact⟨z,y,A,r,j,l,m,k _ _ (.inl rfl) e,c⟩
 |dT N=>
  obtain⟨z,y,xs,r,j,l,m,e,c⟩:=x;exact⟨z,y,xs,Paired.mapP r λp q z=>⟨z.1,W _ _ z.2.1,z.2.2⟩,j,l,m,k _ _ (.inl rfl) e,c⟩
 |set S n=>obtain⟨j,l,m,t,e,c⟩:=x;exact⟨j,l,m,t,k _ _ (.inl rfl) e,c⟩
 |ins C E fs=>
  obtain⟨d,z,B,e,O,⟨R,l,m,L,c⟩,r⟩:=x;exact⟨U _ d,z,B,k _ _ (.inl rfl) e,O,⟨R,l,m,k _ _ (.inr d) L,c⟩,r⟩
 |own y=>obtain⟨j,e⟩:=x;exact⟨j,k _ _ (.inl rfl) e⟩
 |xd fs=>obtain⟨O,⟨R,l,m,e,c⟩,r⟩:=x;exact⟨O,⟨R,l,m,k _ _ (.inl rfl) e,c⟩,r⟩
 |rng lo F=>obtain⟨t,u,v,e⟩:=x;exact⟨t,u,v,k _ _ (.inl rfl) e⟩
 |frz j u D=>obtain⟨e,q⟩:=x;exact⟨k _ _ (.inl rfl) e,D q⟩
 |tbl T=>
  have e:h.get? a=some {cls:=.none,data:=.fields T}:=x;show h'.get? a=some {cls:=.none,data:=.fields T};exact k a _ (.inl rfl) e
 |met f y=>
  have e:h.get? a=some (E6 (.ref f) (.ref y)):=x;show h'.get? a=some (E6 (.ref f) (.ref y));exact k a _ (.inl rfl) e
 |ext G=>obtain⟨p,⟨o,e⟩,st⟩:=x;exact⟨st _ _ p λo q=>k _ _ (.inl rfl) q,⟨o,k _ _ (.inl rfl) e⟩,st⟩
theorem HOk.lt(x:HOk P w H h)(e:H a=some o):a<h.objs.size:=(x a o e).lt
theorem HOk.fresh(x:HOk P w H h)(e:h.objs.size<=a):H a=none:=by
 cases q:H a with
 |none=>rfl
 |some u=>exact absurd (Yv (x.lt q) e) (Uz _)
theorem HOk.kept(x:HOk P w H h)(k:∀b u,h.get? b=some u->h'.get? b=some u):HOk P w H h':=λa o e=>
 (x a o e).stay (λb u _ q=>k b u q) (λ_ q=>q) λ_ _ q=>q
theorem HOk.laid(x:HOk P w H h)(k:∀b u,h.get? b=some u->h'.get? b=some u)(l:h.objs.size<=a)(new:ObjOk P w (upd H a o) h' a o):HOk P w (upd H a o) h':=λb u e=>by
 have j:=x.fresh l;by_cases hb:b=a
 .subst hb;rw[_I]at e;cases e;exact new
 .rw[XN hb]at e;exact(x b u e).stay (λc v _ q=>k c v q) (λc q=>by rw[XN (V2 q j)];exact q) λc y q=>by rw[XN (V2 q j)];exact q
end
noncomputable def Rd(H:Hp)(a:Addr)(u:HO):Prop:=H a=some u\/∃o,H a=some (.frz o u)
theorem Rd.ok(r:Rd H a u)(x:HOk P w H h):ObjOk P w H h a u:=by
 rcases r with r|⟨o,r⟩
 .exact x a u r
 .obtain⟨_,q⟩:=x a _ r;exact q
noncomputable def Mut:Option HO->Prop
 |some (.lst _)=>True
 |some (.dK _)=>True
 |some (.dT _)=>True
 |some (.set _ _)=>True
 |some (.ins _ _ _)=>True
 |some (.ext _)=>True
 |_=>False
section
variable{P:Xw}{w:Xm}{H:Hp}{h h':Heap}{x e:Addr}{o':HO}
theorem HOk.write(ok:HOk P w H h)(m:Mut (H x))(p:e=x\/H e=some (.own x))(k:∀b u,b≠e->h.get? b=some u->h'.get? b=some u)(f:∃u,h'.get? e=some u)
  (new:ObjOk P w (upd H x o') h' x o'):HOk P w (upd H x o') h':=λb u q=>by
 have j:∀c y,H c=some (.own y)->c≠x:=λc y r z=>by subst z;rw[r]at m;exact m
 have l:∀c g,H c=some (.tup g)->c≠x:=λc g r z=>by subst z;rw[r]at m;exact m
 by_cases hb:b=x
 .subst hb;rw[_I]at q;cases q;exact new
 .rw[XN hb]at q;by_cases hbe:b=e
  .have L:H b=some (.own x):=by
    rcases p with z|z
    .exact absurd (hbe.trans z) hb
    .rw[hbe];exact z
   rw[q]at L;cases L;obtain⟨v,N⟩:=f;exact⟨v,by rw[hbe];exact N⟩
  .refine(ok b u q).stay (λc v d r=>k c v ?_ r) (λc r=>by rw[XN (j c b r)];exact r) λc g r=>by rw[XN (l c g r)];exact r
   rcases d with rfl|d
   .exact hbe
   .rintro rfl;rcases p with z|z
    .exact j c b d z
    .rw[d]at z;cases z;exact hb rfl
end
structure Un (fs ex:List Addr)(H H':Hp)(h h':Heap):Prop where
 keep:∀b o,h.get? b=some o->H b=none->b∉fs->b∉ex->h'.get? b=some o
 slot:∀b o,h.get? b=some o->H b=none->b∈fs->b∉ex->∃sl,h'.get? b=some {o with slots:=sl}
 free:∀b o,h.get? b=some o->H b=none->b∉ex->H' b=none
 there:∀b o,h.get? b=some o->b∉ex->∃o',h'.get? b=some o'
 tups:∀b xs,H b=some (.tup xs)->H' b=some (.tup xs)
 frzs:∀b o u,H b=some (.frz o u)->H' b=some (.frz o u)
 tbls:∀b ps,H b=some (.tbl ps)->∃more,H' b=some (.tbl (ps++more))
section
variable{fs fs' ex ex':List Addr}{H H1 H2:Hp}{h h1 h2 h':Heap}{a x e:Addr}{o:HO}
theorem Un.any(u:Un fs ex H H1 h h1)(q:h.get? b=some ob)(n:H b=none)(j:b∉ex):∃l,h1.get? b=some {ob with slots:=l}:=by
 by_cases hb:b∈fs
 .exact u.slot b ob q n hb j
 .exact⟨ob.slots,u.keep b ob q n hb j⟩
theorem Un.kept(k:∀b u,h.get? b=some u->h'.get? b=some u):Un fs ex H H h h':=
 ⟨λb j q _ _ _=>k b j q,λb j q _ _ _=>⟨j.slots,k b j q⟩,λ_ _ _ n _=>n,λb j q _=>⟨j,k b j q⟩,λ_ _ q=>q,λ_ _ _ q=>q,λ_ l q=>⟨#[],by rw[q];simp⟩⟩
theorem Un.refl:Un fs ex H H h h:=Un.kept λ_ _ q=>q
theorem Un.laid(k:∀b u,h.get? b=some u->h'.get? b=some u)(l:h.objs.size<=a)(j:H a=none):Un fs ex H (upd H a o) h h' where
 keep:=λb u q _ _ _=>k b u q
 slot:=λb u q _ _ _=>⟨u.slots,k b u q⟩
 free:=λb u q n _=>by rw[XN (XB (Yv (Xv q) l))];exact n
 there:=λb u q _=>⟨u,k b u q⟩
 tups:=λb w q=>by rw[XN (V2 q j)];exact q
 frzs:=λb u w q=>by rw[XN (V2 q j)];exact q
 tbls:=λb y q=>⟨#[],by rw[XN (V2 q j),q];simp⟩
theorem Un.write(j:Mut (H x))(g:e=x\/H e=some (.own x))(k:∀b u,b≠e->h.get? b=some u->h'.get? b=some u)(l:∃u,h'.get? e=some u):Un fs ex H (upd H x o) h h':=by
 have y:∀b,H b=none->b≠x:=λb n z=>by subst z;rw[n]at j;exact j
 have m:∀b,H b=none->b≠e:=λb n z=>by
  subst z;rcases g with r|r
  .exact y b n r
  .rw[n]at r;cases r
 have w:∀b u,H b=some u->¬Mut (some u)->b≠x:=λb u q d z=>by subst z;rw[q]at j;exact d j
 refine⟨λb u q n _ _=>k b u (m b n) q,λb u q n _ _=>⟨u.slots,k b u (m b n) q⟩,λb u q n _=>by rw[XN (y b n)];exact n,λb u q _=>?_,
  λb c q=>by rw[XN (w b _ q λz=>z)];exact q,λb u c q=>by rw[XN (w b _ q λz=>z)];exact q,λb f q=>⟨#[],by rw[XN (w b _ q λz=>z),q];simp⟩⟩
 by_cases hbe:b=e
 .subst hbe;exact l
 .exact⟨u,k b u hbe q⟩
end
noncomputable def trk(h:Heap)(H:Hp):List Addr:=(Xt h.objs.size).filter λa=>(H a).isSome
def hidT(h:Heap)(H:Hp):Heap:=PySem.W.hideAll h (trk h H)
theorem T2(h:Heap)(H:Hp):(hidT h H).objs.size=h.objs.size:=PySem.W.hideAll_size _ _
theorem T3(e:h.get? b=some o)(n:H b=none):(hidT h H).get? b=some o:=
 PySem.W.hideAll_get _ e λj=>by
  have q:(H b).isSome=true:=(E1.mp j).2;rw[n]at q;simp at q
theorem T4(e:(hidT h H).get? b=some o):h.get? b=some o/\H b=none:=by
 have j:h.get? b=some o:=PySem.W.of_hideAll (trk h H) e;refine⟨j,?_⟩;cases q:H b with
 |none=>rfl
 |some x=>
  have l:b∈trk h H:=E1.mpr ⟨Z7.mpr (Xv j),by simp[q]⟩
  have z:(hidT h H).get? b=none:=PySem.W.hideAll_none (trk h H) l;rw[z]at e;cases e
noncomputable def T5(g h:Heap)(L:Addr):List (Addr×Obj):=(Xt h.objs.size).filterMap λa=>if a=L\/(g.get? a).isSome=true then none else(h.get? a).map λo=>(a,o)
def rest(g h:Heap)(L d:Addr):List (Addr×Obj):=(T5 g h L).filter λp=>decide (p.1≠d)
structure Mod (K:X4)(mg:Str->Option X0)(base:Heap):Prop where
 kin:K.In base
 glob:base.Ns Xp mg
 blt:∃mb,base.Ns builtinsNs mb/\∀x:Str,x≠"__name__"->mb x=YB x
 nolimit:base.NoLimit
structure Cx where
 prog:Xw
 w:Xm
 K:X4
 mg:Str->Option X0
 base:Heap
 A:Xz
 N:List Str
 s₀:X2
 H₀:Hp
 env:Env
 outer:List Env
 stack:List Env
 ex:List Addr
 fn:Str->Bool
 calm:Bool
 pn:List (Addr×Obj)
 xe:X0->X2->Prop
noncomputable def frs(l:List Env):List Addr:=l.filterMap (·.frame)
abbrev Cx.fs(X:Cx):List Addr:=frs X.outer
noncomputable def Vis(j:Scope)(x:Str):Prop:=j.names.lookup x=some .local\/j.names.lookup x=some .cell\/j.names.lookup x=some .free
noncomputable def Loc(j:Scope)(x:Str):Prop:=j.names.lookup x=some .local\/j.names.lookup x=some .cell
noncomputable def Look(env:Env)(h:Heap)(m:Str->Option X0)(x:Str)(u:X0):Prop:=
 (env.kindOf x=some .local/\m x=some u)\/((env.kindOf x=some .cell\/env.kindOf x=some .free)/\∃c,env.cells.lookup x=some c/\h.IsCell c (some u))
structure Cx.Ok (X:Cx):Prop where
 mod:Mod X.K X.mg X.base
 kind:X.env.scope.kind=.function
 glob:X.env.globals=Xp
 blt:X.env.builtins=builtinsNs
 above:X.s₀.heap.objs.size<=X.env.locals
 inj:∀x y c,X.env.cells.lookup x=some c->X.env.cells.lookup y=some c->x=y
 has:∀x,(X.env.kindOf x=some .cell\/X.env.kindOf x=some .free)->∃c,X.env.cells.lookup x=some c
 cab:∀x c,X.fn x=true->X.env.cells.lookup x=some c->X.s₀.heap.objs.size<=c
 hd:X.calm=true->X.A.handled=none
 frames:X.A.frames=some X.stack
 stk:X.stack=X.outer\/(X.stack=X.env::X.outer/\X.env.frame=some X.env.locals)
 exf:∀b∈X.ex,b≠X.env.locals/\∀x c,X.env.cells.lookup x=some c->c≠b
 bs:∀b o,X.base.get? b=some o->X.s₀.heap.get? b=some o/\X.H₀ b=none
 bsz:X.base.objs.size<=X.s₀.heap.objs.size
 noex:∀b o,X.base.get? b=some o->b∉X.ex
 exfs:∀b∈X.ex,b∉X.fs
 funs:X.s₀.heap.FunFrames X.base X.outer
 frf:∀b∈X.fs,X.H₀ b=none
structure Inv (X:Cx)(pq:List (Addr×Obj))(σ:List (Option V))(H:Hp)(s:X2):Prop where
 ok:X.Ok
 os:s.os=X.s₀.os
 bare:AllBare s.gens
 base:Un X.fs X.ex X.H₀ H X.s₀.heap s.heap
 loc:∃m,s.heap.Ns X.env.locals m/\∀(i:Nat)(x:Str)(v:V),X.N[i]?=some x->σ[i]?=some (some v)->Vis X.env.scope x->∃u,RelV v u/\Look X.env s.heap m x u
 cell:∀x c,X.env.cells.lookup x=some c->∃v,s.heap.IsCell c v
 free:H X.env.locals=none
 freeC:∀x c,X.env.cells.lookup x=some c->H c=none
 pin:∀p∈X.pn++pq,s.heap.get? p.1=some p.2/\H p.1=none/\p.1≠X.env.locals/\p.1∉X.fs/\∀v,p.2.data≠.cell v
 hok:HOk X.prog X.w H s.heap
 len:σ.length=X.N.length
section
variable{X:Cx}{pq:List (Addr×Obj)}{σ:List (Option V)}{H H':Hp}{s:X2}{h':Heap}
theorem Cx.Ok.nofr(ok:X.Ok)(e:X.base.get? b=some o):b∉X.fs:=λj=>by
 have:=(ok.funs.mem j).1;rw[e]at this;cases this
theorem Inv.bs(I:Inv X pq σ H s):∀b o,X.base.get? b=some o->s.heap.get? b=some o/\H b=none:=λb o e=>
 ⟨I.base.keep b o (I.ok.bs b o e).1 (I.ok.bs b o e).2 (I.ok.nofr e) (I.ok.noex b o e),I.base.free b o (I.ok.bs b o e).1 (I.ok.bs b o e).2 (I.ok.noex b o e)⟩
theorem Inv.bk(I:Inv X pq σ H s):∀b o,X.base.get? b=some o->s.heap.get? b=some o:=λb o e=>(I.bs b o e).1
theorem Inv.mod(I:Inv X pq σ H s):Mod X.K X.mg X.base:=I.ok.mod
theorem Inv.kIn(I:Inv X pq σ H s):X.K.In s.heap:=I.ok.mod.kin.keeps I.bk
theorem Inv.lt(I:Inv X pq σ H s):X.env.locals<s.heap.objs.size:=let⟨_,hn,_⟩:=I.loc;hn.lt
theorem Inv.sz(I:Inv X pq σ H s):X.s₀.heap.objs.size<=s.heap.objs.size:=XY I.ok.above (UA I.lt)
theorem Inv.nofs(I:Inv X pq σ H s)(h:s.heap.objs.size<=a):a∉X.fs:=λj=>by
 obtain⟨_,o,l,_⟩:=I.ok.funs.mem j;exact absurd (Yv (Xv l) (XY I.sz h)) (Uz _)
theorem Inv.cne(I:Inv X pq σ H s):∀x c,X.env.cells.lookup x=some c->c≠X.env.locals:=λx c e z=>by
 obtain⟨v,o,u,w⟩:=I.cell x c e;obtain⟨m,⟨y,g,d,j,l,_⟩,_⟩:=I.loc;rw[z,j]at u;cases u;rw[l]at w;cases w
theorem Inv.funs(I:Inv X pq σ H s):s.heap.FunFrames X.base X.outer:=by
 have all:∀(l:List Env),(∀b∈frs l,b∈X.fs)->X.s₀.heap.FunFrames X.base l->s.heap.FunFrames X.base l:=by
  intro l
  induction l with
  |nil=>intro _ _;trivial
  |cons m r g=>
   intro y d;obtain⟨c,⟨L,o,j,f,q,p⟩,N⟩:=d;have u:L∈X.fs:=y L (by unfold frs;rw[DR,j];exact Ya)
   obtain⟨O,e⟩:=I.base.slot L o q (I.ok.frf L u) u λz=>I.ok.exfs L z u;exact⟨c,⟨L,_,j,f,e,p⟩,g (λb w=>y b (by unfold frs;rw[DR,j];exact XM _ w)) N⟩
 exact all X.outer (λ_ w=>w) I.ok.funs
theorem Inv.stack(I:Inv X pq σ H s):s.heap.FunFrames X.base X.stack:=by
 rcases I.ok.stk with e|⟨e,j⟩
 .rw[e];exact I.funs
 .rw[e];obtain⟨m,l,_⟩:=I.loc;refine .cons (by rw[I.ok.kind];decide) j l ?_ I.funs
  exact Heap.get?_none_of_le (XY I.ok.bsz I.ok.above)
theorem Inv.stkSub(I:Inv X pq σ H s):∀b∈frs X.stack,b∈X.env.locals::X.fs:=λb j=>by
 rcases I.ok.stk with e|⟨e,l⟩
 .rw[e]at j;exact XM _ j
 .rw[e]at j;unfold frs at j;rw[DR,l]at j;exact j
theorem Inv.stkFree(I:Inv X pq σ H s):∀b∈frs X.stack,H b=none:=λb j=>by
 rcases Xk.mp (I.stkSub b j)with e|j
 .rw[e];exact I.free
 .obtain⟨_,o,l,_⟩:=I.ok.funs.mem j;exact I.base.free b o l (I.ok.frf b j) λz=>I.ok.exfs b z j
theorem Inv.step{g':Array GenState}{t':Nat}{d':Drawn}{ch:List Addr}(I:Inv X pq σ H s)
  (w:∀b∈ch,(b∈X.ex\/X.s₀.heap.objs.size<=b)/\b≠X.env.locals/\(∀x c,X.env.cells.lookup x=some c->c≠b)/\∀p∈X.pn++pq,p.1≠b)
  (keep:∀b o,b≠X.env.locals->b∉X.fs->b∉ch->s.heap.get? b=some o->H b=none->h'.get? b=some o)
  (N:∀b o,b≠X.env.locals->b∈X.fs->b∉ch->s.heap.get? b=some o->H b=none->∃C,h'.get? b=some {o with slots:=C})(free:∀b o,b∉ch->s.heap.get? b=some o->H b=none->H' b=none)
  (O:∀b o,b∉ch->s.heap.get? b=some o->∃T,h'.get? b=some T)
  (U:∀b xs,H b=some (.tup xs)->H' b=some (.tup xs))(W:∀b o u,H b=some (.frz o u)->H' b=some (.frz o u))(Y:∀b ps,H b=some (.tbl ps)->∃Z,H' b=some (.tbl (ps++Z)))
  (Q:∀m,s.heap.Ns X.env.locals m->h'.Ns X.env.locals m)(D:HOk X.prog X.w H' h')(S:AllBare g'):
  Inv X pq σ H' {s with heap:=h',gens:=g',drawn:=d',toks:=t'}:=by
 have A:∀b o,X.s₀.heap.get? b=some o->b≠X.env.locals:=λb o e=>XB (Yv (Xv e) I.ok.above);have f:∀b o,X.s₀.heap.get? b=some o->b∉X.ex->b∉ch:=λb o e j P=>by
  rcases(w b P).1 with z|z
  .exact j z
  .exact absurd (Yv (Xv e) z) (Uz _)
 have y:∀x c,X.env.cells.lookup x=some c->∀v,s.heap.IsCell c v->h'.IsCell c v:=λx c e v ⟨o,R,E⟩=>by
  have g:c∉ch:=λz=>(w c z).2.2.1 x c e rfl;by_cases hc:c∈X.fs
  .obtain⟨C,q⟩:=N c o (I.cne x c e) hc g R (I.freeC x c e);exact⟨_,q,E⟩
  .exact⟨o,keep c o (I.cne x c e) hc g R (I.freeC x c e),E⟩
 refine⟨I.ok,I.os,S,⟨λb o e n P j=>?_,λb o e n P j=>?_,λb o e n j=>?_,λb o e j=>?_,λb xs e=>U b xs (I.base.tups b xs e),λb o xs e=>W b o xs (I.base.frzs b o xs e),λb ps e=>?_⟩,?_,λx c e=>?_,?_,λx c e=>?_,λp G=>?_,D,I.len⟩
 .exact keep b o (A b o e) P (f b o e j) (I.base.keep b o e n P j) (I.base.free b o e n j)
 .obtain⟨C,L⟩:=I.base.slot b o e n P j;obtain⟨F,B⟩:=N b _ (A b o e) P (f b o e j) L (I.base.free b o e n j);exact⟨F,B⟩
 .obtain⟨T,L⟩:=I.base.there b o e j;exact free b T (f b o e j) L (I.base.free b o e n j)
 .obtain⟨T,L⟩:=I.base.there b o e j;exact O b T (f b o e j) L
 .obtain⟨h,L⟩:=I.base.tbls b ps e;obtain⟨a,B⟩:=Y b _ L;exact⟨h++a,by rw[B,Array.append_assoc]⟩
 .obtain⟨m,hn,hl⟩:=I.loc;refine⟨m,Q m hn,λi x v L B e3=>?_⟩;obtain⟨u,r,l⟩:=hl i x v L B e3;refine⟨u,r,?_⟩;rcases l with l|⟨k,c,e,z⟩
  .exact .inl l
  .exact .inr ⟨k,c,e,y x c e _ z⟩
 .obtain⟨v,z⟩:=I.cell x c e;exact⟨v,y x c e v z⟩
 .obtain⟨m,⟨o,_,_,R,_⟩,_⟩:=I.loc;exact free _ o (λz=>(w _ z).2.1 rfl) R I.free
 .obtain⟨v,o,R,E⟩:=I.cell x c e;exact free c o (λz=>(w c z).2.2.1 x c e rfl) R (I.freeC x c e)
 .obtain⟨e,n,J,M,d⟩:=I.pin p G;have g:p.1∉ch:=λz=>(w p.1 z).2.2.2 p G rfl;exact⟨keep p.1 p.2 J M g e n,free p.1 p.2 g e n,J,M,d⟩
theorem Inv.un{t':Nat}(I:Inv X pq σ H s)(u:Un X.fs [] H H' s.heap h')(l:HOk X.prog X.w H' h'):Inv X pq σ H' {s with heap:=h',toks:=t'}:=by
 obtain⟨m,⟨o,p,L,d,r⟩,_⟩:=id I.loc;obtain⟨N,c⟩:=u.any d I.free (by simp)
 exact I.step (g':=s.gens) (d':=s.drawn) (ch:=[]) (λ_ z=>nomatch z) (λb o _ w _ e n=>u.keep b o e n w (by simp)) (λb o _ w _ e n=>u.slot b o e n w (by simp)) (λb o _ e n=>u.free b o e n (by simp)) (λb o _ e=>u.there b o e (by simp)) u.tups u.frzs u.tbls (λO f=>by
  obtain⟨P,y,g,j,q⟩:=f;rw[d]at j;cases j;exact⟨_,y,g,c,q⟩) l I.bare
theorem Inv.call{g':Array GenState}{t':Nat}{d':Drawn}{ch:List Addr}(I:Inv X pq σ H s)(u:Un (frs X.stack) ch H H' s.heap h')(y:HOk X.prog X.w H' h')(L:AllBare g')
  (l:∀b∈ch,(b∈X.ex\/X.s₀.heap.objs.size<=b)/\b≠X.env.locals/\(∀x c,X.env.cells.lookup x=some c->c≠b)/\∀p∈X.pn++pq,p.1≠b):
  Inv X pq σ H' {s with heap:=h',gens:=g',drawn:=d',toks:=t'}:=by
 obtain⟨m,⟨o,R,T,q,r⟩,_⟩:=id I.loc;obtain⟨U,g⟩:=u.any q I.free λz=>(l _ z).2.1 rfl;exact I.step (ch:=ch) l (λb o g N j e n=>u.keep b o e n (λz=>(Xk.mp (I.stkSub b z)).elim g N) j) (λb o _ _ j e n=>u.any e n j) (λb o j e n=>u.free b o e n j) (λb o j e=>u.there b o e j) u.tups u.frzs u.tbls (λW O=>by
  obtain⟨Y,d,f,w,P⟩:=O;rw[q]at w;cases w;exact⟨_,d,f,g,P⟩) y L
theorem Inv.turned{t':Nat}{it:Addr}(I:Inv X pq σ H s)(k:∀b o,b≠it->s.heap.get? b=some o->h'.get? b=some o)(y:H it=none)(w:it≠X.env.locals)
  (h1:it∈X.ex\/X.s₀.heap.objs.size<=it)(h2:∀x c,X.env.cells.lookup x=some c->c≠it)(h3:∀p∈X.pn++pq,p.1≠it):Inv X pq σ H {s with heap:=h',toks:=t'}:=by
 have l:∀b u,H b=some u->b≠it:=λb u e z=>by rw[z,y]at e;cases e
 refine I.step (g':=s.gens) (d':=s.drawn) (ch:=[it]) (λb g=>?_) (λb o _ _ j e _=>k b o (λz=>j (by simp[z])) e) (λb o _ _ j e _=>⟨o.slots,k b o (λz=>j (by simp[z])) e⟩) (λ_ _ _ _ n=>n)
  (λb o j e=>⟨o,k b o (λz=>j (by simp[z])) e⟩) (λ_ _ e=>e) (λ_ _ _ e=>e) (λb O e=>⟨#[],by rw[e];simp⟩) (λm d=>?_) (λb u e=>?_) I.bare
 .have e:b=it:=by simpa using g
  subst e;exact⟨h1,w,h2,h3⟩
 .obtain⟨o,f,L,N,r⟩:=d;exact⟨o,f,L,k _ o (XT w) N,r⟩
 .refine(I.hok b u e).stay (λc v j q=>k c v ?_ q) (λ_ q=>q) λ_ _ q=>q;rcases j with z|z
  .rw[z];exact l b u e
  .exact l c _ z
theorem Inv.tok(I:Inv X pq σ H s)(t:Nat):Inv X pq σ H {s with toks:=t}:=I.un (h':=s.heap) (t':=t) Un.refl I.hok
theorem Inv.kept(I:Inv X pq σ H s)(k:∀b u,s.heap.get? b=some u->h'.get? b=some u):Inv X pq σ H {s with heap:=h',toks:=t'}:=I.un (Un.kept k) (I.hok.kept k)
theorem Inv.laid(I:Inv X pq σ H s)(k:∀b u,s.heap.get? b=some u->h'.get? b=some u)(j:s.heap.objs.size<=a)(new:ObjOk X.prog X.w (upd H a o) h' a o):
  Inv X pq σ (upd H a o) {s with heap:=h',toks:=t'}:=I.un (Un.laid k j (I.hok.fresh j)) (I.hok.laid k j new)
theorem Inv.write(I:Inv X pq σ H s)(l:Mut (H x))(w:e=x\/H e=some (.own x))(k:∀b u,b≠e->s.heap.get? b=some u->h'.get? b=some u)(j:∃u,h'.get? e=some u)
  (new:ObjOk X.prog X.w (upd H x o) h' x o):Inv X pq σ (upd H x o) {s with heap:=h',toks:=t'}:=I.un (Un.write l w k j) (I.hok.write l w k j new)
theorem Inv.weak(I:Inv X pq σ H s)(j:σ'.length=σ.length)(w:∀(i:Nat)v,σ'[i]?=some (some v)->σ[i]?=some (some v)):Inv X pq σ' H s:=
 ⟨I.ok,I.os,I.bare,I.base,let⟨m,hn,hl'⟩:=I.loc;⟨m,hn,λi x v l u y=>hl' i x v l (w i v u) y⟩,I.cell,I.free,I.freeC,I.pin,I.hok,j.trans I.len⟩
theorem Inv.pins_of(I:Inv X pq σ H s)(h:∀p∈pins',s.heap.get? p.1=some p.2/\H p.1=none/\p.1≠X.env.locals/\p.1∉X.fs/\∀v,p.2.data≠.cell v):Inv X pins' σ H s:=
 ⟨I.ok,I.os,I.bare,I.base,I.loc,I.cell,I.free,I.freeC,λp j=>(Yh.mp j).elim (λz=>I.pin p (DQ _ z)) (h p),I.hok,I.len⟩
theorem Iy{N:List Str}(l:N.Nodup){i j:Nat}{x:Str}(a:N[i]?=some x)(b:N[j]?=some x):i=j:=by
 obtain⟨y,u⟩:=XF.mp a;obtain⟨z,w⟩:=XF.mp b;exact(C7 l).mp (u.trans w.symm)
theorem Iz{M:Model}{A:Xz}{E:X0->X2->Prop}{i:Nat}{x:Str}{v:V}{u:X0}{Q:Unit->X2->Prop}(I:Inv X pq σ H s)(hN:X.N.Nodup)(U:X.N[i]?=some x)(L:Loc X.env.scope x)(r:RelV v u)
  (h:∀G,Inv X pq (σ.set i (some v)) H G->(∃a,U4 a s.heap G.heap/\(a=X.env.locals\/X.env.cells.lookup x=some a))->Q () G)(hf:X.fn x=true\/X.env.scope.names.lookup x=some .local:=by first|exact .inl rfl|exact .inr rfl|assumption):X3 M A (storeName X.env x u) Q E s:=by
 obtain⟨m,J,hl⟩:=id I.loc;have W:(X.env.scope.kind==.class||(X.env.scope.kind==.module&&X.env.locals != X.env.globals))=false:=by rw[I.ok.kind];rfl
 have O:i<σ.length:=by rw[I.len];exact(XF.mp U).1
 have cne:=I.cne;have w:∀{a:Addr} {h':Heap},(∃o,s.heap.get? a=some o/\H a=none)->U4 a s.heap h'->HOk X.prog X.w H h':=fun{a h'} ha l b ob e=>by
  obtain⟨_,_,jN⟩:=ha;refine(I.hok b ob e).stay (λc C f q=>(l.2 c ?_).trans q) (λ_ q=>q) λ_ _ q=>q;rintro rfl;rcases f with rfl|f
  .rw[jN]at e;cases e
  .rw[jN]at f;cases f
 rcases L with P|P
 .refine wpAny_storeName_local P J (λh' S l=>?_) W;obtain⟨oL,_,_,hoL,_⟩:=id J;refine h _ ⟨I.ok,I.os,I.bare,⟨λb o e n R L=>?_,λb o e n R L=>?_,I.base.free,λb o e L=>?_,I.base.tups,I.base.frzs,I.base.tbls⟩,⟨_,S,λj y v' g N e3=>?_⟩,λy c e=>?_,I.free,I.freeC,λp hp=>?_,w ⟨oL,hoL,I.free⟩ l,by simpa using I.len⟩ ⟨_,l,.inl rfl⟩
  .exact(l.2 b (XB (Yv (Xv e) I.ok.above))).trans (I.base.keep b o e n R L)
  .obtain⟨sl,g⟩:=I.base.slot b o e n R L;exact⟨sl,(l.2 b (XB (Yv (Xv e) I.ok.above))).trans g⟩
  .obtain⟨o',g⟩:=I.base.there b o e L;exact⟨o',(l.2 b (XB (Yv (Xv e) I.ok.above))).trans g⟩
  .by_cases hj:j=i
   .subst hj;rw[U]at g;cases g;rw[DP O]at N;cases N;exact⟨u,r,.inl ⟨P,by simp⟩⟩
   .rw[C2 (XT hj)]at N;obtain⟨u',r',q⟩:=hl j y v' g N e3;refine⟨u',r',?_⟩;rcases q with⟨k,e⟩|⟨k,c,e,z⟩
    .refine .inl ⟨k,?_⟩;have:y≠x:=λe=>hj (Iy hN g (e▸U));simp[this,e]
    .exact .inr ⟨k,c,e,z.sameBut l (cne y c e)⟩
  .obtain⟨C,z⟩:=I.cell y c e;exact⟨C,z.sameBut l (cne y c e)⟩
  .obtain⟨e,n,D,nf,d⟩:=I.pin p hp;exact⟨(l.2 p.1 D).trans e,n,D,nf,d⟩
 .have T:X.fn x=true:=by
   rcases hf with z|z
   .exact z
   .rw[z]at P;cases P
  obtain⟨c,f⟩:=I.ok.has x (.inl P);obtain⟨C,z⟩:=I.cell x c f;refine wpAny_storeName_cell I.ok.kind P f z (λh' Y l=>?_);obtain⟨oc,Z,B⟩:=id z;refine h {s with heap:=h'} ⟨I.ok,I.os,I.bare,⟨λb o e n R L=>?_,λb o e n R L=>?_,I.base.free,λb o e L=>?_,I.base.tups,I.base.frzs,I.base.tbls⟩,⟨m,J.sameBut l (XT (cne x c f)),λj y v' g N e3=>?_⟩,λy F e=>?_,I.free,I.freeC,λp hp=>?_,w ⟨oc,Z,I.freeC x c f⟩ l,by simpa using I.len⟩ ⟨c,l,.inr f⟩
  .exact(l.2 b (XB (Yv (Xv e) (I.ok.cab x c T f)))).trans (I.base.keep b o e n R L)
  .obtain⟨sl,g⟩:=I.base.slot b o e n R L;exact⟨sl,(l.2 b (XB (Yv (Xv e) (I.ok.cab x c T f)))).trans g⟩
  .obtain⟨o',g⟩:=I.base.there b o e L;exact⟨o',(l.2 b (XB (Yv (Xv e) (I.ok.cab x c T f)))).trans g⟩
  .by_cases hj:j=i
   .subst hj;rw[U]at g;cases g;rw[DP O]at N;cases N;exact⟨u,r,.inr ⟨.inl P,c,f,Y⟩⟩
   .rw[C2 (XT hj)]at N;obtain⟨u',r',q⟩:=hl j y v' g N e3;refine⟨u',r',?_⟩;rcases q with q|⟨k,F,e,z'⟩
    .exact .inl q
    .refine .inr ⟨k,F,e,z'.sameBut l ?_⟩;rintro rfl;exact hj (Iy hN g (I.ok.inj _ _ _ e f▸U))
  .by_cases hcc:F=c
   .subst hcc;exact⟨_,Y⟩
   .obtain⟨w2,z2⟩:=I.cell y F e;exact⟨w2,z2.sameBut l hcc⟩
  .obtain⟨e,n,D,nf,d⟩:=I.pin p hp;refine⟨(l.2 p.1 ?_).trans e,n,D,nf,d⟩;intro q;rw[q,Z]at e;have q':oc=p.2:=Y9 e;exact d C (by rw[<-q'];exact B)
theorem IA(I:Inv X pq σ H s)(l:X.N.Nodup)(w:X.N[i]?=some x)(y:Loc X.env.scope x)(r:RelV v u)
  (h:∀j,Inv X pq (σ.set i (some v)) H j->Q () j)(z:X.fn x=true\/X.env.scope.names.lookup x=some .local:=by first|exact .inl rfl|exact .inr rfl|assumption):X3 M A (storeName X.env x u) Q E s:=
 Iz I l w y r (λj m _=>h j m) z
theorem Inv.call'(I:Inv X pq σ H s)(w:s'.os=s.os)(u:Un (frs X.stack) ch H H' s.heap s'.heap)(j:HOk X.prog X.w H' s'.heap)(y:AllBare s'.gens)
  (l:∀b∈ch,(b∈X.ex\/X.s₀.heap.objs.size<=b)/\b≠X.env.locals/\(∀x c,X.env.cells.lookup x=some c->c≠b)/\∀p∈X.pn++pq,p.1≠b):Inv X pq σ H' s':=by
 obtain⟨h',z,m,g,d⟩:=s';have e:d=s.os:=w;subst e;exact I.call (g':=z) (t':=g) (d':=m) u j y l
end
abbrev XK:=X0->Option Addr->Hp->Prop
noncomputable abbrev St:=List (Option V)
abbrev VK:=V->Hp->Prop
abbrev TE:=St->Hp->VK->Prop
abbrev TT:=St->Hp->(Bool->Hp->Prop)->Prop
abbrev TA:=St->Hp->(List V->Hp->Prop)->Prop
structure Ends where
 nx:St->Hp->Prop
 rt:VK
 bk:St->Hp->Prop:=λ_ _=>False
 ct:St->Hp->Prop:=λ_ _=>False
abbrev TS:=Ends->St->Hp->Prop
def EP(X:Cx)(l:List (Addr×Obj))(w:St)(Q:VK)(u:X0)(y:X2):Prop:=∃v j,Inv X l w j y/\RelV v u/\Q v j
noncomputable def TP(X:Cx)(l:List (Addr×Obj))(u:St)(Q:Bool->Hp->Prop)(b:Bool)(w:X2):Prop:=∃j,Inv X l u j w/\Q b j
def AP(X:Cx)(u:List (Addr×Obj))(w:St)(Q:List V->Hp->Prop)(us:List X0)(y:X2):Prop:=∃j l,Inv X u w l y/\Vals j us/\Q j l
def SP(X:Cx)(w:List (Addr×Obj))(D:Ends)(f:Flow)(y:X2):Prop:=
 match f with
 |.next=>∃j l,Inv X w j l y/\D.nx j l
 |.brk=>∃j l,Inv X w j l y/\D.bk j l
 |.cont=>∃j l,Inv X w j l y/\D.ct j l
 |.ret u=>∃v j l,Inv X w j l y/\RelV v u/\D.rt v l
def PE(X:Cx)(e:Expr)(t:TE):Prop:=
 ∀(l:List (Addr×Obj))(s:X2)(j:St)(H:Hp)(Q:VK),Inv X l j H s->t j H Q->X3 (X6 X.prog X.w) X.A (eval e X.env) (EP X l j Q) X.xe s
def PT(X:Cx)(e:Expr)(t:TT):Prop:=
 ∀(l:List (Addr×Obj))(s:X2)(j:St)(H:Hp)(Q:Bool->Hp->Prop),Inv X l j H s->t j H Q->X3 (X6 X.prog X.w) X.A (isTrue e X.env (eval e X.env)) (TP X l j Q) X.xe s
def PW(X:Cx)(e:Expr)(t:TT):Prop:=
 ∀(j:Sem X0)(u:List (Addr×Obj))(s:X2)(l:St)(H:Hp)(Q:Bool->Hp->Prop),Inv X u l H s->t l H Q->X3 (X6 X.prog X.w) X.A (isTrue e X.env j) (TP X u l Q) X.xe s
theorem PW.pt{t:TT}(h:PW X e t):PT X e t:=h _
def PA(X:Cx)(es:List Expr)(t:TA):Prop:=
 ∀(j:Pos)(u:List (Addr×Obj))(s:X2)(l:St)(H:Hp)(Q:List V->Hp->Prop),Inv X u l H s->t l H Q->X3 (X6 X.prog X.w) X.A (spliced (XZ j (XA es X.env))) (AP X u l Q) X.xe s
def PS(X:Cx)(st:Stmt)(t:TS):Prop:=
 ∀(j:List (Addr×Obj))(s:X2)(l:St)(H:Hp)(D:Ends),Inv X j l H s->t D l H->X3 (X6 X.prog X.w) X.A (exec st X.env) (SP X j D) X.xe s
def PSs(X:Cx)(st:List Stmt)(t:TS):Prop:=
 ∀(j:List (Addr×Obj))(s:X2)(l:St)(H:Hp)(D:Ends),Inv X j l H s->t D l H->X3 (X6 X.prog X.w) X.A (execs st X.env) (SP X j D) X.xe s
theorem thn{j:Type}{t:Sem j}{Q l:j->X2->Prop}{M:Model}{A:Xz}{E:X0->X2->Prop}{s:X2}(h:X3 M A t Q E s)(u:∀a s,Q a s->l a s):X3 M A t l E s:=Zw h u λ_ _ x=>x
section
variable{X:Cx}
theorem bin{a b:Expr}{ta tb:TE}(q:PE X a ta)(r:PE X b tb){m:List (Addr×Obj)}{s:X2}{j:St}{H:Hp}{R:V->V->Hp->Prop}(I:Inv X m j H s)(h:ta j H λx d=>tb j d λy l=>R x y l)
  {c:Type} {Q:c->X2->Prop} {f:X0->X0->Sem c}
  (p:∀v u g x y l,Inv X m j l g->RelV x v->RelV y u->R x y l->X3 (X6 X.prog X.w) X.A (f v u) Q X.xe g):
  X3 (X6 X.prog X.w) X.A (eval a X.env) (λv w=>X3 (X6 X.prog X.w) X.A (eval b X.env) (λu z=>X3 (X6 X.prog X.w) X.A (f v u) Q X.xe z) X.xe w) X.xe s:=by
 refine thn (q m s j H _ I h) λv e ⟨x,d,L,N,O⟩=>?_;refine thn (r m e j d _ L O) λu g ⟨y,l,P,T,U⟩=>?_;exact p v u g x y l P N T U
noncomputable def tVar(i:Nat):TE:=λj H Q=>∃v,j[i]?=some (some v)/\Q v H
noncomputable def tC(v:V):TE:=λ_ H Q=>Q v H
theorem IB{i:Nat}{x:Str}{pos:Pos}(f:X.N[i]?=some x)(q:Vis X.env.scope x)(z:(x==("__debug__":Str))=false:=by decide)(g:(x==("__classdict__":Str))=false:=by decide):PE X (.Name x pos) (tVar i):=by
 intro p s L H Q I h;obtain⟨v,e,h⟩:=h;obtain⟨m,N,O⟩:=I.loc;obtain⟨u,r,l⟩:=O i x v f e q;have w:EP X p L Q u s:=⟨v,H,I,r,h⟩;rcases l with⟨y,P⟩|⟨y,c,d,j⟩
 .exact wpAny_Name (wpAny_loadName_local I.ok.kind y N P w) z
 .rcases y with y|y
  .exact wpAny_Name (wpAny_loadName_cell I.ok.kind y d j w) z
  .exact wpAny_Name (wpAny_loadName_free I.ok.kind y d j w g) z
theorem pe_int{i j pos}:PE X (.Constant (.int i) j pos) (tC (.int i)):=λ_ _ _ H _ I h=>wpAny_Constant_int ⟨.int i,H,I.tok _,⟨_,rfl⟩,h⟩
theorem pe_bl{b j pos}:PE X (.Constant (.bool b) j pos) (tC (.bl b)):=λ_ _ _ H _ I h=>Constant_bool ⟨.bl b,H,I,rfl,h⟩
theorem pe_non{j pos}:PE X (.Constant .none j pos) (tC .non):=λ_ _ _ H _ I h=>Constant_none ⟨.non,H,I,rfl,h⟩
theorem pe_str{x j pos}:PE X (.Constant (.str x) j pos) (tC (.str x)):=λ_ _ _ H _ I h=>Calls.Constant_str ⟨.str x,H,I.tok _,⟨_,rfl⟩,h⟩
noncomputable def Gl(X:Cx)(x:Str):Prop:=X.env.kindOf x=some .globalImplicit
theorem Er(I:Inv X pq σ H s)(j:Gl X x)(l:X.mg x=some u)(h:Q u s)
  (w:(x==("__debug__":Str))=false:=by decide):X3 (X6 X.prog X.w) X.A (eval (.Name x pos) X.env) Q E s:=
 Ik I.ok.kind j (Calls.loadGlobal_global (by rw[I.ok.glob];exact I.mod.glob.keeps I.bk) l h) w
theorem UC(I:Inv X pq σ H s)(j:Gl X x)(l:X.mg x=none)(w:YB x=some u)(h:Q u s)
  (y:x≠"__name__":=by decide)(z:(x==("__debug__":Str))=false:=by decide):X3 (X6 X.prog X.w) X.A (eval (.Name x pos) X.env) Q E s:=by
 obtain⟨d,m,g⟩:=I.mod.blt;exact Ik I.ok.kind j (Calls.loadGlobal_builtin (by rw[I.ok.glob];exact I.mod.glob.keeps I.bk) l (by rw[I.ok.blt];exact m.keeps I.bk) ((g x y).trans w) h) z
theorem T6{x:Str}{v:V}{u:X0}{pos:Pos}(j:Gl X x)(l:X.mg x=some u)(r:RelV v u)(w:(x==("__debug__":Str))=false:=by decide):PE X (.Name x pos) (tC v):=
 λ_ _ _ H _ I h=>Er I j l ⟨v,H,I,r,h⟩ w
theorem T7{x:Str}{v:V}{u:X0}{pos:Pos}(j:Gl X x)(l:X.mg x=none)(w:YB x=some u)(r:RelV v u)(y:x≠"__name__":=by decide)(z:(x==("__debug__":Str))=false:=by decide):PE X (.Name x pos) (tC v):=
 λ_ _ _ H _ I h=>UC I j l w ⟨v,H,I,r,h⟩ y z
variable{a b:Expr}{ta tb:TE}{pos:Pos}
noncomputable def tB(t:TE):TT:=λj H Q=>t j H λx l=>∃c,x=.bl c/\Q c l
theorem T8{e:Expr}{t:TE}(h:PE X e t)(l:∀j,isTrue e X.env j=(do let v<- j;standAt e.pos;Z0 [v] (truthy v)):=by intro _;rfl):PT X e (tB t):=by
 intro u s w H Q I y;refine isTrue_plain (thn (h u s w H _ I y) λv f ⟨x,z,m,g,c⟩=>?_) (l _);obtain⟨d,rfl,q⟩:=c;cases g;exact Zx ⟨z,m,q⟩
variable{tA tB':TT}{rest:List Expr}
noncomputable def tAnd(t u:TT):TT:=λj H Q=>t j H λc l=>if c=true then u j l Q else Q false l
noncomputable def tOr(t u:TT):TT:=λj H Q=>t j H λc l=>if c=true then Q true l else u j l Q
noncomputable def tNot(t:TT):TT:=λj H Q=>t j H λc l=>Q (!c) l
theorem pw_and1(j:PT X a tA):PW X (.BoolOp .And [a] pos) tA:=by
 intro w l s u H Q I h;refine isTrue_and (thn (j l s u H Q I h) λc y e=>?_);cases c with
 |true=>exact isTrue_and_nil e
 |false=>exact e
theorem pw_or1(j:PT X a tA):PW X (.BoolOp .Or [a] pos) tA:=by
 intro w l s u H Q I h;refine isTrue_or (thn (j l s u H Q I h) λc y e=>?_);cases c with
 |false=>exact isTrue_or_nil e
 |true=>exact e
theorem pw_and(z:PT X a tA)(m:PW X (.BoolOp .And (b::rest) pos) tB'):PW X (.BoolOp .And (a::b::rest) pos) (tAnd tA tB'):=by
 intro g j s l H Q I h;refine isTrue_and (thn (z j s l H _ I h) λc d ⟨u,w,y⟩=>?_);cases c with
 |true=>exact m g j d l u Q w y
 |false=>exact⟨u,w,y⟩
theorem pw_or(z:PT X a tA)(m:PW X (.BoolOp .Or (b::rest) pos) tB'):PW X (.BoolOp .Or (a::b::rest) pos) (tOr tA tB'):=by
 intro g j s l H Q I h;refine isTrue_or (thn (z j s l H _ I h) λc d ⟨u,w,y⟩=>?_);cases c with
 |true=>exact⟨u,w,y⟩
 |false=>exact m g j d l u Q w y
theorem T9(j:PT X a tA):PT X (.UnaryOp .Not a pos) (tNot tA):=by
 intro l s u H Q I h;exact isTrue_not (j l s u H (λc w=>Q (!c) w) I h)
noncomputable def Ta(ta tb:TE):TE:=λj H Q=>ta j H λx l=>∃c,x=.bl c/\if c=true then tb j l Q else Q (.bl false) l
noncomputable def tOrV(ta tb:TE):TE:=λj H Q=>ta j H λx l=>∃c,x=.bl c/\if c=true then Q (.bl true) l else tb j l Q
noncomputable def Tb(ta:TE):TE:=λj H Q=>ta j H λx l=>∃c,x=.bl c/\Q (.bl (!c)) l
theorem IC{op}{t:TE}(h:PE X a t):PE X (.BoolOp op [a] pos) t:=λj s l H Q I u=>BoolOp_one (h j s l H Q I u)
theorem Tc(z:PE X a ta)(m:PE X (.BoolOp .And (b::rest) pos) tb):PE X (.BoolOp .And (a::b::rest) pos) (Ta ta tb):=by
 intro l s u H Q I h;refine BoolOp_and (thn (z l s u H _ I h) λv g ⟨x,w,y,d,j⟩=>?_);obtain⟨c,rfl,j⟩:=j;cases d;refine Zx ?_;cases c with
 |true=>exact m l g u w Q y j
 |false=>exact⟨.bl false,w,y,rfl,j⟩
theorem Td(z:PE X a ta)(m:PE X (.BoolOp .Or (b::rest) pos) tb):PE X (.BoolOp .Or (a::b::rest) pos) (tOrV ta tb):=by
 intro l s u H Q I h;refine BoolOp_or (thn (z l s u H _ I h) λv g ⟨x,w,y,d,j⟩=>?_);obtain⟨c,rfl,j⟩:=j;cases d;refine Zx ?_;cases c with
 |false=>exact m l g u w Q y j
 |true=>exact⟨.bl true,w,y,rfl,j⟩
theorem Te(l:PE X a ta):PE X (.UnaryOp .Not a pos) (Tb ta):=by
 intro u s w H Q I h;refine UnaryOp_ (thn (l u s w H _ I h) λv g ⟨x,y,z,m,j⟩=>?_);obtain⟨c,rfl,j⟩:=j;cases m;exact not_of (Zx ⟨.bl (!c),y,z,rfl,j⟩)
noncomputable def tIf(t:TT)(ta tb:TE):TE:=λj H Q=>t j H λc l=>if c=true then ta j l Q else tb j l Q
theorem Tf{c:Expr}(m:PT X c tA)(g:PE X a ta)(f:PE X b tb):PE X (.IfExp c a b pos) (tIf tA ta tb):=by
 intro j s l H Q I h;refine wpAny_IfExp (thn (m j s l H _ I h) λd u ⟨w,y,z⟩=>?_);cases d with
 |true=>exact g j u l w Q y z
 |false=>exact f j u l w Q y z
end
def SqL(K:X4)(H:Hp)(a:Addr)(xs:List V):Prop:=
 Rd H a (.lst xs)\/
  ∃(o:Obj) (j:Array X0) (n:Nat),K.lookup a=some o/\o.cls=.type "list"/\o.dict=none/\o.data=.seq j n/\j.size<=sizeLine/\Vals xs j.toList
def SqT(K:X4)(H:Hp)(a:Addr)(xs:List V):Prop:=
 Rd H a (.tup xs)\/
  ∃(o:Obj) (j:Array X0) (n:Nat),K.lookup a=some o/\o.cls=.type "tuple"/\o.data=.seq j n/\j.size<=sizeLine/\Vals xs j.toList
noncomputable def absV:X0->Option V
 |.none=>some .non
 |.bool b=>some (.bl b)
 |.int i _=>some (.int i)
 |.str x _=>some (.str x)
 |.bytes b _=>some (.byt b)
 |.float b _=>some (.flt b)
 |.ref a=>some (.ref a)
 |.type n=>some (.ty n)
 |_=>none
theorem RelV.abs(r:RelV x u):absV u=some x:=by
 cases x with
 |non=>cases r;rfl
 |bl _=>cases r;rfl
 |int _=>obtain⟨t,rfl⟩:=r;rfl
 |str _=>obtain⟨t,rfl⟩:=r;rfl
 |byt _=>obtain⟨t,rfl⟩:=r;rfl
 |flt _=>obtain⟨t,rfl⟩:=r;rfl
 |ref _=>cases r;rfl
 |ty _=>cases r;rfl
theorem RelV.inj(r:RelV x u)(q:RelV y u):x=y:=Y9 (r.abs.symm.trans q.abs)
theorem Vals.inj:∀{xs ys:List V} {us:List X0},Vals xs us->Vals ys us->xs=ys
 |_,_,_,.nil,.nil=>rfl
 |_,_,_,.cons r t,.cons r' t'=>by rw[r.inj r',Vals.inj t t']
section
variable{X:Cx}{pq:List (Addr×Obj)}{σ:St}{H:Hp}{s:X2}{a:Addr}{xs ys:List V}
theorem SqL.of{K:X4}(h:H a=some (.lst xs)):SqL K H a xs:=.inl (.inl h)
theorem SqT.of{K:X4}(h:H a=some (.tup xs)):SqT K H a xs:=.inl (.inl h)
theorem Inv.list(I:Inv X pq σ H s)(h:SqL X.K H a xs):∃j:List X0,Vals xs j/\PlainL s.heap a j.toArray/\xs.length<=sizeLine:=by
 rcases h with h|⟨o,j,n,l,u,w,y,m,r⟩
 .obtain⟨z,j,n,r,e⟩:=h.ok I.hok;exact⟨j,r,⟨_,n,e,rfl,rfl,rfl⟩,z⟩
 .refine⟨j.toList,r,⟨o,n,I.kIn a o l,u,w,by simpa using y⟩,?_⟩
  have e:=r.length;simp only[Yq]at e;lia
theorem Inv.tuple(I:Inv X pq σ H s)(h:SqT X.K H a xs):∃j:List X0,Vals xs j/\IsTup s.heap a j.toArray/\xs.length<=sizeLine:=by
 rcases h with h|⟨o,j,n,l,u,w,y,r⟩
 .obtain⟨z,j,r,p⟩:=h.ok I.hok;exact⟨j,r,p.1,z⟩
 .refine⟨j.toList,r,⟨o,I.kIn a o l,u,n,by simpa using w⟩,?_⟩
  have e:=r.length;simp only[Yq]at e;lia
theorem Inv.list_inj(I:Inv X pq σ H s)(h:SqL X.K H a xs)(h':SqL X.K H a ys):xs=ys:=by
 obtain⟨l,r,⟨o,n,e,_,_,d⟩,_⟩:=I.list h;obtain⟨j,y,⟨z,m,u,_,_,w⟩,_⟩:=I.list h';rw[e]at u;cases u;rw[d]at w;injection w with d1 _;have:l=j:=by simpa using congrArg Array.toList d1
 subst this;exact r.inj y
theorem Inv.tuple_inj(I:Inv X pq σ H s)(h:SqT X.K H a xs)(h':SqT X.K H a ys):xs=ys:=by
 obtain⟨l,r,⟨o,e,_,n,d⟩,_⟩:=I.tuple h;obtain⟨j,y,⟨z,u,_,m,w⟩,_⟩:=I.tuple h';rw[e]at u;cases u;rw[d]at w;injection w with d1 _;have:l=j:=by simpa using congrArg Array.toList d1
 subst this;exact r.inj y
end
noncomputable abbrev Cx.wish(X:Cx)(E:X0->X2->Prop):Cx:={X with xe:=E}
noncomputable abbrev Cx.nox(X:Cx):Cx:=X.wish λ_ _=>False
theorem Cx.Ok.wish{X:Cx}(ok:X.Ok)(E:X0->X2->Prop):(X.wish E).Ok:=
 ⟨ok.mod,ok.kind,ok.glob,ok.blt,ok.above,ok.inj,ok.has,ok.cab,ok.hd,ok.frames,ok.stk,ok.exf,ok.bs,ok.bsz,ok.noex,ok.exfs,ok.funs,ok.frf⟩
theorem Cx.Ok.unwish{X:Cx}{E:X0->X2->Prop}(ok:(X.wish E).Ok):X.Ok:=
 ⟨ok.mod,ok.kind,ok.glob,ok.blt,ok.above,ok.inj,ok.has,ok.cab,ok.hd,ok.frames,ok.stk,ok.exf,ok.bs,ok.bsz,ok.noex,ok.exfs,ok.funs,ok.frf⟩
section
variable{X:Cx}{pq:List (Addr×Obj)}{σ:St}{H:Hp}{s:X2}{E:X0->X2->Prop}
theorem Inv.wish(I:Inv X pq σ H s)(E:X0->X2->Prop):Inv (X.wish E) pq σ H s:=⟨I.ok.wish E,I.os,I.bare,I.base,I.loc,I.cell,I.free,I.freeC,I.pin,I.hok,I.len⟩
theorem Inv.unwish(I:Inv (X.wish E) pq σ H s):Inv X pq σ H s:=⟨I.ok.unwish,I.os,I.bare,I.base,I.loc,I.cell,I.free,I.freeC,I.pin,I.hok,I.len⟩
theorem SP.unwish(h:SP (X.wish E) pq D f s'):SP X pq D f s':=by
 cases f with
 |next=>obtain⟨j,l,I,q⟩:=h;exact⟨j,l,I.unwish,q⟩
 |brk=>obtain⟨j,l,I,q⟩:=h;exact⟨j,l,I.unwish,q⟩
 |cont=>obtain⟨j,l,I,q⟩:=h;exact⟨j,l,I.unwish,q⟩
 |ret u=>obtain⟨v,j,l,I,r,q⟩:=h;exact⟨v,j,l,I.unwish,r,q⟩
theorem PSs.nox{st:List Stmt}{t:TS}(h:PSs X.nox st t):PSs X st t:=λpq s σ H D I j=>
 Zw (h pq s σ H D (I.wish _) j) (λ_ _ q=>q.unwish) λ_ _ z=>Y2 z
end
section
variable{X:Cx}{st:Stmt}{rest:List Stmt}{t u:TS}{e:Expr}{te:TE}{pos:Pos}
noncomputable def Tg:TS:=λD j H=>D.nx j H
noncomputable def tSeq(t u:TS):TS:=λD j H=>t {D with nx:=u D} j H
theorem pss_nil:PSs X [] Tg:=λ_ _ j H _ I h=>wpAny_execs_nil ⟨j,H,I,h⟩
theorem Th(h1:PS X st t)(h2:PSs X rest u):PSs X (st::rest) (tSeq t u):=by
 intro l s w H D I h;refine wpAny_execs_cons (thn (h1 l s w H {D with nx:=u D} I h) λf y q=>?_);cases f with
 |next=>
  obtain⟨j,z,m,q⟩:=q;exact h2 l y j z D m q
 |ret v=>exact q
 |brk=>exact q
 |cont=>exact q
theorem Inv.quiet(I:Inv X pq σ H s):interactive X.env=false:=by simp[interactive,I.ok.kind]
noncomputable def Ti(te:TE):TS:=λD j H=>te j H λ_ l=>D.nx j l
theorem Tj(l:PE X e te)(w:Zy e none pos.line X.env=pure false:=by rfl):PS X (.Expr e pos) (Ti te):=by
 intro y s j H D I h;exact wpAny_Expr_any (thn (l y s j H _ I h) λv d ⟨x,z,m,c,g⟩=>⟨j,z,m,g⟩) I.quiet w
noncomputable def tRet(te:TE):TS:=λD j H=>te j H D.rt
theorem Tk(l:PE X e te):PS X (.Return (some e) pos) (tRet te):=by
 intro w s j H D I h;exact wpAny_Return_some (thn (l w s j H _ I h) λv d ⟨x,y,z,m,g⟩=>⟨x,j,y,z,m,g⟩)
noncomputable def tIfS(c:TT)(t u:TS):TS:=λD j H=>c j H λb l=>if b=true then t D j l else u D j l
theorem Tl{c:Expr}{a b:List Stmt}{w:TT}(f:PT X c w)(q:PSs X a t)(r:PSs X b u):PS X (.If c a b pos) (tIfS w t u):=by
 intro j s l H D I h;refine wpAny_If (thn (f j s l H _ I h) λd y ⟨z,m,g⟩=>?_);cases d with
 |true=>exact q j y l z D m g
 |false=>exact r j y l z D m g
noncomputable def Tn:TS:=λ_ _ _=>False
theorem ps_never:PS X st Tn:=λ_ _ _ _ _ _ h=>h.elim
end
abbrev TG:=V->St->Hp->(St->Hp->Prop)->Prop
abbrev TGs:=List V->St->Hp->(St->Hp->Prop)->Prop
def PG(X:Cx)(j:Expr)(t:TG):Prop:=
 ∀(w:List (Addr×Obj))(s:X2)(y:St)(H:Hp)(v:V)(u:X0)(Q:St->Hp->Prop),Inv X w y H s->RelV v u->t v y H Q->
  X3 (X6 X.prog X.w) X.A (assign j X.env u) (λ_ m=>∃l z,Inv X w l z m/\Q l z) X.xe s
def PGs(X:Cx)(m:List Expr)(t:TGs):Prop:=
 ∀(l:List (Addr×Obj))(s:X2)(u:St)(H:Hp)(w:List V)(y:List X0)(Q:St->Hp->Prop),Inv X l u H s->Vals w y->t w u H Q->
  X3 (X6 X.prog X.w) X.A (assignInOrder ((Zz m X.env).map (·.2)) y) (λ_ g=>∃j z,Inv X l j z g/\Q j z) X.xe s
abbrev TSet:=V->V->V->Hp->(Hp->Prop)->Prop
def PSet(X:Cx)(t:TSet):Prop:=
 ∀(j:List (Addr×Obj))(s:X2)(l:St)(H:Hp)(o i v:V)(w y u:X0)(Q:Hp->Prop),Inv X j l H s->RelV o w->RelV i y->RelV v u->t o i v H Q->
  X3 (X6 X.prog X.w) X.A (setItem w y u) (λ_ m=>∃z,Inv X j l z m/\Q z) X.xe s
section
variable{X:Cx}{pos:Pos}
noncomputable def CN(i:Nat):TG:=λv j H Q=>Q (j.set i (some v)) H
theorem ID(j:X.N.Nodup)(l:X.N[i]?=some x)(w:Loc X.env.scope x)(y:X.fn x=true\/X.env.scope.names.lookup x=some .local:=by first|exact .inl rfl|exact .inr rfl|assumption):PG X (.Name x pos) (CN i):=by
 intro m s g H v u Q I r h;exact wpAny_assign_Name (IA I j l w r (λd z=>⟨_,H,z,h⟩) y)
noncomputable def gNil:TGs:=λj l H Q=>j=[]/\Q l H
noncomputable def IF(t:TG)(u:TGs):TGs:=λl w H Q=>∃v r,l=v::r/\t v w H λj y=>u r j y Q
theorem To:PGs X [] gNil:=by
 intro l s j H u w Q I r h;obtain⟨e,h⟩:=h;subst e;cases r;exact assignInOrder_nil ⟨j,H,I,h⟩
theorem Tp{e:Expr}{es:List Expr}{t:TG}{u:TGs}(h1:PG X e t)(h2:PGs X es u)
  (w:(Zz (e::es) X.env).map (·.2)=assign e X.env::(Zz es X.env).map (·.2):=by rfl):PGs X (e::es) (IF t u):=by
 intro l s y H q p Q I r h;obtain⟨v,L,z,h⟩:=h;subst z;cases r with
 |cons r m=>
  rw[w];refine assignInOrder_cons (thn (h1 l s y H _ _ _ I r h) λ_ g ⟨j,d,c,f⟩=>?_);exact h2 l g j d _ _ Q c m f
def gTup(K:X4)(n:Nat)(t:TGs):TG:=λv l H Q=>∃a j,v=.ref a/\SqT K H a j/\j.length=n/\t j l H Q
theorem Tq{k:Nat}{t:TGs}(m:X.calm=true)(h:PGs X es t)
  (g:(Zz es X.env).length=n:=by rfl)(j:(Zz es X.env).findIdx? (·.1)=none:=by rfl):PG X (.Tuple es k pos) (gTup X.K n t):=by
 intro w s y H v u Q I r l;obtain⟨a,d,c,f,q,l⟩:=l;subst c;cases r;obtain⟨p,z,L,R⟩:=I.tuple f;refine assign_Tuple_tuple (I.ok.hd m) L (by simp[g,<-q,z.length]) j λN O=>?_
 have P:Inv X w y H {s with heap:=N}:=I.kept (t':=s.toks) λb o e=>O b o (XB (Xv e)) e;exact h w _ y H d _ Q P (by simpa using z) l
noncomputable def gSub(to l:TE)(t:TSet):TG:=λv j H Q=>to j H λo u=>l j u λi w=>t o i v w λy=>Q j y
theorem Tr{o i:Expr}{to m:TE}{t:TSet}(g:PE X o to)(d:PE X i m)(c:PSet X t)
  (f:∀v,assign (.Subscript o i pos) X.env v=(do
   let j<- Z0 [v] (eval o X.env)
   let l<- Z0 [v,j] (eval i X.env)
   standAt pos
   Z0 [v,j,l] (setItem j l v)
   release [v,j,l] []):=by intro _;rfl):PG X (.Subscript o i pos) (gSub to m t):=by
 intro z s w H v u Q I r h;rw[f];refine X1 (YH (thn (g z s w H _ I h) λj q ⟨x,p,e,L,N⟩=>?_));refine X1 (YH (thn (d z q w p _ e N) λl O ⟨y,P,R,T,U⟩=>?_));refine X1 (wpAny_standAt (X1 (YH (thn (c z O w P x y v j l u _ R L T r U) λ_ A ⟨W,Y,Z⟩=>?_))));exact wpAny_release ⟨w,W,Y,Z⟩
noncomputable def tAsg(te:TE)(g:TG):TS:=λD j H=>te j H λx l=>g x j l D.nx
theorem IG{tg e:Expr}{te:TE}{g:TG}(u:PE X e te)(w:PG X tg g)(y:swapsWithSole [tg] e pos.line X.env=pure false:=by rfl)(hw:swappedStores [tg] e X.env=pure none:=by rfl)
  (h1:(Zz [tg] X.env).map (·.2)=[assign tg X.env]:=by rfl):PS X (.Assign [tg] e pos) (tAsg te g):=by
 intro j s l H D I h;refine wpAny_Assign_stores (thn (u j s l H _ I h) λv z ⟨x,m,d,c,f⟩=>?_) y hw;rw[h1];exact thn (w j z l m x v _ d c f) λ_ r q=>q
theorem IH{i:Nat}{x:Str}{e:Expr}{te:TE}{pos':Pos}(j:X.N.Nodup)(l:X.N[i]?=some x)(u:Loc X.env.scope x)(w:PE X e te)(z:Zy e (some (.Name x pos')) pos.line X.env=pure false:=by rfl)(m:X.fn x=true\/X.env.scope.names.lookup x=some .local:=by first|exact .inl rfl|exact .inr rfl|assumption):
  PS X (.Assign [.Name x pos'] e pos) (tAsg te (CN i)):=by
 intro g s d H D I h;refine wpAny_Assign_Name (thn (w g s d H _ I h) λv L ⟨y,c,f,q,r⟩=>?_) z;exact IA f j l u q (λN p=>⟨_,c,p,r⟩) m
def Ts(c:TT)(tb:TS):TS:=λD j H=>∃W:Nat->St->Hp->Prop,(∃m,W m j H)/\∀m j H,W m j H->
 c j H λb u=>if b=true then∃N:St->Hp->Prop,(∀l w,N l w->∃y,y<m/\W y l w)/\tb {D with nx:=N,ct:=N,bk:=D.nx} j u else D.nx j u
theorem Tt{c:Expr}{u:List Stmt}{O:TT}{tb:TS}(P:PassesOwn (X6 X.prog X.w) X.A X.env X.xe)(A:PT X c O)(B:PSs X u tb):PS X (.While c u [] pos) (Ts O tb):=by
 intro d s C H D I h;obtain⟨W,⟨E,F⟩,w⟩:=h;refine wpAny_While (codeAny_whileLoop (λn G=>∃y R,Inv X d y R G/\W n y R) ?_ E ⟨C,H,I,F⟩);rintro n J ⟨l,T,M,Q⟩;refine UP P (thn (A d J l T _ M (w n l T Q)) λb S ⟨U,Y,m⟩=>?_);cases b with
 |true=>
  obtain⟨N,Z,m⟩:=m;rw[if_pos rfl];refine UP P (thn (B d S l U _ Y m) λf o g=>?_);cases f with
  |next=>
   obtain⟨j,z,q,r⟩:=g;obtain⟨p,e,L⟩:=Z j z r;exact⟨p,e,j,z,q,L⟩
  |cont=>
   obtain⟨j,z,q,r⟩:=g;obtain⟨p,e,L⟩:=Z j z r;exact⟨p,e,j,z,q,L⟩
  |brk=>exact g
  |ret v=>exact g
 |false=>
  rw[if_neg XD];exact wpAny_execs_nil ⟨l,U,Y,m⟩
end
structure It where
 go:Nat->Hp->Prop
 yld:Nat->Hp->V->Hp->Prop
 stop:Nat->Hp->Prop
noncomputable def FpOk(X:Cx)(j:List (Addr×Obj))(H:Hp)(b:Addr):Prop:=
 H b=none/\b≠X.env.locals/\b∉X.fs/\(b∈X.ex\/X.s₀.heap.objs.size<=b)/\(∀x c,X.env.cells.lookup x=some c->c≠b)/\∀p∈X.pn++j,p.1≠b
theorem Inv.fpOk(I:Inv X pq σ H s)(j:s.heap.objs.size<=b)(l:H' b=none):FpOk X pq H' b:=by
 refine⟨l,UW (Yv I.lt j),I.nofs j,.inr (XY I.sz j),λx c e z=>?_,λp u z=>?_⟩
 .obtain⟨v,q⟩:=I.cell x c e;exact absurd (Yv q.lt (by rw[z];exact j)) (Uz _)
 .exact absurd (Yv (Xv (I.pin p u).1) (by rw[z];exact j)) (Uz _)
structure Turn (P:Xw)(w:Xm)(K:X4)(tg:Expr)(J:It)(fp:List Addr)(it:Addr)(tn:Nat->Heap->Prop):Prop where
 mem:it∈fp
 obj:∀i h,tn i h->∀b∈fp,∃o,h.get? b=some o/\∀v,o.data≠.cell v
 keep:∀i h h',tn i h->(∀b∈fp,∀o,h.get? b=some o->h'.get? b=some o)->tn i h'
 item:∀(X:Cx),X.prog=P->X.w=w->X.K=K->X.calm=true->∀(i:Nat)(pq:List (Addr×Obj))(s:X2)(σ:St)(H:Hp)(E:X0->X2->Prop),Inv X pq σ H s->(∀b∈fp,FpOk X pq H b)->tn i s.heap->J.go i H->
  X3 (X6 P w) X.A (pyNext (.ref it)) (λr s1=>∃u,r=some u/\
   X3 (X6 P w) X.A (BS tg (.ref it) u) (λ_ s2=>∃x H',Inv X pq σ H' s2/\RelV x u/\J.yld i H x H'/\tn (i+1) s2.heap/\∀b∈fp,H' b=none) E s1) E s
 done:∀(X:Cx),X.prog=P->X.w=w->X.K=K->X.calm=true->∀(i:Nat)(pq:List (Addr×Obj))(s:X2)(σ:St)(H:Hp)(E:X0->X2->Prop),Inv X pq σ H s->(∀b∈fp,FpOk X pq H b)->tn i s.heap->J.stop i H->
  X3 (X6 P w) X.A (pyNext (.ref it)) (λr s1=>r=none/\Inv X pq σ H s1) E s
 self:∀(A:Xz)(i:Nat)(s:X2)(Q:X0->X2->Prop)(E:X0->X2->Prop),tn i s.heap->Q (.ref it) s->X3 (X6 P w) A (pyIter (.ref it)) Q E s
abbrev TI:=St->Hp->(It->Hp->Prop)->Prop
def PIE(X:Cx)(u:List (Addr×Obj))(g:St)(tg:Expr)(R:It->Hp->Prop)(j:X0)(w:X2):Prop:=
 ∃(y:Addr) (z:List Addr) (m:Nat->Heap->Prop) (J:It) (l:Hp),j=.ref y/\Inv X u g l w/\Turn X.prog X.w X.K tg J z y m/\m 0 w.heap/\(∀b∈z,FpOk X u l b)/\R J l
def PI(X:Cx)(tg j:Expr)(w:TI):Prop:=
 ∀(u:List (Addr×Obj))(s:X2)(l:St)(H:Hp)(R:It->Hp->Prop),Inv X u l H s->w l H R->
  X3 (X6 X.prog X.w) X.A (eval j X.env) (λv y=>X3 (X6 X.prog X.w) X.A (pyIter v) (PIE X u l tg R) X.xe y) X.xe s
theorem WM(l:s.heap.get? it=some o)(w:o.cls=.type n)(y:o.data=.fields vs)
  (z:["enumerate","zip","dict_itemiterator","dict_reverseitemiterator","odict_iterator","itertools.zip_longest","itertools.pairwise"].contains n=false)(j:Q () s):X3 M A (BS tg (.ref it) u) Q E s:=by
 unfold BS;cases tg<;>first
  |exact X7 j
  |(cases u<;>first
    |exact X7 j
    |(refine X1 (Vk l ?_)
      rw[w,y];show X3 M A (if(["enumerate","zip","dict_itemiterator","dict_reverseitemiterator","odict_iterator","itertools.zip_longest","itertools.pairwise"].contains n&&vs[0]?==some (Y4 _))=true then _ else _) Q E s;rw[if_neg (by intro h;rw[z,WD]at h;cases h)]
      exact X7 j))
def Itl(K:X4)(a:Addr):It:=
 ⟨λi H=>∃j x,SqL K H a j/\j[i]?=some x,λi H x l=>l=H/\∀j,SqL K H a j->j[i]?=some x,λi H=>∃j,SqL K H a j/\j.length<=i⟩
def Itt(K:X4)(a:Addr):It:=
 ⟨λi H=>∃j x,SqT K H a j/\j[i]?=some x,λi H x l=>l=H/\∀j,SqT K H a j->j[i]?=some x,λi H=>∃j,SqT K H a j/\j.length<=i⟩
noncomputable def Itr(lo:Int)(n:Nat):It:=⟨λi _=>i<n,λi H x j=>j=H/\x=.int (lo+i),λi _=>n<=i⟩
theorem Tu{K:X4}(a it:Addr):Turn P w K tg (Itl K a) [it] it (λi h=>h.IsListIter it a i)where
 mem:=by simp
 obj:=λi h st b j=>by
  have e:b=it:=by simpa using j
  subst e;obtain⟨o,e,c,d⟩:=st;exact⟨o,e,λv z=>by rw[d]at z;cases z⟩
 keep:=λi h y st k=>st.at λo e=>k it (by simp) o e
 item:=by
  intro X f q r A i B s C H E I m st L;subst f q r;obtain⟨D,x,g,N⟩:=L;obtain⟨O,R,p,F⟩:=I.list g;obtain⟨u,G,J⟩:=R.get N;obtain⟨T,U,M,W,Y,Z⟩:=m it (by simp)
  refine wpAny_pyNext_list_item st p.isList (x:=u) (by simpa using G) λy l Q=>?_
  have S:Inv X B C H {s with heap:=y}:=I.turned (t':=s.toks) (λb o j e=>(Q.2 b j).trans e) T U W Y Z;obtain⟨o,e,c,d⟩:=id l;exact⟨u,rfl,WM (s:={s with heap:=y}) e c d (by decide) ⟨x,H,S,J,⟨rfl,λys n=>by rw[I.list_inj n g];exact N⟩,l,λb j=>(m b j).1⟩⟩
 done:=by
  intro X f q r A i B s C H E I m st L;subst f q r;obtain⟨D,g,N⟩:=L;obtain⟨O,R,p,F⟩:=I.list g;obtain⟨T,U,M,W,Y,Z⟩:=m it (by simp)
  have hl:=R.length;exact wpAny_pyNext_list_end (I.ok.hd A) st p.isList (by simp;lia) λy eb=>⟨rfl,I.turned (t':=s.toks) (λb o j e=>eb b o j e) T U W Y Z⟩
 self:=λ_ _ _ _ _ st h=>wpAny_pyIter_listiter st h
theorem Tv{K:X4}(a it:Addr):Turn P w K tg (Itt K a) [it] it (λi h=>h.IsTupleIter it a i)where
 mem:=by simp
 obj:=λi h st b j=>by
  have e:b=it:=by simpa using j
  subst e;obtain⟨o,e,c,d⟩:=st;exact⟨o,e,λv z=>by rw[d]at z;cases z⟩
 keep:=λi h m st k=>st.at λo e=>k it (by simp) o e
 item:=by
  intro X q r L A i B s C H E I g st N;subst q r L;obtain⟨D,x,f,O⟩:=N;obtain⟨l,R,p,F⟩:=I.tuple f;obtain⟨u,G,J⟩:=R.get O;obtain⟨T,U,M,W,Y,Z⟩:=g it (by simp)
  refine wpAny_pyNext_tuple_item st (show s.heap.IsTuple a l.toArray from p) (x:=u) (by simpa using G) λm y Q=>?_
  have S:Inv X B C H {s with heap:=m}:=I.turned (t':=s.toks) (λb o j e=>(Q.2 b j).trans e) T U W Y Z;obtain⟨o,e,c,d⟩:=id y;exact⟨u,rfl,WM (s:={s with heap:=m}) e c d (by decide) ⟨x,H,S,J,⟨rfl,λys n=>by rw[I.tuple_inj n f];exact O⟩,y,λb j=>(g b j).1⟩⟩
 done:=by
  intro X q r L A i B s C H E I g st N;subst q r L;obtain⟨D,f,O⟩:=N;obtain⟨l,R,p,F⟩:=I.tuple f;obtain⟨T,U,M,W,Y,Z⟩:=g it (by simp)
  have hl:=R.length;exact wpAny_pyNext_tuple_end (I.ok.hd A) st (show s.heap.IsTuple a l.toArray from p) (by simp;lia) λm eb=>⟨rfl,I.turned (t':=s.toks) (λb o j e=>eb b o j e) T U W Y Z⟩
 self:=λ_ _ _ _ _ st h=>wpAny_pyIter_tupleiter st h
theorem Tw{K:X4}(it:Addr)(lo:Int)(n:Nat):Turn P w K tg (Itr lo n) [it] it (λi h=>IsRangeIter h it (lo+(i:Nat)*1) ((n:Int) - (i:Nat)) 1)where
 mem:=by simp
 obj:=λi h st b j=>by
  have e:b=it:=by simpa using j
  subst e;exact⟨_,st,λv z=>by
   have U:Ua _=Data.cell v:=z;cases U⟩
 keep:=λi h u st k=>k it (by simp) _ st
 item:=by
  intro X m g d c i O s R H E I y st f;subst m g d;obtain⟨q,r,Y,p,L,N⟩:=y it (by simp)
  have W:=Walks.range (prog:=X.prog) (w:=X.w) (I.ok.hd c) it lo 1 n;refine W.item i s _ _ f st λv u T Z l A=>?_;obtain⟨t,rfl⟩:=Z;have B:Inv X O R H {s with heap:=u,toks:=T}:=I.turned (λb o j e=>A b o (by simpa using j) e) q r p L N
  refine⟨_,rfl,WM (s:={s with heap:=u,toks:=T}) (n:="range_iterator") l rfl rfl (by decide) ⟨.int (lo+i),H,B,⟨t,?_⟩,⟨rfl,rfl⟩,l,fun b j=>(y b j).1⟩⟩
  rw[Int.mul_one]
 done:=by
  intro X m g d c i O s R H E I y st f;subst m g d;obtain⟨q,r,Y,p,L,N⟩:=y it (by simp)
  exact wpAny_pyNext_range_end (I.ok.hd c) st (by have:n<=i:=f;lia) λu C=>⟨rfl,I.turned (t':=s.toks) (λb o j e=>C b o j e) q r p L N⟩
 self:=λ_ _ _ _ _ st h=>wpAny_pyIter_rangeiter st h
section
variable{X:Cx}{tg:Expr}
theorem Tx{lo:Int}{t:Tok}(I:Inv X pq σ H s)(h1:-(2^62)<=lo)(h2:lo<2^62)(h3:-(2^62)<=hi)(h4:hi<2^62)
  (q:R (Itr lo (hi - lo).toNat) H):X3 (X6 X.prog X.w) X.A (pyIter (.ref s.heap.objs.size)) (PIE X pq σ tg R) E {s with heap:=s.heap.push {cls:=.type "range",data:=.fields #[.int lo t,.int hi u,.int 1 v]},toks:=tk}:=by
 refine wpAny_pyIter_range (IsRange.new ..) (small_one h1 h2 h3 h4) ?_;have j:Inv X pq σ H {s with heap:=s.heap.push {cls:=.type "range",data:=.fields #[.int lo t,.int hi u,.int 1 v]},toks:=tk}:=I.kept fun b o e=>Xr _ e;refine⟨(s.heap.push {cls:=.type "range",data:=.fields #[.int lo t,.int hi u,.int 1 v]}).objs.size,[(s.heap.push {cls:=.type "range",data:=.fields #[.int lo t,.int hi u,.int 1 v]}).objs.size],_,_,H,rfl,
  j.kept (t':=tk) λb o e=>Xr _ e,Tw _ lo (hi - lo).toNat,?_,λb l=>?_,q⟩
 .have w:lo+((0:Nat):Int)*1=lo:=by simp
  have y:(((hi - lo).toNat:Nat):Int) - ((0:Nat):Int)=Builtin.Range.rangeSize lo hi 1:=by rw[rangeSize_one];split<;>lia
  show IsRangeIter _ _ (lo+((0:Nat):Int)*1) ((((hi - lo).toNat:Nat):Int) - ((0:Nat):Int)) 1;rw[w,y];exact XS _ rfl
 .have e:b=(s.heap.push {cls:=.type "range",data:=.fields #[.int lo t,.int hi u,.int 1 v]}).objs.size:=by simpa using l
  subst e;exact j.fpOk (Xe _) (j.hok.fresh (Xe _))
def Tz(ta:TA):TI:=λl H R=>ta l H λu w=>∃j:Int,u=[.int j]/\ -(2^62)<=j/\j<2^62/\R (Itr 0 j.toNat) w
theorem TB{a:Expr}{ta:TA}{p pos:Pos}(u:Gl X "range")(w:X.mg "range"=none)(y:PA X [a] ta)(z:XA [a] X.env=[(false,eval a X.env)]:=by rfl):PI X tg (.Call (.Name "range" p) [a] [] pos) (Tz ta):=by
 intro m s g H R I h;refine Call_ (UC I u w boot_range (WH (thn (y pos m s g H _ I h) λN O ⟨P,T,d,c,l⟩=>?_) z rfl));obtain⟨j,e,l,f,q⟩:=l;subst e;cases c with
 |cons r L=>
  cases L;obtain⟨t,rfl⟩:=r;exact call_range_1 (Tx d (by lia) (by lia) l f (by simpa using q))
def tFor(z:TI)(g:TG)(tb:TS):TS:=λD j H=>z j H λJ d=>∃W:Nat->Nat->St->Hp->Prop,(∃m,W 0 m j d)/\∀i m j H,W i m j H->
 (J.stop i H/\D.nx j H)\/(J.go i H/\∃N:St->Hp->Prop,(∀l u,N l u->∃y,y<m/\W (i+1) y l u)/\∀x u,J.yld i H x u->g x j u λw c=>tb {D with nx:=N,ct:=N,bk:=D.nx} w c)
noncomputable def VM(j:List Addr)(h:Heap):List (Addr×Obj):=j.filterMap λb=>(h.get? b).map λo=>(b,o)
theorem CO(j:b∈fp)(e:h.get? b=some o):(b,o)∈VM fp h:=List.mem_filterMap.mpr ⟨b,j,by rw[e];rfl⟩
theorem TC(j:p∈VM fp h):p.1∈fp/\h.get? p.1=some p.2:=by
 obtain⟨b,l,e⟩:=List.mem_filterMap.mp j;cases q:h.get? b with
 |none=>rw[q]at e;cases e
 |some o=>
  rw[q]at e;have u:(b,o)=p:=Y9 e;subst u;exact⟨l,q⟩
theorem Inv.pinned(I:Inv X pq σ H s)(u:∀b∈fp,FpOk X pq H b)(w:∀b∈fp,∃o,s.heap.get? b=some o/\∀v,o.data≠.cell v):Inv X (pq++VM fp s.heap) σ H s:=
 I.pins_of λp y=>(Yh.mp y).elim (λz=>I.pin p (YC _ z)) λz=>by
  obtain⟨j,e⟩:=TC z;obtain⟨m,g,c,_⟩:=u p.1 j;obtain⟨o,l,d⟩:=w p.1 j;rw[e]at l;cases l;exact⟨e,m,g,c,d⟩
theorem Inv.unpinned(I:Inv X (pq++pl) σ H s):Inv X pq σ H s:=I.pins_of λp j=>I.pin p (YC _ (DQ _ j))
theorem TD{l:Expr}{O:List Stmt}{wi:TI}{g:TG}{tb:TS}{pos:Pos}(Y:PassesOwn (X6 X.prog X.w) X.A X.env X.xe)(hc:X.calm=true)(hi:PI X tg l wi)(hg:PG X tg g)(w:PSs X O tb)
  (hs:∀x,BU l X.env x=pure x:=by intro _;rfl):PS X (.For tg l O [] pos) (tFor wi g tb):=by
 intro R s σ H D I h;refine wpAny_For (thn (hi R s σ H _ I h) λv s1 h1=>thn h1 λitv s2 h2=>?_) hs;obtain⟨it,Z,tn,J,H2,e,I2,T,G,f2,W,⟨m0,w0⟩,A⟩:=h2;subst e;have y:∀{L:Hp},(∀b∈Z,L b=none)->∀b∈Z,FpOk X R L b:=λhn b w=>⟨hn b w,(f2 b w).2⟩;refine codeAny_forLoop_any (λn s'=>∃i z L,Inv X R z L s'/\tn i s'.heap/\(∀b∈Z,L b=none)/\W i n z L) ?_ m0 ⟨0,σ,H2,I2,G,λb w=>(f2 b w).1,w0⟩;rintro n s3 ⟨i,c,F,I3,st3,B,w3⟩;rcases A i n c F w3 with⟨C,qn⟩|⟨go,N,hN,step⟩
 .refine UP Y (thn (T.done X rfl rfl rfl hc i R s3 c F X.xe I3 (y B) st3 C) λr s4 ⟨M,I4⟩=>?_);subst M;exact wpAny_execs_nil ⟨c,F,I4,qn⟩
 .refine UP Y (thn (T.item X rfl rfl rfl hc i R s3 c F X.xe I3 (y B) st3 go) λr s4 ⟨u,M,h4⟩=>?_);subst M;refine UP Y (thn h4 λ_ s5 ⟨x,H5,I5,r5,y5,U,Q⟩=>?_);have S:=I5.pinned (y Q) (T.obj _ _ U);refine UP Y (thn (hg _ s5 c H5 x u _ S r5 (step x H5 y5)) λ_ s6 ⟨a,H6,I6,q6⟩=>?_);refine UP Y (thn (w _ s6 a H6 _ I6 q6) λf s7 P=>?_);have again:∀{j:St} {q:Hp},Inv X (R++VM Z s5.heap) j q s7->N j q->∃m,m<n/\∃i z L,Inv X R z L s7/\tn i s7.heap/\(∀b∈Z,L b=none)/\W i m z L:=fun{j q} p E=>by
   obtain⟨m',hm,w7⟩:=hN j q E;refine⟨m',hm,i+1,j,q,p.unpinned,T.keep _ _ _ U λb w o e=>(p.pin (b,o) (YC _ (YC _ (CO w e)))).1,λb w=>?_,w7⟩;obtain⟨o,e,d⟩:=T.obj _ _ U b w;exact(p.pin (b,o) (YC _ (YC _ (CO w e)))).2.1
  cases f with
  |next=>obtain⟨j,q,p,E⟩:=P;exact again p E
  |cont=>obtain⟨j,q,p,E⟩:=P;exact again p E
  |brk=>obtain⟨j,q,p,P⟩:=P;exact⟨j,q,p.unpinned,P⟩
  |ret v=>obtain⟨x7,j,q,p,r7,P⟩:=P;exact⟨x7,j,q,p.unpinned,r7,P⟩
end
abbrev R2:=V->V->Hp->VK->Prop
def OpR(X:Cx)(f:X0->X0->Sem X0)(r:R2):Prop:=
 ∀(j:List (Addr×Obj))(s:X2)(l:St)(H:Hp)(x y:V)(v u:X0)(Q:VK),Inv X j l H s->RelV x v->RelV y u->r x y H Q->
  X3 (X6 X.prog X.w) X.A (f v u) (EP X j l Q) X.xe s
def UnR(X:Cx)(f:X0->Sem X0)(r:V->Hp->VK->Prop):Prop:=
 ∀(j:List (Addr×Obj))(s:X2)(l:St)(H:Hp)(x:V)(v:X0)(Q:VK),Inv X j l H s->RelV x v->r x H Q->
  X3 (X6 X.prog X.w) X.A (f v) (EP X j l Q) X.xe s
def Yw(X:Cx)(f:X0)(r:List V->Hp->VK->Prop):Prop:=
 ∀(j:List (Addr×Obj))(s:X2)(l:St)(H:Hp)(u:List V)(w:List X0)(Q:VK),Inv X j l H s->Vals u w->r u H Q->
  X3 (X6 X.prog X.w) X.A (call f w) (EP X j l Q) X.xe s
noncomputable def tOp(r:R2)(ta tb:TE):TE:=λj H Q=>ta j H λx l=>tb j l λy u=>r x y u Q
noncomputable def tUn(r:V->Hp->VK->Prop)(ta:TE):TE:=λj H Q=>ta j H λx l=>r x l Q
noncomputable def rI(C:Int->Int->Prop)(g:Int->Int->V):R2:=λx y H Q=>∃i j,x=.int i/\y=.int j/\C i j/\Q (g i j) H
noncomputable def rI0(g:Int->Int->V):R2:=λx y H Q=>∃i j,x=.int i/\y=.int j/\Q (g i j) H
noncomputable def rU(g:Int->V):V->Hp->VK->Prop:=λx H Q=>∃i,x=.int i/\Q (g i) H
section
variable{X:Cx}{a b c:Expr}{ta tb tc:TE}{pos:Pos}
theorem binT(q:PE X a ta)(r:PE X b tb){m:List (Addr×Obj)}{s:X2}{j:St}{H:Hp}{R:V->V->Hp->Prop}(I:Inv X m j H s)
  (h:ta j H λx d=>tb j d λy l=>R x y l){Q:X0->X2->Prop} {f:X0->X0->Sem X0}
  (p:∀v u g x y l,Inv X m j l g->RelV x v->RelV y u->R x y l->X3 (X6 X.prog X.w) X.A (f v u) Q X.xe g):
  X3 (X6 X.prog X.w) X.A (eval a X.env) (λv w=>X3 (X6 X.prog X.w) X.A (eval b X.env) (λu z=>X3 (X6 X.prog X.w) X.A (f v u) Q X.xe z) X.xe w) X.xe s:=by
 refine thn (q m s j H _ I h) λv e ⟨x,d,L,N,O⟩=>?_;refine thn (r m e j d _ L O) λu g ⟨y,l,P,T,U⟩=>?_;exact p v u g x y l P N T U
theorem TF{op:Um}{r:R2}(j:OpR X (Ym op) r)(l:PE X a ta)(w:PE X b tb):PE X (.BinOp a op b pos) (tOp r ta tb):=by
 intro z s m H Q I h;exact wpAny_BinOp (binT l w I h λv u g x y d f p e q=>j z g m d x y v u Q f p e q)
theorem TH{op:UnaryOp}{r:V->Hp->VK->Prop}(u:UnR X (unaryOp op) r)(w:PE X a ta):PE X (.UnaryOp op a pos) (tUn r ta):=by
 intro j s l H Q I h;exact UnaryOp_ (thn (w j s l H _ I h) λv y ⟨x,z,m,g,d⟩=>u j y l z x v Q m g d)
theorem opI{f:X0->X0->Sem X0}{C:Int->Int->Prop}{g:Int->Int->Int}
  (rule:∀(i j:Int)(t u:Tok)(s:X2)(Q:X0->X2->Prop)(E:X0->X2->Prop),C i j->Q (.int (g i j) s.toks) {s with toks:=s.toks+1}->X3 (X6 X.prog X.w) X.A (f (.int i t) (.int j u)) Q E s):
  OpR X f (rI C λi j=>.int (g i j)):=by
 intro d s r H x y v u Q I l w h;obtain⟨i,j,rfl,rfl,z,q⟩:=h;obtain⟨t,rfl⟩:=l;obtain⟨m,rfl⟩:=w;exact rule i j t m s _ _ z ⟨.int (g i j),H,I.tok _,⟨_,rfl⟩,q⟩
theorem opI0{f:X0->X0->Sem X0}{g:Int->Int->Int}
  (rule:∀(i j:Int)(t u:Tok)(s:X2)(Q:X0->X2->Prop)(E:X0->X2->Prop),Q (.int (g i j) s.toks) {s with toks:=s.toks+1}->X3 (X6 X.prog X.w) X.A (f (.int i t) (.int j u)) Q E s):
  OpR X f (rI0 λi j=>.int (g i j)):=by
 intro m s d H x y v u Q I l w h;obtain⟨i,j,rfl,rfl,q⟩:=h;obtain⟨t,rfl⟩:=l;obtain⟨z,rfl⟩:=w;exact rule i j t z s _ _ ⟨.int (g i j),H,I.tok _,⟨_,rfl⟩,q⟩
theorem opB0{f:X0->X0->Sem X0}{g:Int->Int->Bool}
  (rule:∀(i j:Int)(t u:Tok)(s:X2)(Q:X0->X2->Prop)(E:X0->X2->Prop),Q (.bool (g i j)) s->X3 (X6 X.prog X.w) X.A (f (.int i t) (.int j u)) Q E s):
  OpR X f (rI0 λi j=>.bl (g i j)):=by
 intro m s d H x y v u Q I l w h;obtain⟨i,j,rfl,rfl,q⟩:=h;obtain⟨t,rfl⟩:=l;obtain⟨z,rfl⟩:=w;exact rule i j t z s _ _ ⟨.bl (g i j),H,I,rfl,q⟩
noncomputable def CPow(i j:Int):Prop:=0<=j/\j<=1000000/\i.natAbs<2^64
noncomputable def CMul(i j:Int):Prop:=(-(2^64)<i/\i<2^64)\/(-(2^64)<j/\j<2^64)
theorem CMul.ok(h:CMul i j):IntMulOk i j:=by
 rcases h with⟨l,u⟩|⟨l,u⟩
 .exact .of_left (intBits_le_64 l u)
 .exact .of_right (intBits_le_64 l u)
theorem TJ:OpR X (Ym .Add) (rI0 λi j=>.int (i+j)):=opI0 λ_ _ _ _ _ _ _ q=>add_int q
theorem TK:OpR X (Ym .Sub) (rI0 λi j=>.int (i - j)):=opI0 λ_ _ _ _ _ _ _ q=>sub_int q
theorem TL:OpR X (Ym .Mult) (rI CMul λi j=>.int (i*j)):=opI λ_ _ _ _ _ _ _ l q=>mul_int q l.ok
theorem TM:OpR X (Ym .Mod) (rI (λ_ j=>0<j) λi j=>.int (i%j)):=opI λi j _ _ _ _ _ l q=>by
 have u:(0:Int)<j:=l;exact mod_int' (by lia) (by rw[Int.fmod_eq_emod_of_nonneg i (by lia)];exact q)
theorem TN:OpR X (Ym .Pow) (rI CPow λi j=>.int (i^j.toNat)):=opI λ_ _ _ _ _ _ _ l q=>pow_int_small l.1 l.2.1 l.2.2 q
theorem TQ:OpR X (Ym .BitAnd) (rI0 λi j=>.int (CK i j)):=opI0 λ_ _ _ _ _ _ _ q=>and_int q
theorem TR:OpR X (Ym .BitXor) (rI0 λi j=>.int (CL i j)):=opI0 λ_ _ _ _ _ _ _ q=>xor_int q
theorem unI{f:X0->Sem X0}{g:Int->Int}
  (rule:∀(i:Int)(t:Tok)(s:X2)(Q:X0->X2->Prop)(E:X0->X2->Prop),Q (.int (g i) s.toks) {s with toks:=s.toks+1}->X3 (X6 X.prog X.w) X.A (f (.int i t)) Q E s):
  UnR X f (rU λi=>.int (g i)):=by
 intro l s u H x v Q I j h;obtain⟨i,rfl,q⟩:=h;obtain⟨t,rfl⟩:=j;exact rule i t s _ _ ⟨.int (g i),H,I.tok _,⟨_,rfl⟩,q⟩
theorem TU:UnR X (unaryOp .USub) (rU λi=>.int (-i)):=unI λ_ _ _ _ _ q=>neg_int q
end
noncomputable def scal:V->V->Bool
 |.non,.non=>true|.non,.int _=>true|.int _,.non=>true|.non,.bl _=>true|.bl _,.non=>true|.non,.str _=>true|.str _,.non=>true
 |.int _,.int _=>true|.bl _,.bl _=>true|.str _,.str _=>true|.byt _,.byt _=>true
 |.int _,.str _=>true|.str _,.int _=>true|.bl _,.str _=>true|.str _,.bl _=>true
 |_,_=>false
def rEq:R2:=λx y H Q=>scal x y=true/\Q (.bl (decide (x=y))) H
def rNe:R2:=λx y H Q=>scal x y=true/\Q (.bl (!decide (x=y))) H
theorem II:decide (V.int i=V.int j)=(i==j):=by
 rw[Cn];simp
theorem IJ:decide (V.bl i=V.bl j)=(i==j):=by
 rw[Cn];simp
theorem IK:decide (V.str i=V.str j)=(i==j):=by
 rw[Cn];simp
theorem IL:decide (V.byt i=V.byt j)=(i.toList==j.toList):=by
 rw[Cn];cases i;cases j;simp
section
variable{X:Cx}{a b c:Expr}{ta tb tc:TE}{pos:Pos}
theorem XG{k:Bool}(I:Inv X pq σ H s)(q:Q (.bl k) H)(e:k=k'):EP X pq σ Q (.bool k') s:=by
 subst e;exact⟨.bl k,H,I,rfl,q⟩
theorem TV:OpR X (Y1 .Eq) rEq:=by
 intro g s d H x y v u Q I m l h;obtain⟨z,q⟩:=h;cases x with
 |non=>
  cases m;cases y with
  |non=>cases l;exact PySem.EqNone.eq_none_none (XG I q (by simp))
  |bl j=>cases l;exact PySem.EqNone.eq_none_bool (XG I q (by simp))
  |int j=>obtain⟨w,rfl⟩:=l;exact PySem.EqNone.eq_none_int (XG I q (by simp))
  |str j=>obtain⟨w,rfl⟩:=l;exact PySem.EqNone.eq_none_str (XG I q (by simp))
  |_=>exact absurd (show false=true from z) XD
 |bl i=>
  cases m;cases y with
  |non=>cases l;exact PySem.EqNone.eq_bool_none (XG I q (by simp))
  |bl j=>cases l;exact eq_bool (XG I q IJ)
  |str j=>obtain⟨w,rfl⟩:=l;exact PySem.EqMixed.eq_bool_str (XG I q (by simp))
  |_=>exact absurd (show false=true from z) XD
 |int i=>
  obtain⟨t,rfl⟩:=m;cases y with
  |non=>cases l;exact PySem.EqNone.eq_int_none (XG I q (by simp))
  |int j=>obtain⟨w,rfl⟩:=l;exact eq_int (XG I q II)
  |str j=>obtain⟨w,rfl⟩:=l;exact PySem.EqMixed.eq_int_str (XG I q (by simp))
  |_=>exact absurd (show false=true from z) XD
 |str i=>
  obtain⟨t,rfl⟩:=m;cases y with
  |non=>cases l;exact PySem.EqNone.eq_str_none (XG I q (by simp))
  |bl j=>cases l;exact PySem.EqMixed.eq_str_bool (XG I q (by simp))
  |int j=>obtain⟨w,rfl⟩:=l;exact PySem.EqMixed.eq_str_int (XG I q (by simp))
  |str j=>obtain⟨w,rfl⟩:=l;exact eq_str (XG I q IK)
  |_=>exact absurd (show false=true from z) XD
 |byt i=>
  obtain⟨t,rfl⟩:=m;cases y with
  |byt j=>obtain⟨w,rfl⟩:=l;exact PySem.W.eq_bytes (XG I q IL)
  |_=>exact absurd (show false=true from z) XD
 |_=>cases y<;>exact absurd (show false=true from z) XD
theorem TW:OpR X (Y1 .NotEq) rNe:=by
 intro g s d H x y v u Q I m l h;obtain⟨z,q⟩:=h;cases x with
 |non=>
  cases m;cases y with
  |non=>cases l;exact PySem.EqNone.ne_none_none (XG I q (by simp))
  |bl j=>cases l;exact PySem.EqNone.ne_none_bool (XG I q (by simp))
  |int j=>obtain⟨w,rfl⟩:=l;exact PySem.EqNone.ne_none_int (XG I q (by simp))
  |str j=>obtain⟨w,rfl⟩:=l;exact PySem.EqNone.ne_none_str (XG I q (by simp))
  |_=>exact absurd (show false=true from z) XD
 |bl i=>
  cases m;cases y with
  |non=>cases l;exact PySem.EqNone.ne_bool_none (XG I q (by simp))
  |bl j=>cases l;exact ne_bool (XG I q (congrArg not IJ))
  |str j=>obtain⟨w,rfl⟩:=l;exact PySem.EqMixed.ne_bool_str (XG I q (by simp))
  |_=>exact absurd (show false=true from z) XD
 |int i=>
  obtain⟨t,rfl⟩:=m;cases y with
  |non=>cases l;exact PySem.EqNone.ne_int_none (XG I q (by simp))
  |int j=>obtain⟨w,rfl⟩:=l;exact ne_int (XG I q (congrArg not II))
  |str j=>obtain⟨w,rfl⟩:=l;exact PySem.EqMixed.ne_int_str (XG I q (by simp))
  |_=>exact absurd (show false=true from z) XD
 |str i=>
  obtain⟨t,rfl⟩:=m;cases y with
  |non=>cases l;exact PySem.EqNone.ne_str_none (XG I q (by simp))
  |bl j=>cases l;exact PySem.EqMixed.ne_str_bool (XG I q (by simp))
  |int j=>obtain⟨w,rfl⟩:=l;exact PySem.EqMixed.ne_str_int (XG I q (by simp))
  |str j=>obtain⟨w,rfl⟩:=l;exact ne_str (XG I q (congrArg not IK))
  |_=>exact absurd (show false=true from z) XD
 |byt i=>
  obtain⟨t,rfl⟩:=m;cases y with
  |byt j=>obtain⟨w,rfl⟩:=l;exact PySem.W.ne_bytes (XG I q (congrArg not IL))
  |_=>exact absurd (show false=true from z) XD
 |_=>cases y<;>exact absurd (show false=true from z) XD
theorem TX:OpR X (Y1 .Lt) (rI0 λi j=>.bl (decide (i<j))):=opB0 λ_ _ _ _ _ _ _ q=>lt_int q
theorem TY:OpR X (Y1 .LtE) (rI0 λi j=>.bl (decide (i<=j))):=opB0 λ_ _ _ _ _ _ _ q=>le_int q
theorem TZ:OpR X (Y1 .Gt) (rI0 λi j=>.bl (decide (j<i))):=opB0 λ_ _ _ _ _ _ _ q=>gt_int q
theorem _sa:OpR X (Y1 .GtE) (rI0 λi j=>.bl (decide (j<=i))):=opB0 λ_ _ _ _ _ _ _ q=>ge_int q
theorem _q9:OpR X (Y1 .Is) (λx y H Q=>y=.non/\Q (.bl (decide (x=.non))) H):=by
 intro w s z H x y v u Q I j l h;obtain⟨rfl,q⟩:=h;cases l;refine is_none_gen (XG I q ?_);cases x<;>first
  |(cases j;rfl)
  |(obtain⟨t,rfl⟩:=j;rfl)
theorem _nx:OpR X (Y1 .IsNot) (λx y H Q=>y=.non/\Q (.bl (!decide (x=.non))) H):=by
 intro w s z H x y v u Q I j l h;obtain⟨rfl,q⟩:=h;cases l;refine isnot_none_gen (XG I q ?_);cases x<;>first
  |(cases j;rfl)
  |(obtain⟨t,rfl⟩:=j;rfl)
theorem _nt{op:CmpOp}{r:R2}(j:OpR X (Y1 op) r)(l:PE X a ta)(w:PE X b tb)(z:behindInMarks op b=false):PE X (.Compare a [op] [b] pos) (tOp r ta tb):=by
 intro m s g H Q I h;exact wpAny_Compare1 (binT l w I h λv u d x y f p e L q=>j m d g f x y v u Q p e L q) z
noncomputable def IM(t:TE):TT:=λj H Q=>t j H λx l=>∃k,x=.bl k/\Q k l
theorem _ng{op:CmpOp}{r:R2}(w:OpR X (Y1 op) r)(m:PE X a ta)(g:PE X b tb)(d:behindInMarks op b=false):PT X (.Compare a [op] [b] pos) (IM (tOp r ta tb)):=by
 intro j s l H Q I h;refine wpAny_isTrue_Compare1 (thn (m j s l H _ I h) λv f ⟨x,q,p,L,N⟩=>thn (g j f l q _ p N) λu O ⟨y,P,R,T,U⟩=>
  thn (w j O l P x y v u _ R L T U) λc B ⟨z,W,Y,Z,k,e,A⟩=>?_) d
 subst e;cases Z;exact Zx ⟨W,Y,A⟩
noncomputable def Es(r u:R2)(ta tb tc:TE):TE:=λj H Q=>ta j H λx w=>tb j w λy m=>r x y m λz l=>∃k,z=.bl k/\
 (if k=true then tc j l λg d=>u y g d Q else Q (.bl false) l)
theorem _l6{op j:CmpOp}{r g:R2}(N:OpR X (Y1 op) r)(m:OpR X (Y1 j) g)(O:PE X a ta)(P:PE X b tb)(R:PE X c tc)
  (T:lastMarks [op,j] [b,c]=false:=by with_unfolding_all rfl):PE X (.Compare a [op,j] [b,c] pos) (Es r g ta tb tc):=by
 intro l s w H Q I h;refine Compare_chain (thn (O l s w H _ I h) λv U ⟨x,W,Y,Z,A⟩=>chain_link (thn (P l U w W _ Y A) λu B ⟨y,C,D,f,E⟩=>
  thn (N l B w C x y v u _ D Z f E) λd F ⟨z,q,p,G,k,e,L⟩=>?_)) T
 subst e;cases G;refine Zx ?_;cases k with
 |false=>exact ite_ff ⟨.bl false,q,p,rfl,L⟩
 |true=>exact ite_tt (chain_last (thn (R l F w q _ p L) λJ M ⟨S,o,i,n,q4⟩=>m l M w o y S u J Q i f n q4))
theorem _kV{op j:CmpOp}{r g:R2}(N:OpR X (Y1 op) r)(m:OpR X (Y1 j) g)(O:PE X a ta)(P:PE X b tb)(R:PE X c tc)
  (T:lastMarks [op,j] [b,c]=false:=by with_unfolding_all rfl):PT X (.Compare a [op,j] [b,c] pos) (IM (Es r g ta tb tc)):=by
 intro l s w H Q I h;refine isTrue_chain (thn (O l s w H _ I h) λv U ⟨x,W,Y,Z,A⟩=>test_link (thn (P l U w W _ Y A) λu B ⟨y,C,D,f,E⟩=>
  thn (N l B w C x y v u _ D Z f E) λd F ⟨z,q,p,G,k,e,L⟩=>?_)) T
 subst e;cases G;refine Zx ?_;cases k with
 |false=>
  obtain⟨k',J,M⟩:=L;cases J;exact ite_ff ⟨q,p,M⟩
 |true=>
  refine ite_tt (test_last (thn (R l F w q _ p L) λS o ⟨i,n,I4,r4,q4⟩=>thn (m l o w n y i u S _ I4 f r4 q4) λd' s5 ⟨z2,H5,I5,r5,k2,e2,q5⟩=>?_));subst e2;cases r5;exact Zx ⟨H5,I5,q5⟩
theorem VN:(sizeLine:Nat)<2^63:=by rw[sizeLine_eq];decide
theorem _hG:OpR X (Ym .Add) (λx y H Q=>∃i j,x=.str i/\y=.str j/\i.length+j.length<=sizeLine/\Q (.str (i++j)) H):=by
 intro g s d H x y v u Q I l w h;obtain⟨i,j,rfl,rfl,z,q⟩:=h;obtain⟨t,rfl⟩:=l;obtain⟨m,rfl⟩:=w;exact add_str (λm f=>⟨.str (i++j),H,I.tok _,⟨_,rfl⟩,q⟩) z
theorem _n(r:Vals [x] us):∃u,us=[u]/\RelV x u:=by
 cases r with
 |cons j l=>cases l;exact⟨_,rfl,j⟩
theorem VO(r:Vals [x,y] us):∃u j,us=[u,j]/\RelV x u/\RelV y j:=by
 cases r with
 |cons l w=>
  cases w with
  |cons z m=>cases m;exact⟨_,_,rfl,l,z⟩
theorem _k7(l:X.calm=true):Yw X (.builtin "max") (fun xs H Q=>∃i j,xs=[.int i,.int j]/\Q (.int (if j>i then j else i)) H):=by
 intro w s y H xs z Q I r h;obtain⟨i,j,rfl,q⟩:=h;obtain⟨u,m,rfl,⟨t,rfl⟩,⟨g,rfl⟩⟩:=VO r;refine max_two_ints (I.ok.hd l) λd f k=>⟨_,H,I.kept k,?_,q⟩;by_cases hj:j>i
 .rw[if_pos hj,if_pos hj];exact⟨_,rfl⟩
 .rw[if_neg hj,if_neg hj];exact⟨_,rfl⟩
theorem _k6(l:X.calm=true):Yw X (.builtin "min") (fun xs H Q=>∃i j,xs=[.int i,.int j]/\Q (.int (if j<i then j else i)) H):=by
 intro w s y H xs z Q I r h;obtain⟨i,j,rfl,q⟩:=h;obtain⟨u,m,rfl,⟨t,rfl⟩,⟨g,rfl⟩⟩:=VO r;refine min_two_ints (I.ok.hd l) λd f k=>⟨_,H,I.kept k,?_,q⟩;by_cases hj:j<i
 .rw[if_pos hj,if_pos hj];exact⟨_,rfl⟩
 .rw[if_neg hj,if_neg hj];exact⟨_,rfl⟩
theorem _ka:Yw X (.type "int") (fun xs H Q=>(∃i,xs=[.int i]/\Q (.int i) H)\/∃k,xs=[.bl k]/\Q (.int (if k then 1 else 0)) H):=by
 intro l s w H xs y Q I r h;rcases h with⟨i,rfl,q⟩|⟨k,rfl,q⟩
 .obtain⟨u,rfl,t,rfl⟩:=_n r;exact call_int_int ⟨.int i,H,I,⟨_,rfl⟩,q⟩
 .obtain⟨u,rfl,j⟩:=_n r;cases j;exact call_int_bool ⟨.int (if k then 1 else 0),H,I.tok _,⟨_,rfl⟩,q⟩
end
structure ObjM (h:Heap)(x dx C:Addr)(mA:Str->Option X0):Prop where
 obj:h.get? x=some (Ux C dx)
 ns:h.Ns1 dx mA
 ne:dx≠x
set_option tactic.hygienic true in
theorem _j6{h:Heap}{l:Addr}{u:Str->Option X0}(n:h.Ns1 l u):∃w,h.get? l=some w/\∀name,Cf name w=some (u name):=by
 obtain⟨o,m,L,g,d,c,_,f⟩:=n;refine⟨o,g,λname=>?_⟩;have e:=f name;unfold nsFind findBy at e;rw[<-Array.find?_toList]at e;unfold Cf;rw[d];dsimp only;split
 .rename_i y q
  rw[q]at e;exact congrArg some e
 .rename_i q
  rw[q]at e;have a:m.toList.any (·.refKey)=false:=by
   rw[List.any_eq_false];intro y r;obtain⟨z,t,j⟩:=c y (Array.mem_toList_iff.mp r);simp[DictEntry.refKey,j]
  have p:¬m.toList.any (·.refKey)=true:=by rw[a];exact XD
  rw[if_neg p];exact congrArg some e
theorem ObjM.look(I:ObjM h x dx C mA):∃j,PySem.W.InstAt h x (Ux C dx) C (some j)/\∀name,Cf name j=some (mA name):=
 let⟨j,ho,hl⟩:=_j6 I.ns
 ⟨j,⟨I.obj,rfl,rfl,ho⟩,hl⟩
section
variable{prog:Xw}{w:Xm}{A:Xz}{E:X0->X2->Prop}{s:X2}{K:X4}{x dx C f:Addr}{mA:Str->Option X0}{name:Str}{v:X0}
theorem _os(X:K.In s.heap)(I:ObjM s.heap x dx C mA)(l:UT K C name=true)(u:Vy K C=true)
  (y:XV K (.ref C) name=some none)(z:mA name=some v)(j:PySem.W.handedIn v=true)(h:Q v {s with toks:=s.toks+1}):
  X3 (X6 prog w) A (getAttr (.ref x) name expr) Q E s:=by
 obtain⟨g,J,m⟩:=I.look;exact PySem.W.get_value X J (E4 l).1 (PySem.W.findObj_own u y rfl (by rw[m,z])) j h
theorem _lz(X:K.In s.heap)(I:ObjM s.heap x dx C mA)(j:UT K C name=true)
  (l:XV K (.ref C) name=some (some (.ref f)))(u:Ci K (.ref f)=true)(y:mA name=none)(h:Q (.ref f,[.ref x]) s):
  X3 (X6 prog w) A (getMethod (.ref x) name pl) Q E s:=by
 obtain⟨z,J,m⟩:=I.look;exact PySem.W.method_fn X J (E4 j).1 (E4 j).2 l (beq_iff_eq.mp u) (by show(Cf name z).map (·.isSome)=some false;rw[m,y];rfl) h
theorem _mW(X:K.In s.heap)(I:ObjM s.heap x dx C mA)
  (d:XV K (.ref C) "__setattr__"=some (some (.builtin "object.__setattr__")))(c:Wz K C=true)(q:E7 K C name=some none)(p:Vy K C=true)
  (hw:Eg mA ns)(hsz:ns.length<=sizeLine)
  (h:∀h',ObjM h' x dx C (λy=>if y=name then some v else mA y)->U4 dx s.heap h'->Q () {s with heap:=h',toks:=s.toks+2}):
  X3 (X6 prog w) A (setAttr (.ref x) name v) Q E s:=by
 obtain⟨P,J,R⟩:=I.look;refine PySem.W.set_plain X J d (PySem.W.osa_open (s:={s with toks:=s.toks+1}) (r:=none) X J c q λb=>?_);obtain⟨T,e,u⟩:=PySem.W.any_some p;have L:s.heap.get? x=some ⟨.ref C,some dx,.plain,#[]⟩:=I.obj;refine X1 (X7 (X1 (X1 (wpAny_loadPart L (X1 (PySem.W.Looks.here (s:={s with toks:=s.toks+1}) (PySem.W.looks_clsIn X e) ?_))))));rw[u];refine X7 (a:=some dx) (X1 (X7 (X1 ?_)));refine wpAny_nsSet1 (s:={s with toks:=s.toks+1}) I.ns λh' j l=>?_;obtain⟨U,N,O,z,m,g⟩:=j.count (PySem.Within.cons name v hw);refine X1 (wpAny_lookBehind z (by rw[m];exact pastItsLine_dict (XY g (by rw[YD];lia))) ?_)
 exact X7 (h _ ⟨(l.2 _ (XT I.ne)).trans I.obj,j,I.ne⟩ l)
theorem _lj(X:K.In s.heap)(l:WB K C=true)
  (u:XV K (.ref C) "__init__"=some (some (.ref f)))(y:PySem.W.typeIn K (.ref f)=some (.type "function"))
  (h:YQ (X6 prog w) (A.under (.builtin "type.__call__" ⟨.ref C::vs,kw⟩)) (.call (.ref f) ⟨.ref (s.heap.objs.size+1)::vs,kw⟩) (PySem.W.InitBack (s.heap.objs.size+1) R)
   {s with heap:=(s.heap.push U3).push (Ux C s.heap.objs.size)}):
  YQ (X6 prog w) A (.call (.ref C) ⟨vs,kw⟩) R s:=by
 obtain⟨z,g,d,t,os⟩:=s;exact PySem.W.make_core (PySem.W.makes_of X l) (PySem.W.looks_findIn X u) (λj=>PySem.W.bind_fn X j y) (.inl rfl) h
end
noncomputable def putF(f:Str)(v:V):List (Str×V)->List (Str×V)
 |[]=>[(f,v)]
 |(g,x)::r=>if g=f then(g,v)::r else(g,x)::putF f v r
theorem IN(f g:Str)(v:V):∀fs:List (Str×V),(putF f v fs).lookup g=if g=f then some v else fs.lookup g
 |[]=>by
  show U2 g [(f,v)]=_;by_cases h:g=f
  .have j:(g==f)=true:=beq_iff_eq.mpr h;simp only[U2,j,if_pos h]
  .have j:(g==f)=false:=beq_eq_false_iff_ne.mpr h;simp only[U2,j,if_neg h]
 |(k,x)::r=>by
  have l:=IN f g v r;rw[show putF f v ((k,x)::r)=(if k=f then(k,v)::r else(k,x)::putF f v r)from rfl];by_cases hk:k=f
  .rw[if_pos hk];by_cases h:g=k
   .have j:(g==k)=true:=beq_iff_eq.mpr h;simp only[U2,j,if_pos (h.trans hk)]
   .have j:(g==k)=false:=beq_eq_false_iff_ne.mpr h;simp only[U2,j,if_neg (λe:g=f=>h (e.trans hk.symm))]
  .rw[if_neg hk];by_cases h:g=k
   .have j:(g==k)=true:=beq_iff_eq.mpr h;simp only[U2,j,if_neg (λe:g=f=>hk (h.symm.trans e))]
   .have j:(g==k)=false:=beq_eq_false_iff_ne.mpr h;simp only[U2,j];exact l
theorem Et(f:Str)(v:V):∀fs:List (Str×V),f∈(putF f v fs).map (·.1)/\∀g,g∈fs.map (·.1)->g∈(putF f v fs).map (·.1)
 |[]=>⟨by simp[putF],λg h=>by simp at h⟩
 |(k,x)::r=>by
  obtain⟨j,l⟩:=Et f v r;rw[show putF f v ((k,x)::r)=(if k=f then(k,v)::r else(k,x)::putF f v r)from rfl];by_cases hk:k=f
  .rw[if_pos hk];subst hk;exact⟨by simp,λg h=>by simpa using h⟩
  .rw[if_neg hk];refine⟨?_,λg h=>?_⟩
   .rw[Xx];exact XM _ j
   .rw[Xx]at h ⊢;rcases Xk.mp h with e|e
    .exact Xk.mpr (.inl e)
    .exact XM _ (l g e)
theorem IP(f:Str)(v:V):∀fs:List (Str×V),(putF f v fs).length<=fs.length+1
 |[]=>by simp[putF]
 |(k,x)::r=>by
  have j:=IP f v r;rw[show putF f v ((k,x)::r)=(if k=f then(k,v)::r else(k,x)::putF f v r)from rfl];by_cases hk:k=f
  .rw[if_pos hk,YD,YD];lia
  .rw[if_neg hk,YD,YD];lia
theorem RelO.some_of(r:RelO (some v) o):∃u,o=some u/\RelV v u:=by
 cases o with
 |none=>exact(show False from r).elim
 |some u=>exact⟨u,rfl,r⟩
theorem RelO.none_of(r:RelO none o):o=none:=by
 cases o with
 |none=>rfl
 |some u=>exact(show False from r).elim
theorem _jN(r:RelV v u):PySem.W.handedIn u=true:=by
 cases v with
 |non=>cases(show u=Xu from r);rfl
 |bl b=>cases(show u=Y8 b from r);rfl
 |int i=>obtain⟨t,e⟩:=(show∃t,u=VE i t from r);cases e;rfl
 |str x=>obtain⟨t,e⟩:=(show∃t,u=XE x t from r);cases e;rfl
 |byt b=>obtain⟨t,e⟩:=(show∃t,u=Value.bytes b t from r);cases e;rfl
 |flt b=>obtain⟨t,e⟩:=(show∃t,u=Cr b t from r);cases e;rfl
 |ref a=>cases(show u=Xn a from r);rfl
 |ty n=>cases(show u=XC n from r);rfl
section
variable{P:Xw}{w:Xm}{H H':Hp}{h h':Heap}{a C dx:Addr}{fs fs':List (Str×V)}
theorem WN(l:HOk P w H h)(e:H a=some (.ins C dx fs)):∃j,ObjM h a dx C j/\(∀f,RelO (fs.lookup f) (j f))/\Eg j (fs.map (·.1))/\fs.length<=1000/\H dx=some (.own a):=by
 obtain⟨d,z,u,y,j,n,r,q⟩:=(show ObjOk P w H h a (.ins C dx fs)from l a _ e);exact⟨j,⟨y,n,u⟩,r,q,z,d⟩
end
structure Cls (K:X4)(C:Addr):Prop where
 pg:UT K C U8=true
 hd:Vy K C=true
 po:Wz K C=true
 sa:XV K (.ref C) "__setattr__"=some (some (.builtin "object.__setattr__"))
theorem Cls.get{K:X4}(c:Cls K C)(f:Str):UT K C f=true:=c.pg
noncomputable def NoAttr(K:X4)(C:Addr)(f:Str):Prop:=XV K (.ref C) f=some none
theorem NoAttr.taker{K:X4}(n:NoAttr K C f):E7 K C f=some none:=by
 unfold E7;rw[show XV K (.ref C) f=some none from n]
 rfl
structure Meth (K:X4)(C:Addr)(m:Str)(f:Addr):Prop where
 at_:XV K (.ref C) m=some (some (.ref f))
 fn:Ci K (.ref f)=true
 kp:YI K (.ref f)=true
section
variable{X:Cx}{pq:List (Addr×Obj)}{σ:St}{H:Hp}{s:X2}{a C dx:Addr}{fs:List (Str×V)}{f:Str}{v:V}{A:Xz}{E:X0->X2->Prop}
theorem _i0(I:Inv X pq σ H s)(e:H a=some (.ins C dx fs))(c:Cls X.K C)(n:NoAttr X.K C f)(l:fs.lookup f=some v)
  (h:∀u j,Inv X pq σ H j->RelV v u->Q u j):X3 (X6 X.prog X.w) A (getAttr (.ref a) f b) Q E s:=by
 obtain⟨y,O,r,_,_,_⟩:=WN I.hok e;obtain⟨u,z,w⟩:=RelO.some_of (v:=v) (o:=y f) (by rw[<-l];exact r f)
 exact _os I.kIn O (c.get f) c.hd n z (_jN w) (h u _ (I.tok _) w)
theorem IQ(I:Inv X pq σ H s)(e:H a=some (.ins C dx fs))(c:Cls X.K C)(k:Meth X.K C m g)(l:fs.lookup m=none)
  (h:Q (.ref g,[.ref a]) s):X3 (X6 X.prog X.w) A (getMethod (.ref a) m pl) Q E s:=by
 obtain⟨j,O,r,_,_,_⟩:=WN I.hok e;have u:j m=none:=RelO.none_of (by rw[<-l];exact r m)
 exact _lz I.kIn O (c.get m) k.at_ k.fn u h
theorem _hw(I:Inv X pq σ H s)(e:H a=some (.ins C dx fs))(c:Cls X.K C)(n:NoAttr X.K C f)(W:fs.length<1000)(p:RelV y u)
  (h:∀l,Inv X pq σ (upd H a (.ins C dx (putF f y fs))) l->Q () l):X3 (X6 X.prog X.w) A (setAttr (.ref a) f u) Q E s:=by
 obtain⟨w,O,r,m,_,d⟩:=WN I.hok e;have L:(fs.map (·.1)).length<=sizeLine:=by rw[Xd,sizeLine_eq];lia
 refine _mW I.kIn O c.sa c.po n.taker c.hd m L λN j P=>h _ ?_;have R:∃o,N.get? dx=some o:=let⟨o,_,_,e',_⟩:=j.ns;⟨o,e'⟩
 refine I.write (x:=a) (e:=dx) (by rw[e];exact YE) (.inr d) (λb q T z=>(P.2 b T).trans z) R ?_
 refine⟨by rw[XN O.ne];exact d,?_,O.ne,j.obj,_,j.ns,λg=>?_,λg U=>?_⟩
 .have:=IP f y fs;lia
 .show RelO ((putF f y fs).lookup g) (if g=f then some u else w g);rw[IN];by_cases q:g=f
  .rw[if_pos q,if_pos q];exact p
  .rw[if_neg q,if_neg q];exact r g
 .by_cases q:g=f
  .rw[q];exact(Et f y fs).1
  .refine(Et f y fs).2 g (m g λz=>U ?_);show(if g=f then some u else w g)=none;rw[if_neg q];exact z
theorem Inv.made(I:Inv X pq σ H s):Inv X pq σ (upd (upd H s.heap.objs.size (.own (s.heap.objs.size+1))) (s.heap.objs.size+1) (.ins C s.heap.objs.size []))
  {s with heap:=(s.heap.push U3).push (Ux C s.heap.objs.size)}:=by
 have j:(s.heap.push U3).get? s.heap.objs.size=some U3:=XS s.heap rfl;have w:((s.heap.push U3).push (Ux C s.heap.objs.size)).get? (s.heap.objs.size+1)=some (Ux C s.heap.objs.size):=by
  have:=XS (s.heap.push U3) (o:=Ux C s.heap.objs.size) rfl
  rwa [Zk]at this
 have z:(s.heap.push U3).Ns s.heap.objs.size (λ_=>none):=⟨U3,#[],_,j,rfl,(λe m=>absurd m (by simp)),λ_=>rfl⟩
 have g:=I.laid (a:=s.heap.objs.size) (o:=.own (s.heap.objs.size+1)) (h':=s.heap.push U3) (t':=s.toks) (λb u q=>Xr _ q) (Xe _) ⟨_,j⟩;refine g.laid (a:=s.heap.objs.size+1) (o:=.ins C s.heap.objs.size []) (t':=s.toks) (λb u q=>Xr _ q) (WC (Zk _ _)) ?_;have l:s.heap.objs.size≠s.heap.objs.size+1:=XB (VA _);refine⟨by rw[XN l,_I],YS _,l,w,λ_=>none,(Heap.Ns1.of_empty z).at λo q=>Xr _ q,λ_=>YE,λy d=>absurd rfl d⟩
theorem _oM(l:Uo e f env (eval e env)=eval e env)
  (h:X3 (X6 prog w) A (eval e env) (λo j=>X3 (X6 prog w) A (getAttr o f true) Q E j) E s):X3 (X6 prog w) A (eval (.Attribute e f pos) env) Q E s:=
 Attribute_any_ h (by rw[arm_eval_Attribute,l])
end
def tFld(K:X4)(ta:TE)(f:Str):TE:=λl H Q=>ta l H λx j=>∃a C u fs v,x=.ref a/\j a=some (.ins C u fs)/\Cls K C/\NoAttr K C f/\fs.lookup f=some v/\Q v j
def sFld(K:X4)(ta w:TE)(f:Str):TS:=λD j H=>w j H λy z=>ta j z λx l=>∃a C u fs,x=.ref a/\l a=some (.ins C u fs)/\Cls K C/\NoAttr K C f/\fs.length<1000/\
 D.nx j (upd l a (.ins C u (putF f y fs)))
section
variable{X:Cx}{o e value:Expr}{f:Str}{pos pos' tpos:Pos}{ta tv:TE}
theorem _q0(j:PE X e ta)(w:Uo e f X.env (eval e X.env)=eval e X.env):PE X (.Attribute e f pos) (tFld X.K ta f):=by
 intro y s z H Q I h;refine _oM w (thn (j y s z H _ I h) λu O ⟨x,m,g,d,a,C,P,fs,v,r,p,c,n,l,q⟩=>?_);subst r;obtain rfl:u=Xn a:=d;exact _i0 g p c n l λR T L N=>⟨v,m,L,N,q⟩
theorem _pT(z:PE X o ta)(m:PE X value tv)(g:Zy value (some (.Attribute o f pos')) pos.line X.env=pure false):PS X (.Assign [.Attribute o f pos'] value pos) (sFld X.K ta tv f):=by
 intro w s j H D I h;refine plainObj_wpAny_Assign_Attribute (thn (m w s j H _ I h) λu d ⟨y,r,p,L,q⟩=>thn (z w d j r _ p q) λN Y ⟨x,Z,O,P,a,C,A,fs,R,T,c,n,l,U⟩=>?_) g;subst R;obtain rfl:N=Xn a:=P;exact _hw O T c n l L λB W=>⟨j,_,W,U⟩
end
section
variable{X:Cx}{pq:List (Addr×Obj)}{σ:St}{H:Hp}{s:X2}{A:Xz}{E:X0->X2->Prop}{Q:X0->X2->Prop}{c:X0}{b:Bool}
inductive TyOf (K:X4)(H:Hp):V->X0->Prop where
 |non:TyOf K H .non (.type "NoneType")
 |bl (x:Bool):TyOf K H (.bl x) (.type "bool")
 |int (i:Int):TyOf K H (.int i) (.type "int")
 |str (x:Str):TyOf K H (.str x) (.type "str")
 |flt (x:UInt64):TyOf K H (.flt x) (.type "float")
 |lst {a:Addr} {xs:List V} (e:H a=some (.lst xs)):TyOf K H (.ref a) (.type "list")
 |frz {a:Addr} {o:Obj} {xs:List V} (e:H a=some (.frz o (.lst xs))):TyOf K H (.ref a) (.type "list")
 |tup {a:Addr} {xs:List V} (e:H a=some (.tup xs)):TyOf K H (.ref a) (.type "tuple")
 |dK {a:Addr} {kvs:List (Key×V)} (e:H a=some (.dK kvs)):TyOf K H (.ref a) (.type "dict")
 |dT {a:Addr} {kvs:List (List Key×V)} (e:H a=some (.dT kvs)):TyOf K H (.ref a) (.type "dict")
 |ins {a C dx:Addr} {fs:List (Str×V)} (e:H a=some (.ins C dx fs))(cl:Cls K C)(ha:XV K (.ref C) "__class__"=some (some (.builtin "object.__class__")))
   (hn:PySem.W.specialIn K (.builtin "object.__class__") "__get__"=some (some (.builtin "getset_descriptor.__get__")))(htk:PySem.W.takesIn K (.builtin "object.__class__")=some true)
   (hm:PySem.W.mroIn K C (.type "object")=some true):TyOf K H (.ref a) (.ref C)
theorem _jj{t:X0}(I:Inv X pq σ H s)(j:RelV x u)(ty:TyOf X.K H x t)(e:UU X.K t c=some b)(h:∀tk,Q (.bool b) {s with toks:=tk}):
  X3 (X6 X.prog X.w) A (call (.builtin "isinstance") [u,c]) Q E s:=by
 cases ty with
 |non=>cases(show u=Xu from j);exact Zi PySem.W.kitx_none I.kIn YE e (λz=>nomatch z) h
 |bl y=>cases(show u=Y8 y from j);exact Zi PySem.W.kitx_bool I.kIn YE e (λz=>nomatch z) h
 |int i=>obtain⟨t,q⟩:=(show∃t,u=VE i t from j);cases q;exact Zi PySem.W.kitx_int I.kIn YE e (λz=>nomatch z) h
 |str y=>obtain⟨t,q⟩:=(show∃t,u=XE y t from j);cases q;exact Zi PySem.W.kitx_str I.kIn YE e (λz=>nomatch z) h
 |flt y=>obtain⟨t,q⟩:=(show∃t,u=Cr y t from j);cases q;exact Zi PySem.W.kitx_float I.kIn YE e (λz=>nomatch z) h
 | @lst a g l=>
  cases(show u=Xn a from j);obtain⟨_,_,n,_,w⟩:=(show ObjOk X.prog X.w H s.heap a (.lst g)from I.hok a _ l);exact Zi Cd I.kIn ⟨_,w,rfl⟩ e (λz=>nomatch z) h
 | @frz a L g l=>
  cases(show u=Xn a from j);obtain⟨_,_,_,n,_,w⟩:=(show ObjOk X.prog X.w H s.heap a (.frz L (.lst g))from I.hok a _ l);exact Zi Cd I.kIn ⟨_,w,rfl⟩ e (λz=>nomatch z) h
 | @tup a g l=>
  cases(show u=Xn a from j);obtain⟨_,_,_,p⟩:=(show ObjOk X.prog X.w H s.heap a (.tup g)from I.hok a _ l);obtain⟨o,w,d,_⟩:=p.1;exact Zi PySem.W.kitx_tuple I.kIn ⟨o,w,d⟩ e (λz=>nomatch z) h
 | @dK a m l=>
  cases(show u=Xn a from j);obtain⟨_,_,W,_,p⟩:=(show ObjOk X.prog X.w H s.heap a (.dK m)from I.hok a _ l);obtain⟨o,N,P,w,d,_⟩:=p;exact Zi Ce I.kIn ⟨o,w,d.1⟩ e (λz=>nomatch z) h
 | @dT a m l=>
  cases(show u=Xn a from j);obtain⟨_,_,g,_,o,N,P,w,d,_⟩:=(show ObjOk X.prog X.w H s.heap a (.dT m)from I.hok a _ l);exact Zi Ce I.kIn ⟨o,w,d.1⟩ e (λz=>nomatch z) h
 | @ins a C Y fs l r R T f U=>
  cases(show u=Xn a from j);obtain⟨Z,O,_⟩:=WN I.hok l;obtain⟨B,J,_⟩:=O.look;exact Zi (PySem.W.kitx_own (r.get _) r.hd R T f U) I.kIn J e (λz=>nomatch z) h
end
structure Room (k:Nat)(A:Xz):Prop where
 hd:A.handled=none
 dp:A.depth+3*k+5<recursionLimit
 un:A.units+16*k+200<cLine
theorem Room.mono{k:Nat}(r:Room k A)(h:j<=k):Room j A:=⟨r.hd,by have:=r.dp;lia,by have:=r.un;lia⟩
theorem Room.deeper{k:Nat}(r:Room (k+1) A)(env:Env):Room k (A.deeper env):=
 ⟨r.hd,by have:=r.dp;show A.depth+1+3*k+5<_;lia,by have:=r.un;show A.units+3+16*k+200<_;lia⟩
theorem _hN{A:Xz}{C:Addr}{us:List X0}{j:List (Str×X0)}:(A.under (.builtin "type.__call__" ⟨.ref C::us,j⟩)).depth=A.depth+1:=by
 first|rfl|simp[Ee,Code.weight,Code.isCreation,Code.isGuard,Code.isCaller,Code.frames,Code.isFrame,guardIds]
theorem _hM{A:Xz}{C:Addr}{us:List X0}{j:List (Str×X0)}:(A.under (.builtin "type.__call__" ⟨.ref C::us,j⟩)).units=A.units+1:=by
 first|rfl|simp[Ee,Code.cUnits,Code.frames,Code.isFrame]
theorem Room.make{k:Nat}(r:Room (k+1) A)(C:Addr)(us:List X0)(j:List (Str×X0)):Room k (A.under (.builtin "type.__call__" ⟨.ref C::us,j⟩)):=
 ⟨r.hd,by have:=r.dp;rw[_hN];lia,by have:=r.un;rw[_hM];lia⟩
theorem Room.depth{k:Nat}(r:Room k A):A.depth<recursionLimit:=by have:=r.dp;lia
noncomputable def tNil:TA:=λ_ H Q=>Q [] H
noncomputable def VP(ta:TE)(l:TA):TA:=λj H Q=>ta j H λx u=>l j u λw y=>Q (x::w) y
section
variable{X:Cx}{e:Expr}{es:List Expr}{te:TE}{t:TA}{pos:Pos}
theorem pa_nil:PA X [] tNil:=λ_ _ _ _ H Q I h=>WJ ⟨[],H,I,.nil,h⟩
theorem WO(w:PE X e te)(y:PA X es t)(z:XA (e::es) X.env=(false,eval e X.env)::XA es X.env:=by rfl):PA X (e::es) (VP te t):=by
 intro pos j s l H Q I h;rw[z];show X3 _ _ (spliced ((false,eval e X.env)::XZ pos (XA es X.env))) _ _ s;refine WI (thn (w j s l H _ I h) λu m ⟨x,g,d,c,f⟩=>?_);exact thn (y pos j m l g _ d f) λO P ⟨q,r,p,L,N⟩=>⟨x::q,r,p,.cons c L,N⟩
def tTup(t:TA):TE:=λu H Q=>t u H λj l=>j.length<=sizeLine/\∀p,l p=none->Q (.ref p) (upd l p (.tup j))
def tLst(t:TA):TE:=λu H Q=>t u H λj l=>j.length<=sizeLine/\∀p,l p=none->Q (.ref p) (upd l p (.lst j))
theorem _pX{y}(h:PA X es t):PE X (.Tuple es y pos) (tTup t):=by
 intro m s g H Q I d;refine wpAny_Tuple_spliced (thn (h pos m s g H _ I d) λc j ⟨f,l,w,r,z,q⟩=>⟨by rw[<-r.length];exact z,?_⟩)
 have p:l j.heap.objs.size=none:=w.hok.fresh (Xe _);refine⟨.ref j.heap.objs.size,upd l j.heap.objs.size (.tup f),w.laid (t':=j.toks) (λb u e=>Xr _ e) (Xe _) ?_,rfl,q _ p⟩;exact⟨z,c,r,⟨_,XS _ rfl,rfl,_,rfl⟩,_,XS _ rfl,rfl⟩
theorem _pZ(h:PA X es t):PE X (.List es pos) (tLst t):=by
 intro y s m H Q I g;refine wpAny_List_spliced (thn (h pos y s m H _ I g) λd j ⟨c,l,w,r,z,q⟩=>⟨by rw[<-r.length];exact z,?_⟩)
 have f:l j.heap.objs.size=none:=w.hok.fresh (Xe _);refine⟨.ref j.heap.objs.size,upd l j.heap.objs.size (.lst c),w.laid (t':=j.toks) (λb u e=>Xr _ e) (Xe _) ?_,rfl,q _ f⟩;exact⟨z,d,0,r,XS _ rfl⟩
end
abbrev Sp:=List V->Hp->VK->XK->Prop
abbrev CXT:=List Env->Hp->X2->XK->X0->X2->Prop
structure Env0 (P:Xw)(w:Xm)(K:X4)(mg:Str->Option X0)(base:Heap)(A:Xz)(outer:List Env)(s:X2)(H:Hp):Prop where
 frames:A.frames=some outer
 mod:Mod K mg base
 bs:∀b o,base.get? b=some o->s.heap.get? b=some o/\H b=none
 bsz:base.objs.size<=s.heap.objs.size
 funs:s.heap.FunFrames base outer
 frf:∀b∈frs outer,H b=none
 hok:HOk P w H s.heap
 bare:AllBare s.gens
def CE(j:List Env)(P:Xw)(w:Xm)(H:Hp)(s:X2)(Q:VK)(u:X0)(l:X2):Prop:=
 ∃v y,l.os=s.os/\AllBare l.gens/\Un (frs j) [] H y s.heap l.heap/\HOk P w y l.heap/\RelV v u/\Q v y
def CR(CX:CXT)(j:List Env)(P:Xw)(w:Xm)(H:Hp)(s:X2)(Q:VK)(E:XK)(r:Result)(l:X2):Prop:=
 match r with
 |.ok (.ret u)=>CE j P w H s Q u l
 |.ok _=>False
 |.error e=>CX j H s E e l
structure FnOk (P:Xw)(w:Xm)(K:X4)(mg:Str->Option X0)(base:Heap)(CX:CXT)(k:Nat)(f:Addr)(fd:Xb)(ps:List Str)(sp:Sp):Prop where
 len:∀vs H Q E,sp vs H Q E->vs.length=ps.length
 run:∀(A:Xz)(outer:List Env)(s:X2)(H:Hp)(args:Args)(us:List X0)(vs:List V)(Q:VK)(E:XK),Room k A->Env0 P w K mg base A outer s H->BindsTo s fd args (ps.zip us)->Vals vs us->sp vs H Q E->
  YQ (X6 P w) A (.call (.ref f) args) (CR CX outer P w H s Q E) s
theorem FnOk.mono{K:X4}{k:Nat}(F:FnOk P w K mg base CX j f fd ps sp)(h:j<=k):
  FnOk P w K mg base CX k f fd ps sp:=⟨F.len,λA l s H u y z Q E m=>F.run A l s H u y z Q E (m.mono h)⟩
theorem FnOk.imp{K:X4}{k:Nat}(F:FnOk P w K mg base CX k f fd ps sp)
  (h:∀vs H Q E,sp' vs H Q E->sp vs H Q E):FnOk P w K mg base CX k f fd ps sp':=
 ⟨λvs H Q E q=>F.len vs H Q E (h _ _ _ _ q),λA j s H l u vs Q E y z m g d=>F.run A j s H l u vs Q E y z m g (h _ _ _ _ d)⟩
theorem Env0.make{K:X4}(e:Env0 P w K mg base A outer s H)(C:Addr)(us:List X0)(j:List (Str×X0)):
  Env0 P w K mg base (A.under (.builtin "type.__call__" ⟨.ref C::us,j⟩)) outer s H:=⟨by first|exact e.frames|(simpa [Ee,Code.envs,Code.isFrame,pushEnvs]using e.frames),e.mod,e.bs,e.bsz,e.funs,e.frf,e.hok,e.bare⟩
section
variable{X:Cx}{pq:List (Addr×Obj)}{σ:St}{H:Hp}{s s':X2}
theorem Inv.env0(I:Inv X pq σ H s):Env0 X.prog X.w X.K X.mg X.base X.A X.stack s H:=
 ⟨I.ok.frames,I.ok.mod,I.bs,XY I.ok.bsz I.sz,I.stack,I.stkFree,I.hok,I.bare⟩
theorem Inv.after(I:Inv X pq σ H s)(h:CE X.stack X.prog X.w H s Q u s'):EP X pq σ Q u s':=by
 obtain⟨v,y,os,j,un,l,r,q⟩:=h;obtain⟨m,g,d,t,w⟩:=s';obtain rfl:w=s.os:=os;exact⟨v,y,I.call (h':=m) (g':=g) (d':=d) (t':=t) (ch:=[]) un l j (λb z=>absurd z (by simp)),r,q⟩
end
noncomputable def Zr5(sp:Sp)(j:List V)(E:XK)(t:TA):TE:=λl H Q=>t l H λu w=>sp (u++j) w Q E
noncomputable def IR(C:Addr)(m:Str)(sp:Sp)(j:List V)(E:XK)(ta:TE)(t:TA):TE:=λl H Q=>ta l H λx u=>∃a w fs,x=.ref a/\u a=some (.ins C w fs)/\fs.lookup m=none/\
 t l u λy z=>sp (x::(y++j)) z Q E
def Zr3(C:Addr)(sp:Sp)(l:List V)(E:XK)(t:TA):TE:=λw H Q=>t w H λy u=>∀x j,u x=none->u j=none->j≠x->
 sp (.ref x::(y++l)) (upd (upd u j (.own x)) x (.ins C j [])) (λv z=>v=.non/\Q (.ref x) z) E
noncomputable def Binds(K:X4)(u:Xb)(ps:List Str)(l:List X0):Prop:=
 ∀(s:X2)(j:List X0),K.In s.heap->(j++l).length=ps.length->BindsTo s u ⟨j,[]⟩ (ps.zip (j++l))
theorem Binds.all{K:X4}(h:∀us:List X0,us.length=ps.length->bindArgs fd ⟨us,[]⟩=pure (ps.zip us)):Binds K fd ps []:=λs us _ j=>by
 rw[Vu]at j ⊢;exact .of_eq (h us j)
def V3(CX:CXT)(X:Cx)(E:XK):Prop:=∀(l:List (Addr×Obj))(u:St)(H:Hp)(s:X2)(e:X0)(j:X2),Inv X l u H s->CX X.stack H s E e j->X.xe e j
section
variable{X:Cx}{CX:CXT}{k:Nat}{f C:Addr}{fd:Xb}{ps:List Str}{sp:Sp}{dvs:List V}{ds:List X0}{E:XK}{x m:Str}{p pos apos:Pos}{e o:Expr}{es:List Expr}{ta:TE}{t:TA}
theorem Eu(F:FnOk X.prog X.w X.K X.mg X.base CX k f fd ps sp)(w:Room k X.A)(y:Binds X.K fd ps ds)(z:Vals dvs ds)(g:V3 CX X E)
  (I:Inv X pq σ H s)(r:Vals vs us)(h:sp (vs++dvs) H Q E):X3 (X6 X.prog X.w) X.A (call (.ref f) us) (EP X pq σ Q) X.xe s:=by
 have l:Vals (vs++dvs) (us++ds):=r.append z;have d:(us++ds).length=ps.length:=by rw[<-l.length];exact F.len _ _ _ _ h
 refine wpAny_call (Vl (F.run X.A X.stack s H ⟨us,[]⟩ (us++ds) (vs++dvs) Q E w I.env0 (y s us I.kIn d) l h) λr c j=>?_);cases r with
 |error e=>exact g pq σ H s e c I j
 |ok q=>
  cases q with
  |ret u=>exact I.after j
  |next=>exact Y2 j
  |brk=>exact Y2 j
  |cont=>exact Y2 j
theorem _nu(F:FnOk X.prog X.w X.K X.mg X.base CX k f fd ps sp)(w:Room k X.A)(y:Gl X x)(z:X.mg x=some (.ref f))(g:YI X.K (.ref f)=true)(d:Binds X.K fd ps ds)(c:Vals dvs ds)(L:V3 CX X E)
  (N:PA X (e::es) t)(j:(x==("__debug__":Str))=false:=by decide)(O:XA (e::es) X.env=(false,eval e X.env)::XA es X.env:=by rfl)(l:(XZ pos (XA es X.env)).any (·.1)=false:=by rfl):
  PE X (.Call (.Name x p) (e::es) [] pos) (Zr5 sp dvs E t):=by
 intro P s R H Q I h;refine Up (Er I y z ?_ j);refine E5 (h₀:=X.base) I.ok.mod.kin g (thn (N pos P s R H _ I h) λT U ⟨W,Y,u,r,q⟩=>⟨u.kIn,?_⟩) O l;exact Eu F w d c L u r q
theorem _nq{pl:Sem Bool}(N:PE X o ta)(c:Cls X.K C)(y:Meth X.K C m f)(F:FnOk X.prog X.w X.K X.mg X.base CX k f fd ps sp)(O:Room k X.A)(P:Binds X.K fd ps ds)(R:Vals dvs ds)(T:V3 CX X E)(U:PA X (e::es) t)
  (j:XA (e::es) X.env=(false,eval e X.env)::XA es X.env:=by rfl)(w:(XZ pos (XA es X.env)).any (·.1)=false:=by rfl)
  (W:eval (.Call (.Attribute o m apos) (e::es) [] pos) X.env=(do
   let ov<- eval o X.env
   standAt apos.atName
   let(f,first)<- Z0 [ov] (getMethod ov m pl)
   callWith pos f first (XZ pos (XA (e::es) X.env)) (ZY pos (ZZ [] X.env))):=by rfl):
  PE X (.Call (.Attribute o m apos) (e::es) [] pos) (IR C m sp dvs E ta t):=by
 intro z s g H Q I h;refine HI (pl:=pl) (thn (N z s g H _ I h) λu Y ⟨x,Z,d,A,a,S,fs,B,D,l,q⟩=>?_) W;subst B;obtain rfl:u=Xn a:=A;refine IQ d D c y l ?_;refine E5 (first:=[.ref a]) (h₀:=X.base) I.ok.mod.kin y.kp (thn (U pos z Y g Z _ d q) λG v ⟨J,i,L,r,M⟩=>⟨L.kIn,?_⟩) j w
 exact Eu (us:=.ref a::G) (vs:=.ref a::J) F O P R T L (.cons rfl r) M
theorem _l3{pl:Sem Bool}(y:PE X o ta)(c:Cls X.K C)(w:Meth X.K C m f)(F:FnOk X.prog X.w X.K X.mg X.base CX k f fd ps sp)(z:Room k X.A)(g:Binds X.K fd ps ds)(d:Vals dvs ds)(r:V3 CX X E)
  (L:eval (.Call (.Attribute o m apos) [] [] pos) X.env=(do
   let ov<- eval o X.env
   standAt apos.atName
   let(f,first)<- Z0 [ov] (getMethod ov m pl)
   callWith pos f first (XZ pos (XA [] X.env)) (ZY pos (ZZ [] X.env))):=by rfl):
  PE X (.Call (.Attribute o m apos) [] [] pos) (IR C m sp dvs E ta tNil):=by
 intro N s O H Q I h;refine HI (pl:=pl) (thn (y N s O H _ I h) λu U ⟨x,W,j,P,a,Y,fs,R,T,l,q⟩=>?_) L;subst R;obtain rfl:u=Xn a:=P;refine IQ j T c w l ?_;exact PySem.W.callWith_K0 (first:=[.ref a]) j.kIn w.kp (Eu (us:=[.ref a]) (vs:=[.ref a]) F z g d r j (.cons rfl .nil) q)
structure Mk (K:X4)(C f:Addr):Prop where
 makes:WB K C=true
 init:XV K (.ref C) "__init__"=some (some (.ref f))
 fn:Ci K (.ref f)=true
 kp:YI K (.ref C)=true
theorem _kQ(M:Mk X.K C f)(F:FnOk X.prog X.w X.K X.mg X.base CX k f fd ps sp)(g:Room (k+1) X.A)(d:Binds X.K fd ps ds)(c:Vals dvs ds)
  (q:V3 CX X E)(I:Inv X pq σ H s)(r:Vals vs us)
  (h:∀x l,H x=none->H l=none->l≠x->sp (.ref x::(vs++dvs)) (upd (upd H l (.own x)) x (.ins C l [])) (λv L=>v=.non/\Q (.ref x) L) E):
  X3 (X6 X.prog X.w) X.A (call (.ref C) us) (EP X pq σ Q) X.xe s:=by
 have y:=h (s.heap.objs.size+1) s.heap.objs.size (I.hok.fresh (U5 _)) (I.hok.fresh (Xe _)) (XB (VA _));have w:=Inv.made (C:=C) I;have z:Vals (V.ref (s.heap.objs.size+1)::(vs++dvs)) (Xn (s.heap.objs.size+1)::(us++ds)):=.cons rfl (r.append c);have N:(Xn (s.heap.objs.size+1)::us++ds).length=ps.length:=by
  have e:=z.length;rw[F.len _ _ _ _ y]at e;exact e.symm
 refine wpAny_call (_lj (f:=f) I.kIn M.makes M.init (beq_iff_eq.mp M.fn) (Vl (F.run _ X.stack _ _ ⟨Xn (s.heap.objs.size+1)::us,[]⟩ (Xn (s.heap.objs.size+1)::(us++ds)) _ _ E (g.make C us [])
  (w.env0.make C us []) (d _ (Xn (s.heap.objs.size+1)::us) w.kIn N) z y) λr O j=>?_))
 cases r with
 |error e=>exact q pq σ _ _ e O w j
 |ok P=>
  cases P with
  |ret u=>
   obtain⟨v,R,T,U,W,Y⟩:=w.after j;subst W;exact⟨U,⟨V.ref (s.heap.objs.size+1),R,T,rfl,Y⟩⟩
  |next=>exact Y2 j
  |brk=>exact Y2 j
  |cont=>exact Y2 j
theorem _nr(M:Mk X.K C f)(F:FnOk X.prog X.w X.K X.mg X.base CX k f fd ps sp)(w:Room (k+1) X.A)(y:Gl X x)(z:X.mg x=some (.ref C))(g:Binds X.K fd ps ds)(d:Vals dvs ds)(c:V3 CX X E)
  (L:PA X (e::es) t)(j:(x==("__debug__":Str))=false:=by decide)(N:XA (e::es) X.env=(false,eval e X.env)::XA es X.env:=by rfl)(l:(XZ pos (XA es X.env)).any (·.1)=false:=by rfl):
  PE X (.Call (.Name x p) (e::es) [] pos) (Zr3 C sp dvs E t):=by
 intro O s P H Q I h;refine Up (Er I y z ?_ j);refine E5 (h₀:=X.base) I.ok.mod.kin M.kp (thn (L pos O s P H _ I h) λR T ⟨U,W,u,r,q⟩=>⟨u.kIn,?_⟩) N l;exact _kQ M F w g d c u r q
end
section
variable{X:Cx}{CX:CXT}{k:Nat}{f C:Addr}{fd:Xb}{ps ks:List Str}{sp:Sp}{E:XK}{x m:Str}{p pos apos kpos:Pos}{e o:Expr}{es:List Expr}{kws:List Z1}{te ta:TE}{t tk:TA}{nm:Option Str}
variable{g:List X0->List X0->List X0}{gV:List V->List V->List V}
end
structure FnScope (N P:List Str)(sc:Scope):Prop where
 kind:sc.kind=.function
 co:sc.isCoroutine=false
 gen:sc.isGenerator=false
 nd:N.Nodup
 pre:N.take P.length=P
 par:∀x∈P,sc.names.lookup x=some .local\/sc.names.lookup x=some .cell
 nofree:∀y∈sc.names,y.2≠.free
theorem mkSc {N P:List Str}{j:Scope}(a:j.kind=.function:=by rfl)(b:j.isCoroutine=false:=by rfl)(c:j.isGenerator=false:=by rfl)(d:N.Nodup:=by decide+kernel)(e:N.take P.length=P:=by rfl)(f:∀x∈P,j.names.lookup x=some .local\/j.names.lookup x=some .cell:=by decide+kernel)(g:∀y∈j.names,y.2≠.free:=by decide+kernel):FnScope N P j:=⟨a,b,c,d,e,f,g⟩
theorem IT{kindOf:Str->Option Z2}:∀{binds:List (Str×X0)} {m:Str->Option X0},(∀v,(x,v)∉binds)->bindL kindOf binds m x=m x
 |[],_,_=>rfl
 |(n,v)::r,m,h=>by
  unfold bindL;rw[IT λw j=>h w (XM _ j)];split
  .have:x≠n:=by rintro rfl;exact h v Ya
   simp[this]
  .rfl
theorem IU{kindOf:Str->Option Z2}:∀{binds:List (Str×X0)} {m:Str->Option X0},(∀v,(x,v)∉binds)->bindC kindOf binds m x=m x
 |[],_,_=>rfl
 |(n,v)::r,m,h=>by
  unfold bindC;rw[IU λw j=>h w (XM _ j)];split
  .rfl
  .have:x≠n:=by rintro rfl;exact h v Ya
   simp[this]
theorem IV{kindOf:Str->Option Z2}:∀{P:List Str} {vs:List X0} {i:Nat} {m:Str->Option X0},P.Nodup->P[i]?=some x->vs[i]?=some v->kindOf x=some .local->
  bindL kindOf (P.zip vs) m x=some v
 |[],_,_,_,_,h,_,_=>by simp at h
 |_::_,[],_,_,_,_,h,_=>by simp at h
 |p::P,w::vs,0,m,nd,h1,h2,hk=>by
  simp at h1 h2;subst h1;subst h2;show bindL kindOf ((p,w)::P.zip vs) m p=_;unfold bindL;rw[IT λv j=>(Yp.mp nd).1 (E2 j).1,if_pos hk];simp
 |p::P,w::vs,i+1,m,nd,h1,h2,hk=>by
  show bindL kindOf ((p,w)::P.zip vs) m x=_;unfold bindL;exact IV (i:=i) (Yp.mp nd).2 (by simpa using h1) (by simpa using h2) hk
theorem IW{kindOf:Str->Option Z2}:∀{P:List Str} {vs:List X0} {i:Nat} {m:Str->Option X0},P.Nodup->P[i]?=some x->vs[i]?=some v->kindOf x≠some .local->
  bindC kindOf (P.zip vs) m x=some v
 |[],_,_,_,_,h,_,_=>by simp at h
 |_::_,[],_,_,_,_,h,_=>by simp at h
 |p::P,w::vs,0,m,nd,h1,h2,hk=>by
  simp at h1 h2;subst h1;subst h2;show bindC kindOf ((p,w)::P.zip vs) m p=_;unfold bindC;rw[IU λv j=>(Yp.mp nd).1 (E2 j).1,if_neg hk];simp
 |p::P,w::vs,i+1,m,nd,h1,h2,hk=>by
  show bindC kindOf ((p,w)::P.zip vs) m x=_;unfold bindC;exact IW (i:=i) (Yp.mp nd).2 (by simpa using h1) (by simpa using h2) hk
noncomputable def ZJ(N:List Str)(vs:List V):St:=vs.map some++Xj (N.length - vs.length) none
noncomputable def cxOf(CX:CXT)(P:Xw)(w:Xm)(K:X4)(mg:Str->Option X0)(base:Heap)(N:List Str)(l:Str)(scope:Scope)(f:Addr)(y:X0)(A:Xz)(j:List Env)(s:X2)(H:Hp)(E:XK):Cx where
 prog:=P
 w:=w
 K:=K
 mg:=mg
 base:=base
 A:=A.deeper (envOfC l scope s.heap.objs.size f y)
 N:=N
 s₀:=s
 H₀:=H
 env:=envOfC l scope s.heap.objs.size f y
 outer:=j
 stack:=envOfC l scope s.heap.objs.size f y::j
 ex:=[]
 calm:=true
 fn:=λ_=>true
 pn:=[]
 xe:=λe z=>X3 (X6 P w) (A.deeper (envOfC l scope s.heap.objs.size f y)) (leaving (envOfC l scope s.heap.objs.size f y) e) (λ_ u=>CX j H s E e u) (λm u=>CX j H s E m u) z
theorem IX{j:Scope}{n:Nat}{x:Str}(h:j.names.lookup x=some .cell):∃c,(cellsFrom n j.names []).lookup x=some c:=by
 have q:=HH j.names n [] (.inl h);exact Option.isSome_iff_exists.mp q
theorem _jn{CX:CXT}{P:Xw}{w:Xm}{K:X4}{mg:Str->Option X0}{base:Heap}{N ps:List Str}{l:Str}{scope:Scope}{f:Addr}{T:X0}{A:Xz}{j:List Env}{s Y:X2}{H:Hp}{E:XK}{us:List X0}{vs:List V}
  (S:FnScope N ps scope)(C:A.handled=none)(g:Env0 P w K mg base A j s H)(I:vs.length=ps.length)(r:Vals vs us)
  (x:InCallC s s.heap.objs.size (bindL (envOfC l scope s.heap.objs.size f T).kindOf (ps.zip us) λ_=>none) (cellsFrom (s.heap.objs.size+1) scope.names []) (bindC (envOfC l scope s.heap.objs.size f T).kindOf (ps.zip us) λ_=>none) Y):
  Inv (cxOf CX P w K mg base N l scope f T A j s H E) [] (ZJ N vs) H Y:=by
 have D:ps.length<=N.length:=by have:=congrArg Wx S.pre;rw[Z6]at this;lia
 obtain⟨U,J,rfl,Z⟩:=x.done;have d:∀b:Addr,b∉(cxOf CX P w K mg base N l scope f T A j s H E).ex:=λb z=>absurd (show b∈([]:List Addr)from z) (by simp)
 refine⟨⟨g.mod,S.kind,rfl,rfl,Xe _,λy z c U m=>?_,λy L=>?_,λy c _ h=>?_,λ_=>C,Around.frames_deeper g.frames,.inr ⟨rfl,rfl⟩,λb z=>absurd z (d b),g.bs,g.bsz,λb _ _=>d b,λb z=>absurd z (d b),g.funs,g.frf⟩,
  rfl,g.bare,Un.kept Z,⟨_,x.toInCall.ns,λi y v U m M=>?_⟩,λy c h=>⟨_,x.cell y c h⟩,g.hok.fresh (Xe _),λy c h=>?_,λp O=>absurd (show p∈([]:List (Addr×Obj))from O) (by simp),g.hok.kept Z,?_⟩
 .exact name_of_addr x.apart (VI U) (VI m)
 .have L:scope.names.lookup y=some .cell\/scope.names.lookup y=some .free:=L;rcases L with L|L
  .exact IX L
  .exact absurd rfl (S.nofree _ (VI L))
 .exact UA (x.above y c (VI h))
 .have W:i<vs.length:=by
   unfold ZJ at m;by_cases W:i<vs.length
   .exact W
   .rw[Zf (by simpa using W)]at m
    rw[HF]at m;split at m<;>cases m
  have F:vs[i]?=some v:=by
   unfold ZJ at m;rw[ZB (by simpa using W),Xq]at m
   cases e:vs[i]? with
   |none=>rw[e]at m;cases m
   |some a=>rw[e]at m;cases m;rfl
  obtain⟨u,B,G⟩:=r.get F;have O:ps[i]?=some y:=by
   rw[<-S.pre,List.getElem?_take_of_lt (by lia)];exact U
  have R:ps.Nodup:=by rw[<-S.pre];exact S.nd.sublist (List.take_sublist _ _)
  refine⟨u,G,?_⟩;rcases S.par y (Xo O)with k|k
  .exact .inl ⟨k,IV R O B k⟩
  .obtain⟨c,e⟩:=IX (n:=s.heap.objs.size+1) k;refine .inr ⟨.inl k,c,e,?_⟩;have q:=x.cell y c e;rw[IW R O B (by show scope.names.lookup y≠_;rw[k];decide)]at q
   exact q
 .exact g.hok.fresh (UA (x.above y c (VI h)))
 .unfold ZJ;show _=N.length;rw[Yt,Xd,Z4];lia
theorem _sf{K:X4}{k:Nat}{name:Str}{kV:X0}
    (C:K.lookup f=some ⟨oc,od,.func (ZF name qual params body scope dV kV doc pm an cdv ct),osl⟩)(O:Cg K cdv qual=true)(S:FnScope N ps scope)
  (len:∀vs H Q E,sp vs H Q E->vs.length=ps.length)
  (m:∀(A:Xz)(j:List Env)(s:X2)(H:Hp)(vs:List V)(Q:VK)(E:XK),Room k (A.deeper (envOfC qual scope s.heap.objs.size f cdv))->sp vs H Q E->
   ∃t,PSs (cxOf CX P w K mg base N qual scope f cdv A j s H E) body t/\t {nx:=λ_ z=>Q .non z,rt:=Q} (ZJ N vs) H):
  FnOk P w K mg base CX (k+1) f (ZF name qual params body scope dV kV doc pm an cdv ct) ps sp:=by
 refine⟨len,λA j s H Y D vs Q E R c F r p=>?_⟩;have G:=len _ _ _ _ p;have Z:K.In s.heap:=c.mod.kin.keeps λb o e=>(c.bs b o e).1;have T:s.heap.NoLimit:=c.mod.nolimit.keeps λb o e=>(c.bs b o e).1;have g:∀y∈ps.zip D,scope.names.lookup y.1=some .local\/(scope.names.lookup y.1=some .cell/\((cellsFrom (s.heap.objs.size+1) scope.names []).lookup y.1).isSome=true):=fun⟨n,v⟩ M=>by
  rcases S.par n (E2 M).1 with q|q
  .exact .inl q
  .exact .inr ⟨q,HH _ _ _ (.inl q)⟩
 refine codeAny_call_function R.depth (Z _ _ C) rfl S.co S.gen rfl (PySem.W.codeRec_of Z O) (F _ _ _ _ ?_);refine wpAny_newFunctionEnv_cells S.kind g λX i B x=>?_;subst i;refine⟨T.keeps x.toInCall.keep,codeAny_func ?_⟩;obtain⟨t,h,a⟩:=m A j s H vs Q E (R.deeper _) p;have I:Inv (cxOf CX P w K mg base N qual scope f cdv A j s H E) [] (ZJ N vs) H B:=_jn S R.hd c G r x;refine Zw (h [] B (ZJ N vs) H _ I a) (λfl U d=>?_) λe U d=>d;have L:∀{l:St} {z:Hp} {v:V} {u:X0},Inv (cxOf CX P w K mg base N qual scope f cdv A j s H E) [] l z U->RelV v u->Q v z->CE j P w H s Q u U:=
  fun{l z v u} J W q=>⟨v,z,J.os,J.bare,J.base,J.hok,W,q⟩
 cases fl with
 |ret u=>
  obtain⟨v,l,z,J,W,q⟩:=d;exact L J W q
 |next=>
  obtain⟨l,z,J,q⟩:=d;exact L (v:=V.non) (u:=Xu) J rfl q
 |brk=>
  obtain⟨_,_,_,q⟩:=d;exact Y2 q
 |cont=>
  obtain⟨_,_,_,q⟩:=d;exact Y2 q
section
variable{X:Cx}{x:Str}{p pos:Pos}{e:Expr}{es:List Expr}{t:TA}{id T:String}{r:List V->Hp->VK->Prop}
noncomputable def tCB(r:List V->Hp->VK->Prop)(t:TA):TE:=λj H Q=>t j H λl u=>r l u Q
theorem _l7(y:Yw X (.builtin id) r)(z:Gl X x)(m:X.mg x=none)(g:YB x=some (.builtin id))(d:PA X (e::es) t)(c:x≠"__name__":=by decide)(j:(x==("__debug__":Str))=false:=by decide)
  (f:XA (e::es) X.env=(false,eval e X.env)::XA es X.env:=by rfl)(l:(XZ pos (XA es X.env)).any (·.1)=false:=by rfl):PE X (.Call (.Name x p) (e::es) [] pos) (tCB r t):=by
 intro u s w H Q I h;refine Up (UC I z m g ?_ c j);exact HK (thn (d pos u s w H _ I h) λq L ⟨N,O,P,R,U⟩=>y u L w O N q Q P R U) f l
theorem _iT(y:Yw X (.type T) r)(z:Gl X x)(m:X.mg x=none)(g:YB x=some (.type T))(d:PA X (e::es) t)(c:x≠"__name__":=by decide)(j:(x==("__debug__":Str))=false:=by decide)
  (f:XA (e::es) X.env=(false,eval e X.env)::XA es X.env:=by rfl)(l:(XZ pos (XA es X.env)).any (·.1)=false:=by rfl):PE X (.Call (.Name x p) (e::es) [] pos) (tCB r t):=by
 intro u s w H Q I h;refine Up (UC I z m g ?_ c j);exact WH (thn (d pos u s w H _ I h) λq L ⟨N,O,P,R,U⟩=>y u L w O N q Q P R U) f l
end
end L2
namespace HT
open PySem PyProof.Rows
section
open PySem.SeqAt
open PySem.AutoSeq1 (wpAny_loadPart')
open PySem.MeetsSeq PySem.MeetsSeq2 PySem.MeetsSeq3
end
section
variable{prog:Xw}{w:Xm}{A:Xz}{E:X0->X2->Prop}{s:X2}
theorem cat_tup{t:Addr}(L:IsTup s.heap t vs.toArray)(N:IsTup s.heap b ws.toArray)(m:vs≠ [])
  (h1:ws=[]->Q (.ref t) s)(h2:ws≠ []->Q (.ref s.heap.objs.size) {s with heap:=s.heap.push {cls:=.type "tuple",data:=.seq (vs++ws).toArray} })
  (hsz:vs.length+ws.length<=sizeLine):X3 (X6 prog w) A (Ym .Add (.ref t) (.ref b)) Q E s:=by
 obtain⟨⟨O,g,d,c⟩,z,f,n,q⟩:=id L;obtain⟨⟨r,l,data2,u⟩,j,y,p,hd2⟩:=id N;simp only at f q y hd2;subst f q y hd2;have e:vs.toArray++ws.toArray=(vs++ws).toArray:=by simp
 by_cases hw:ws=[]
 .exact concat_meets ⟨_,z,rfl⟩ ⟨_,j,rfl⟩ noFill_tuple_add seq_tuple_add Ib HZ (HX _ _)
   (tuple_addW1 t b vs.toArray ws.toArray n p g l c u (by simpa using m) (by simp[hw])) ⟨z,j,h1 hw⟩
 .refine concat_meets ⟨_,z,rfl⟩ ⟨_,j,rfl⟩ noFill_tuple_add seq_tuple_add Ib HZ (HX _ _)
   (tuple_addW2 t b vs.toArray ws.toArray n p g l c u (by simpa using m) (by simpa using hw) (by rw[XR,XR];exact hsz)) ⟨z,j,?_⟩
  rw[e];exact h2 hw
noncomputable def sIx(n d:Nat):Option Int->Nat
 |none=>d
 |some v=>if v<0 then(v+(n:Int)).toNat else min v.toNat n
theorem sIx_none(n d:Nat):sIx n d none=d:=rfl
theorem sIx_nat(n d k:Nat):sIx n d (some (k:Int))=min k n:=by
 show(if(k:Int)<0 then((k:Int)+(n:Int)).toNat else min (k:Int).toNat n)=min k n;rw[if_neg (by lia),YY]
theorem _pj(n d:Nat)(j:d<=n)(o:Option Int):sIx n d o<=n:=by
 cases o with
 |none=>exact j
 |some v=>
  show(if v<0 then(v+(n:Int)).toNat else min v.toNat n)<=n;by_cases hv:v<0
  .rw[if_pos hv];lia
  .rw[if_neg hv];exact Nat.min_le_right _ _
theorem IY(v:Int)(n d:Nat):(if v<0 then max (v+(n:Int)) 0 else min v (n:Int))=((sIx n d (some v):Nat):Int):=by
 show(if v<0 then max (v+(n:Int)) 0 else min v (n:Int))=(((if v<0 then(v+(n:Int)).toNat else min v.toNat n):Nat):Int);by_cases hv:v<0
 .simp only[if_pos hv];lia
 .simp only[if_neg hv];lia
theorem _ie(lo j:Option Int)(n:Nat):Eh lo j 1 (n:Int)=(((sIx n 0 lo:Nat):Int),((sIx n n j:Nat):Int)):=by
 have l:¬((1:Int)<0):=by lia
 unfold Eh;simp only[l,if_false];refine Prod.ext ?_ ?_
 .cases lo with
  |none=>rfl
  |some v=>exact IY v n 0
 .cases j with
  |none=>rfl
  |some v=>exact IY v n n
theorem _hE(i j:Nat):Cy (i:Int) (j:Int) 1=j - i:=by
 unfold Cy;have l:(1:Int)>0:=by lia
 simp only[l,if_true,Int.ediv_one];split<;>lia
theorem IZ(p:IsPart v o)(h:Q o s):X3 (X6 prog w) A (Builtin.Slice.slicePartIndex v) Q E s:=by
 cases p with
 |none=>exact slicePart_none h
 |int i t=>exact slicePart_int h
theorem J0{m:Addr}{y z:X0}{lo j:Option Int}{n:Nat}{Q:Int×Int×Nat->X2->Prop}(g:s.heap.IsSliceOf m y z .none)(pl:IsPart y lo)(d:IsPart z j)
  (h:Q (((sIx n 0 lo:Nat):Int),1,sIx n n j - sIx n 0 lo) s):X3 (X6 prog w) A (HU (.ref m) (pure (n:Int))) Q E s:=by
 obtain⟨os,l,c,u⟩:=id g;unfold HU Builtin.Slice.sliceFields;refine X1 (X1 (wpAny_field l u (x:=y) rfl (X1 (wpAny_field l u (x:=z) rfl (X1 (wpAny_field l u (x:=.none) rfl (X7 ?_)))))));refine X1 (slicePart_none ?_);show X3 _ _ (if((1:Int)==0)=true then _ else _) _ _ s;rw[if_neg (by decide)]
 refine X1 (IZ pl (X1 (IZ d (X1 (X7 ?_)))));show X3 _ _ (match Eh lo j 1 (n:Int)with|(lo,j)=>pure (lo,(1:Int),Cy lo j 1)) _ _ s
 rw[_ie lo j n];show X3 _ _ (pure (((sIx n 0 lo:Nat):Int),(1:Int),Cy ((sIx n 0 lo:Nat):Int) ((sIx n n j:Nat):Int) 1)) _ _ s;rw[_hE];exact X7 h
theorem _l0(xs:Array X0)(i k:Nat):((Xt k).filterMap fun(m:Nat)=>xs[((i:Int)+(m:Int)*1).toNat]?).toArray=((xs.toList.drop i).take k).toArray:=by
 have e:(fun(m:Nat)=>xs[((i:Int)+(m:Int)*1).toNat]?)=λm=>xs[i+m]?:=by
  funext m
  have:((i:Int)+(m:Int)*1).toNat=i+m:=by lia
  rw[this]
 rw[e];have:=pick_run xs i k;rw[List.filterMap_map]at this;have j:((λx=>xs[x]?)∘ λx=>i+x)=λm=>xs[i+m]?:=rfl;rw[j]at this;rw[this]
theorem getItem_tuple_cut{t:Addr}{items:Array X0}{lo:Option Int}(l:IsTup s.heap t items)(d:s.heap.IsSliceOf sl vl vu .none)(pl:IsPart vl lo)(c:IsPart vu hi)
  (hw:¬(sIx items.size 0 lo=0/\sIx items.size items.size hi=items.size))
  (h:Q (.ref s.heap.objs.size) {s with heap:=s.heap.push {cls:=.type "tuple",data:=.seq ((items.toList.drop (sIx items.size 0 lo)).take (sIx items.size items.size hi - sIx items.size 0 lo)).toArray} })
  (hsz:items.size<=sizeLine):X3 (X6 prog w) A (getItem (.ref t) (.ref sl)) Q E s:=by
 have j:sizeOk (.seq ((items.toList.drop (sIx items.size 0 lo)).take (sIx items.size items.size hi - sIx items.size 0 lo)).toArray):=by
  show((items.toList.drop (sIx items.size 0 lo)).take (sIx items.size items.size hi - sIx items.size 0 lo)).toArray.size<=sizeLine;rw[XR,Z6,C8,Yq];lia
 have r:sIx items.size items.size hi<=items.size:=_pj _ _ (Xe _) hi;obtain⟨os,u,y,f⟩:=id d;have z:s.TypeIs (.ref sl) "slice":=⟨os,u,y⟩;unfold getItem
 try with_reducible refine YH ?_
 first|refine X1 (X7 ?_)|skip
 refine X1 (wpAny_sequenceKey l.typeIs (by decide) ?_)
 refine X1 (BV (name:=Yd "__getitem__") l.typeIs VH
  (Zd VH l.typeIs entry_tuple_getitem ?_ (args_tuple_getitem _ _)))
 show X3 _ _ (HM (.ref t)>>= _) _ _ s;refine X1 (tupleItemsOf_ l ?_);refine X1 (ZA z ?_);rw[if_pos (by decide)]
 refine X1 (J0 d pl c ?_);have g:¬((((sIx items.size 0 lo:Nat):Int)==0&&(1:Int)==1&&(sIx items.size items.size hi - sIx items.size 0 lo)==items.size)=true):=by
  intro q;rw[XX,XX]at q;have p:((sIx items.size 0 lo:Nat):Int)=0:=eq_of_beq q.1.1;have e:sIx items.size items.size hi - sIx items.size 0 lo=items.size:=eq_of_beq q.2;exact hw ⟨by lia,by lia⟩
 show X3 _ _ (if(((sIx items.size 0 lo:Nat):Int)==0&&(1:Int)==1&&(sIx items.size items.size hi - sIx items.size 0 lo)==items.size)=true then _ else _) _ _ s;rw[if_neg g,_l0]
 first
  |exact X1 (m:=Cv _) (U0 (X7 ⟨_,rfl,X7 h⟩) j)
  |exact X1 (m:=Cv _) (U0 (X1 (X7 (X7 ⟨_,rfl,X7 h⟩))) j)
  |exact X1 (X1 (m:=Cv _) (U0 (X7 (X7 ⟨_,rfl,X7 h⟩)) j))
  |exact X1 (X1 (m:=Cv _) (U0 (X7 ⟨_,rfl,X7 h⟩) j))
end
end HT
namespace L2
open PySem PySem.Spec PyProof.Rows
abbrev TO:=St->Hp->(Option Int->Hp->Prop)->Prop
def PO(X:Cx)(e:Option Expr)(t:TO):Prop:=
 ∀(l:List (Addr×Obj))(s:X2)(j:St)(H:Hp)(Q:Option Int->Hp->Prop),Inv X l j H s->t j H Q->
  X3 (X6 X.prog X.w) X.A (evalPart e X.env) (λu y=>∃o w,Inv X l j w y/\IsPart u o/\Q o w) X.xe s
noncomputable def ZmR:TO:=λ_ H Q=>Q none H
noncomputable def Zr0(t:TE):TO:=λj H Q=>t j H λx l=>∃i,x=.int i/\Q (some i) l
section
variable{X:Cx}{e:Expr}{te:TE}{lo hi:Option Expr}{tl th:TO}{pos p2:Pos}
theorem _nl:PO X none ZmR:=by
 intro j s l H Q I h;rw[evalPart_none];exact X7 ⟨none,H,I,.none,h⟩
theorem _nk(h:PE X e te):PO X (some e) (Zr0 te):=by
 intro j s l H Q I w;rw[evalPart_some];refine thn (h j s l H _ I w) λu d ⟨x,y,z,m,g⟩=>?_;obtain⟨i,rfl,q⟩:=g;obtain⟨t,rfl⟩:=m;exact⟨some i,y,z,.int i t,q⟩
def SlR(X:Cx)(r:V->Option Int->Option Int->Hp->VK->Prop):Prop:=
 ∀(j:List (Addr×Obj))(s:X2)(l:St)(H:Hp)(x:V)(v u w:X0)(lo hi:Option Int)(y:Addr)(Q:VK),Inv X j l H s->RelV x v->s.heap.IsSliceOf y u w .none->IsPart u lo->IsPart w hi->r x lo hi H Q->
  ∃T id,Vm (.type T) "__getitem__"=pure (some (.builtin id))/\s.TypeIs v T/\X3 (X6 X.prog X.w) X.A (getItem v (.ref y)) (EP X j l Q) X.xe s
noncomputable def tSl(r:V->Option Int->Option Int->Hp->VK->Prop)(te:TE)(tl th:TO):TE:=λj H Q=>te j H λx w=>tl j w λl y=>th j y λu z=>r x l u z Q
theorem _l2{r:V->Option Int->Option Int->Hp->VK->Prop}(d:SlR X r)(c:PE X e te)(f:PO X lo tl)(p:PO X hi th):PE X (.Subscript e (.Slice lo hi none p2) pos) (tSl r te tl th):=by
 intro w s y H Q I h;refine Subscript_ (thn (c w s y H _ I h) λv L ⟨x,N,O,P,R⟩=>?_);refine wpAny_Slice (thn (f w L y N _ O R) λz U ⟨l,W,Y,Z,A⟩=>thn (p w U y W _ Y A) λm j ⟨u,g,B,C,D⟩=>?_);rw[evalPart_none];refine X7 ?_;have E:Inv X w y g {j with heap:=j.heap.push {cls:=.type "slice",data:=.fields #[z,m,.none]} }:=B.kept (t':=j.toks) fun b M q=>Xr _ q;obtain⟨T,id,F,G,J⟩:=d w {j with heap:=j.heap.push {cls:=.type "slice",data:=.fields #[z,m,.none]} } y g x v z m l u j.heap.objs.size Q E P (Heap.IsSliceOf.new ..) Z C D;show X3 (X6 X.prog X.w) X.A (subscriptTail e (.Slice lo hi none p2) v (.ref j.heap.objs.size)) (EP X w y Q) X.xe {j with heap:=j.heap.push {cls:=.type "slice",data:=.fields #[z,m,.none]} };exact tail_any (ops:=[.ref j.heap.objs.size,v]) G F J (by with_unfolding_all rfl)
noncomputable def cutV(xs:List V)(lo hi:Option Int):List V:=(xs.drop (HT.sIx xs.length 0 lo)).take (HT.sIx xs.length xs.length hi - HT.sIx xs.length 0 lo)
theorem J1(xs:List V)(lo hi:Option Int):(cutV xs lo hi).length<=xs.length:=by
 unfold cutV;rw[Z6,C8];lia
def rSlT(K:X4):V->Option Int->Option Int->Hp->VK->Prop:=λx lo hi H Q=>∃a j,x=.ref a/\SqT K H a j/\
 ¬(HT.sIx j.length 0 lo=0/\HT.sIx j.length j.length hi=j.length)/\∀p,H p=none->Q (.ref p) (upd H p (.tup (cutV j lo hi)))
theorem _pc:SlR X (rSlT X.K):=by
 intro p s L H x v N O lo hi P Q I z m g d h;obtain⟨a,l,rfl,c,f,q⟩:=h;cases z;obtain⟨u,r,w,y⟩:=I.tuple c;have j:u.toArray.size=l.length:=by rw[XR];exact r.length.symm
 refine⟨"tuple",_,VH.lookup,w.typeIs,?_⟩;refine HT.getItem_tuple_cut w m g d (by rw[j];exact f) ?_ (by rw[j];exact y)
 rw[j];refine⟨.ref s.heap.objs.size,_,I.laid (t':=s.toks) (o:=.tup (cutV l lo hi)) (λb R q=>Xr _ q) (Xe _) ?_,rfl,q _ (I.hok.fresh (Xe _))⟩;exact⟨XY (J1 l lo hi) y,_,(r.drop (HT.sIx l.length 0 lo)).take (HT.sIx l.length l.length hi - HT.sIx l.length 0 lo),IsTup.new _ _,_,XS _ rfl,rfl⟩
def Zrg(K:X4):R2:=λx y H Q=>∃a b l j,x=.ref a/\y=.ref b/\SqT K H a l/\SqT K H b j/\l≠ []/\l.length+j.length<=sizeLine/\
 (j=[]->Q (.ref a) H)/\(j≠ []->∀p,H p=none->Q (.ref p) (upd H p (.tup (l++j))))
theorem Vals.nil_iff(r:Vals xs us):us=[]↔xs=[]:=by
 cases r with
 |nil=>simp
 |cons _ _=>simp
theorem _nC:OpR X (Ym .Add) (Zrg X.K):=by
 intro U s W H x y v u Q I d c h;obtain⟨a,b,f,r,rfl,rfl,p,L,N,m,O,P⟩:=h;cases d;cases c;obtain⟨R,l,T,_⟩:=I.tuple p;obtain⟨g,j,p2,_⟩:=I.tuple L;refine HT.cat_tup T p2 (λz=>N (l.nil_iff.mp z)) (λz=>⟨.ref a,H,I,rfl,O (j.nil_iff.mp z)⟩) (λz=>?_) (by rw[<-l.length,<-j.length];exact m)
 refine⟨.ref s.heap.objs.size,_,I.laid (t':=s.toks) (o:=.tup (f++r)) (λb Y q=>Xr _ q) (Xe _) ?_,rfl,P (λw=>z (j.nil_iff.mpr w)) _ (I.hok.fresh (Xe _))⟩;exact⟨by rw[Yt];exact m,_,l.append j,IsTup.new _ _,_,XS _ rfl,rfl⟩
end
noncomputable def ixN(n:Nat)(i:Int):Option Nat:=if 0<=i then(if i<n then some i.toNat else none)else if -(n:Int)<=i then some (i+n).toNat else none
def atI{l:Type}(xs:List l)(i:Int):Option l:=(ixN xs.length i).bind λj=>xs[j]?
theorem J4(h:ixN n i=some j):seqIndex? i n=some j/\j<n/\ -(n:Int)<=i/\i<n:=by
 unfold ixN at h;by_cases h0:0<=i
 .rw[if_pos h0]at h;by_cases h1:i<n
  .rw[if_pos h1]at h;have e:i.toNat=j:=Y9 h;exact⟨by rw[seqIndex_of h0 h1,e],by lia,by lia,h1⟩
  .rw[if_neg h1]at h;cases h
 .rw[if_neg h0]at h;by_cases h1:-(n:Int)<=i
  .rw[if_pos h1]at h;have e:(i+n).toNat=j:=Y9 h;exact⟨by rw[seqIndex_neg (by lia) h1,e],by lia,h1,by lia⟩
  .rw[if_neg h1]at h;cases h
theorem Ev{l:Type}{xs:List l}{i:Int}{v:l}(h:atI xs i=some v):∃j,seqIndex? i xs.length=some j/\xs[j]?=some v/\j<xs.length/\ -(xs.length:Int)<=i/\i<xs.length:=by
 unfold atI at h;cases e:ixN xs.length i with
 |none=>rw[e]at h;cases h
 |some j=>
  rw[e]at h;obtain⟨u,w,y,z⟩:=J4 e;exact⟨j,u,h,w,y,z⟩
theorem Yr{l:Type}{xs:List l}{j:Nat}{v:l}(h:xs[j]?=some v):atI xs (j:Int)=some v:=by
 have u:j<xs.length:=(XF.mp h).1;have e:ixN xs.length (j:Int)=some j:=by
  unfold ixN;rw[if_pos (by lia),if_pos (by lia)];simp
 unfold atI;rw[e];exact h
noncomputable def J5(b:Expr):Prop:=∀o i,subscripted b false o i=operate [o,i] (getItem o i)
def IxR(X:Cx)(r:R2):Prop:=
 ∀(l j:Expr)(w:List (Addr×Obj))(s:X2)(z:St)(H:Hp)(x y:V)(v u:X0)(Q:VK),Inv X w z H s->RelV x v->RelV y u->r x y H Q->
  subscripted j false v u=operate [v,u] (getItem v u)->X3 (X6 X.prog X.w) X.A (subscriptTail l j v u) (EP X w z Q) X.xe s
def MtR(X:Cx)(id:String)(r:V->List V->Hp->VK->Prop):Prop:=
 ∀(j:List (Addr×Obj))(s:X2)(l:St)(H:Hp)(x:V)(u:List V)(v:X0)(w:List X0)(Q:VK),Inv X j l H s->RelV x v->Vals u w->r x u H Q->
  X3 (X6 X.prog X.w) X.A (call (.builtin id) (v::w)) (EP X j l Q) X.xe s
section
variable{X:Cx}{a b:Expr}{ta tb:TE}{pos:Pos}
theorem _s4{r:R2}(j:IxR X r)(l:PE X a ta)(w:PE X b tb)(z:J5 b):PE X (.Subscript a b pos) (tOp r ta tb):=by
 intro m s g H Q I h;exact Subscript_ (binT l w I h λv u d x y c f p e q=>j a b m d g c x y v u Q f p e q (z _ _))
def rIxL(K:X4):R2:=λx y H Q=>∃p j i v,x=.ref p/\y=.int i/\SqL K H p j/\atI j i=some v/\Q v H
def rIxT(K:X4):R2:=λx y H Q=>∃p j i v,x=.ref p/\y=.int i/\SqT K H p j/\atI j i=some v/\Q v H
def rIxS:R2:=λx y H Q=>∃z i c,x=.str z/\y=.int i/\z.length<=sizeLine/\atI z.cps.toList i=some c/\Q (.str ⟨#[c]⟩) H
theorem J7:IxR X (rIxL X.K):=by
 intro g d N s O H x y v u Q I T U h P;obtain⟨p,E,i,z,rfl,rfl,W,Y,q⟩:=h;cases T;obtain⟨t,rfl⟩:=U;obtain⟨c,r,f,F⟩:=I.list W;obtain⟨j,m,Z,G,A,B⟩:=Ev Y;obtain⟨w,R,e⟩:=r.get Z;have C:=r.length;have J:=VN;have l:EP X N O Q w s:=⟨z,H,I,e,q⟩;by_cases h0:0<=i
 .have L:i.toNat=j:=by
   rw[seqIndex_of h0 B]at m;exact Y9 m
  exact item_listR f.isList h0 (by lia) (by rw[L];simpa using R) l P
 .have L:(i+(c.toArray.size:Int)).toNat=j:=by
   rw[seqIndex_neg (by lia) A]at m
   rw[XR,<-C];exact Y9 m
  exact subscriptTail_builtinR (x:=w) f.isList.typeIs slot_list_getitem.lookup
   (wpAny_getItem_list_neg (Q:=λr D=>r=w/\EP X N O Q r D) f.isList (by lia) (by rw[XR]<;>lia) (by lia) (by rw[L];simpa using R) ⟨rfl,l⟩) P
theorem _qu:IxR X (rIxT X.K):=by
 intro l m c s f H x y v u Q I L N h O;obtain⟨p,B,i,z,rfl,rfl,P,R,q⟩:=h;cases L;obtain⟨t,rfl⟩:=N;obtain⟨T,r,e,C⟩:=I.tuple P;obtain⟨j,U,W,D,E,F⟩:=Ev R;obtain⟨w,Y,g⟩:=r.get W;have Z:=r.length;have G:=VN;have d:EP X c f Q w s:=⟨z,H,I,g,q⟩;exact subscriptTail_builtinR (x:=w) e.typeIs slot_tuple_getitem.lookup
  (getItem_tuple (j:=j) (Q:=λr A=>r=w/\EP X c f Q r A) e (by lia) (by lia) (by rw[XR,<-Z];exact U) (by simpa using Y) ⟨rfl,d⟩) O
theorem _qv:IxR X rIxS:=by
 intro l w R s T H x y v u Q I g d h f;obtain⟨z,i,c,rfl,rfl,U,r,q⟩:=h;obtain⟨t,rfl⟩:=g;obtain⟨W,rfl⟩:=d;obtain⟨j,m,p,Y,e,L⟩:=Ev r;have N:z.cps.toList.length=z.length:=by simp[Str.length]
 rw[N]at m e L;have Z:=VN;exact tail_any (typeIs_str s z t) slot_str_getitem.lookup (getItem_str (c:=c) (by
  have O:decide (i< -(2^63:Int))=false:=decide_eq_false (by lia)
  have P:decide (i >= 2^63)=false:=decide_eq_false (by lia)
  rw[O,P,Bool.or_false]) (by rw[m];simpa using p) ⟨.str ⟨#[c]⟩,H,I.tok _,⟨_,rfl⟩,q⟩) f
theorem _hL(l:List X0)(n j:Nat)(u:X0):Ub (·.setIfInBounds j u) {cls:=.type "list",data:=.seq l.toArray n}={cls:=.type "list",data:=.seq (l.set j u).toArray n}:=by
 simp[Ub]
theorem Inv.lst(I:Inv X pq σ H s)(h:H p=some (.lst xs)):
  ∃(j:List X0) (n:Nat),Vals xs j/\s.heap.get? p=some {cls:=.type "list",data:=.seq j.toArray n}/\xs.length<=sizeLine:=by
 obtain⟨z,j,n,r,e⟩:=I.hok p _ h;exact⟨j,n,r,e,z⟩
theorem Inv.lstUpd{w:List (Addr×Obj)}{y:St}{H:Hp}{s:X2}{p:Addr}{xs ys:List V}{j its':List X0}{n l:Nat}{f:Obj->Obj}(I:Inv X w y H s)(h:H p=some (.lst xs))
  (m:s.heap.get? p=some {cls:=.type "list",data:=.seq j.toArray n})(z:f {cls:=.type "list",data:=.seq j.toArray n}={cls:=.type "list",data:=.seq its'.toArray l})(r:Vals ys its')(g:ys.length<=sizeLine)(t:Nat):
  Inv X w y (upd H p (.lst ys)) {s with heap:=s.heap.update p f,toks:=t}:=by
 have e:(s.heap.update p f).get? p=some {cls:=.type "list",data:=.seq its'.toArray l}:=by
  rw[UV f m (by rw[z]<;>rfl),z]
 refine I.write (x:=p) (e:=p) (by rw[h];trivial) (.inl rfl) (λb u d q=>(Vz _ _ (XT d)).trans q) ⟨_,e⟩ ?_
 exact⟨g,its',l,r,e⟩
def Zrf:V->V->V->Hp->(Hp->Prop)->Prop:=λo i v H Q=>∃p l k j,o=.ref p/\i=.int k/\H p=some (.lst l)/\ixN l.length k=some j/\Q (upd H p (.lst (l.set j v)))
theorem _kK:PSet X Zrf:=by
 intro e s L H o i v W Y u Q I N O P h;obtain⟨p,R,k,j,rfl,rfl,g,T,q⟩:=h;cases N;obtain⟨t,rfl⟩:=O;obtain⟨l,n,r,y,U⟩:=I.lst g;obtain⟨w,Z,d,c⟩:=J4 T;have z:=r.length;have A:=VN;have f:Inv X e L (upd H p (.lst (R.set j v))) {s with heap:=s.heap.update p (Ub (·.setIfInBounds j u))}:=
  I.lstUpd g y (_hL l n j u) (r.set P j) (by rw[Uw];exact U) s.toks
 by_cases h0:0<=k
 .have m:k.toNat=j:=by
   rw[seqIndex_of h0 c]at w;exact Y9 w
  exact PySem.W.ki_setAt y h0 (by lia) (by rw[XR,<-z];exact c) (by rw[m];exact⟨_,f,q⟩)
 .have m:(k+(l.toArray.size:Int)).toNat=j:=by
   rw[seqIndex_neg (by lia) d]at w
   rw[XR,<-z];exact Y9 w
  exact PySem.W.ki_setBack y (by lia) (by rw[XR,<-z];exact d) (by lia) (by rw[m];exact⟨_,f,q⟩)
theorem _eq(lo j:Option Int)(n:Nat):(UQ lo j none n).1=((HT.sIx n 0 lo:Nat):Int)/\(UQ lo j none n).2.1=((HT.sIx n n j:Nat):Int)/\(UQ lo j none n).2.2=1:=by
 refine⟨?_,?_,rfl⟩
 .cases lo with
  |none=>simp[UQ,HT.sIx]
  |some i=>
   simp only[UQ,HT.sIx,Option.getD_none,show(1:Int)>0 by decide,if_true]
   by_cases h:i<0
   .simp only[h,if_true]<;>lia
   .simp only[h,if_false]<;>lia
 .cases j with
  |none=>simp[UQ,HT.sIx]
  |some i=>
   simp only[UQ,HT.sIx,Option.getD_none,show(1:Int)>0 by decide,if_true]
   by_cases h:i<0
   .simp only[h,if_true]<;>lia
   .simp only[h,if_false]<;>lia
theorem _dA(j:List X0)(lo l:Option Int):slicePick j.toArray lo l none=((j.drop (HT.sIx j.length 0 lo)).take (HT.sIx j.length j.length l - HT.sIx j.length 0 lo)).toArray:=by
 obtain⟨u,w,y⟩:=_eq lo l j.toArray.size;unfold slicePick;rw[u,w,y];simp only[sliceRange_one,pick_run,XR]<;>rfl
def rSlL(K:X4):V->Option Int->Option Int->Hp->VK->Prop:=λx lo l H Q=>∃a j,x=.ref a/\SqL K H a j/\∀p,H p=none->Q (.ref p) (upd H p (.lst (cutV j lo l)))
theorem J8:SlR X (rSlL X.K):=by
 intro p s e H x v L N lo u O Q I y z m g h;obtain⟨a,j,rfl,d,q⟩:=h;cases y;obtain⟨c,r,w,f⟩:=I.list d;have l:=r.length;refine⟨"list",_,slot_list_getitem.lookup,w.isList.typeIs,?_⟩;refine wpAny_getItem_list_slice w.isList z m g .none (by simp) ?_ (by rw[XR]<;>lia)
 rw[_dA,<-l];refine⟨.ref s.heap.objs.size,_,I.laid (t':=s.toks) (o:=.lst (cutV j lo u)) (λb P q=>Xr _ q) (Xe _) ?_,rfl,q _ (I.hok.fresh (Xe _))⟩;exact⟨XY (J1 j lo u) f,_,0,(r.drop (HT.sIx j.length 0 lo)).take (HT.sIx j.length j.length u - HT.sIx j.length 0 lo),XS _ rfl⟩
noncomputable def ZK:V->Bool
 |.non=>true
 |.bl _=>true
 |.int _=>true
 |.str _=>true
 |_=>false
noncomputable def eqV:V->V->Bool
 |.non,.non=>true
 |.bl a,.bl b=>a==b
 |.bl a,.int b=>(if a then 1 else 0)==b
 |.int a,.bl b=>a==(if b then 1 else 0)
 |.int a,.int b=>a==b
 |.str a,.str b=>a==b
 |_,_=>false
theorem J9(w:RelV y u)(j:RelV x v)(m:ZK y=true)(z:ZK x=true):SeqAt.EqAt A s u v (eqV y x):=by
 cases y with
 |non=>
  cases w;cases x with
  |non=>cases j;exact SeqAt.EqAt.same _
  |bl b=>cases j;exact SeqAt.EqAt.none_bool b
  |int b=>obtain⟨t,rfl⟩:=j;exact SeqAt.EqAt.none_int b t
  |str b=>obtain⟨t,rfl⟩:=j;exact SeqAt.EqAt.none_str b t
  |_=>exact absurd (show false=true from z) XD
 |bl a=>
  cases w;cases x with
  |non=>cases j;exact SeqAt.EqAt.bool_none a
  |bl b=>cases j;exact SeqAt.EqAt.bool_bool a b
  |int b=>obtain⟨t,rfl⟩:=j;exact SeqAt.EqAt.bool_int a b t
  |str b=>obtain⟨t,rfl⟩:=j;exact SeqAt.EqAt.bool_str a b t
  |_=>exact absurd (show false=true from z) XD
 |int a=>
  obtain⟨l,rfl⟩:=w;cases x with
  |non=>cases j;exact SeqAt.EqAt.int_none a l
  |bl b=>cases j;exact SeqAt.EqAt.int_bool a l b
  |int b=>obtain⟨t,rfl⟩:=j;exact SeqAt.EqAt.int_int a l b t
  |str b=>obtain⟨t,rfl⟩:=j;exact Iq a l b t
  |_=>exact absurd (show false=true from z) XD
 |str a=>
  obtain⟨l,rfl⟩:=w;cases x with
  |non=>cases j;exact SeqAt.EqAt.str_none a l
  |bl b=>cases j;exact SeqAt.EqAt.str_bool a l b
  |int b=>obtain⟨t,rfl⟩:=j;exact Ir a l b t
  |str b=>obtain⟨t,rfl⟩:=j;exact SeqAt.EqAt.str_str a l b t
  |_=>exact absurd (show false=true from z) XD
 |_=>exact absurd (show false=true from m) XD
def eqU(x:V)(u:X0):Bool:=match u with
 |.none=>eqV .non x
 |.bool b=>eqV (.bl b) x
 |.int i _=>eqV (.int i) x
 |.str z _=>eqV (.str z) x
 |_=>false
theorem Ja(r:RelV y u)(f:ZK y=true):eqU x u=eqV y x:=by
 cases y with
 |non=>cases r;rfl
 |bl b=>cases r;rfl
 |int i=>obtain⟨t,rfl⟩:=r;rfl
 |str z=>obtain⟨t,rfl⟩:=r;rfl
 |_=>exact absurd (show false=true from f) XD
theorem WP:∀{xs:List V} {us:List X0},Vals xs us->xs.all ZK=true->us.any (eqU x)=xs.any λy=>eqV y x
 |_,_,.nil,_=>rfl
 |y::xs,u::us,.cons r t,f=>by
  rw[US,XX]at f;rw[ZE,ZE,Ja r f.1,WP t f.2]
theorem WQ(l:RelV x v)(w:ZK x=true):∀{xs:List V} {us:List X0},Vals xs us->xs.all ZK=true->∀u∈us,SeqAt.EqAt A s u v (eqU x u)
 |_,_,.nil,_=>λu j=>by cases j
 |y::xs,u::us,.cons r t,f=>λz j=>by
  rw[US,XX]at f;rcases Xk.mp j with rfl|j
  .rw[Ja r f.1];exact J9 r l f.1 w
  .exact WQ l w t f.2 z j
def inV(x:V)(xs:List V):Bool:=xs.any λy=>eqV y x
def rIn(K:X4)(l:Bool):R2:=λx y H Q=>∃p j,y=.ref p/\(SqL K H p j\/SqT K H p j)/\ZK x=true/\j.all ZK=true/\Q (.bl (if l then !inV x j else inV x j)) H
theorem Ew:OpR X (Y1 .In) (rIn X.K false):=by
 intro e s L H x y v u Q I g c h;obtain⟨p,N,rfl,l,d,fs,q⟩:=h;cases c;rcases l with l|l
 .obtain⟨j,r,z,f⟩:=I.list l;refine SeqAt.in_listAt (eqU x) z.isList (λw m=>WQ g d r fs w (by simpa using m)) ⟨.bl _,H,I,rfl,?_⟩
  rw[show j.toArray.any (eqU x)=j.any (eqU x) by simp,WP r fs]
  exact q
 .obtain⟨j,r,z,f⟩:=I.tuple l;refine SeqAt.in_tupleAt (eqU x) z (λw m=>WQ g d r fs w (by simpa using m)) ⟨.bl _,H,I,rfl,?_⟩
  rw[show j.toArray.any (eqU x)=j.any (eqU x) by simp,WP r fs]
  exact q
theorem Ex:OpR X (Y1 .NotIn) (rIn X.K true):=by
 intro e s L H x y v u Q I g c h;obtain⟨p,N,rfl,l,d,fs,q⟩:=h;cases c;rcases l with l|l
 .obtain⟨j,r,z,f⟩:=I.list l;refine SeqAt.notIn_listAt (eqU x) z.isList (λw m=>WQ g d r fs w (by simpa using m)) ⟨.bl _,H,I,rfl,?_⟩
  rw[show j.toArray.any (eqU x)=j.any (eqU x) by simp,WP r fs]
  exact q
 .obtain⟨j,r,z,f⟩:=I.tuple l;refine SeqAt.notIn_tupleAt (eqU x) z (λw m=>WQ g d r fs w (by simpa using m)) ⟨.bl _,H,I,rfl,?_⟩
  rw[show j.toArray.any (eqU x)=j.any (eqU x) by simp,WP r fs]
  exact q
theorem Ey:Yw X (.builtin "len") (fun xs H Q=>∃p ys,xs=[.ref p]/\(SqL X.K H p ys\/SqT X.K H p ys)/\Q (.int ys.length) H):=by
 intro d s c H xs f Q I r h;obtain⟨p,ys,rfl,l,q⟩:=h;obtain⟨u,rfl,m⟩:=_n r;cases m;have e:=VN;rcases l with l|l
 .obtain⟨w,y,z,g⟩:=I.list l;have j:=y.length;exact Calls.call_len_list z.isList (by simp only[XR]<;>lia) ⟨.int ys.length,H,I.tok _,⟨s.toks+1,by rw[XR,j]⟩,q⟩
 .obtain⟨w,y,z,g⟩:=I.tuple l;have j:=y.length;exact len_tuple z (by simp only[XR]<;>lia) ⟨.int ys.length,H,I.tok _,⟨s.toks+1,by rw[XR,j]⟩,q⟩
theorem _fx:Yw X (.builtin "len") (fun xs H Q=>∃z,xs=[.str z]/\z.length<=sizeLine/\Q (.int z.length) H):=by
 intro j s l H xs w Q I r h;obtain⟨z,rfl,y,q⟩:=h;obtain⟨u,rfl,t,rfl⟩:=_n r;have m:=VN;exact len_str (by lia) ⟨.int z.length,H,I.tok _,⟨_,rfl⟩,q⟩
theorem Jb:Yw X (.type "list") (fun xs H Q=>∃p ys,xs=[.ref p]/\(SqL X.K H p ys\/SqT X.K H p ys)/\∀l,H l=none->Q (.ref l) (upd H l (.lst ys))):=by
 intro T s U H xs Y Q I r h;obtain⟨p,ys,rfl,m,q⟩:=h;obtain⟨u,rfl,W⟩:=_n r;cases W;have g:∀(j:List X0),Vals ys j->ys.length<=sizeLine->∀(w:Heap)(y:Nat),(∀b R,s.heap.get? b=some R->w.get? b=some R)->
   w.get? s.heap.objs.size=some {cls:=.type "list",dict:=none,data:=.seq j.toArray y,slots:=#[]}->EP X T U Q (.ref s.heap.objs.size) {s with heap:=w}:=fun j z d w y c e=>
  ⟨.ref s.heap.objs.size,_,I.laid (t':=s.toks) c (Xe _) (show ObjOk X.prog X.w _ w _ (.lst ys)from⟨d,j,y,z,e⟩),rfl,q _ (I.hok.fresh (Xe _))⟩
 rcases m with m|m
 .obtain⟨j,z,L,d⟩:=I.list m;have f:=z.length;obtain⟨o,N,O,n,P⟩:=L.isList;exact call_list_seq p (.inl rfl) N O P (λw y c e=>g j z d w y c e) (by simp only[XR]<;>lia)
 .obtain⟨j,z,L,d⟩:=I.tuple m;have f:=z.length;obtain⟨o,N,O,n,P⟩:=L;exact call_list_seq p (.inr rfl) N O P (λw y c e=>g j z d w y c e) (by simp only[XR]<;>lia)
theorem _eg:Yw X (.type "tuple") (fun xs H Q=>∃p ys,xs=[.ref p]/\((SqL X.K H p ys/\∀l,H l=none->Q (.ref l) (upd H l (.tup ys)))\/(SqT X.K H p ys/\Q (.ref p) H))):=by
 intro g s d H xs R Q I r h;obtain⟨p,ys,rfl,h⟩:=h;obtain⟨u,rfl,N⟩:=_n r;cases N;rcases h with⟨y,q⟩|⟨y,q⟩
 .obtain⟨j,z,m,c⟩:=I.list y;have f:=z.length;refine call_tuple_list m.isList (λw O=>?_) (by simp only[XR]<;>lia)
  have L:Inv X g d H {s with heap:=w}:=I.kept (t':=s.toks) O;have P:Inv X g d (upd H w.objs.size (.tup ys)) {s with heap:=w.push {cls:=.type "tuple",data:=.seq j.toArray} }:=
   L.laid (t':=s.toks) (λb o e=>Xr _ e) (Xe _) (show ObjOk X.prog X.w _ _ _ (.tup ys)from⟨c,j,z,IsTup.new _ _,_,XS _ rfl,rfl⟩)
  exact⟨.ref w.objs.size,_,P,rfl,q _ (L.hok.fresh (Xe _))⟩
 .obtain⟨j,z,m,c⟩:=I.tuple y;exact call_tuple_same m ⟨.ref p,H,I,rfl,q⟩
def tyV(K:X4)(T:String)(x:V)(H:Hp):Prop:=match x with
 |.str _=>T="str"
 |.int _=>T="int"
 |.ref p=>(T="list"/\∃l,SqL K H p l)\/(T="tuple"/\∃o,K.lookup p=some o/\o.cls=.type "tuple"/\o.dict=none)\/
   (T="dict"/\((∃j,H p=some (.dK j))\/∃j,H p=some (.dT j)))\/(T="set"/\∃S n,H p=some (.set S n))
 |_=>False
theorem Jc(I:Inv X pq σ H s)(r:RelV x v)(ty:tyV X.K T x H):
  s.TypeIs v T/\∀a,v=.ref a->∃m,s.heap.get? a=some m/\m.dict=none:=by
 cases x with
 |str z=>
  obtain⟨t,rfl⟩:=r;cases(show T="str" from ty);exact⟨typeIs_str s z t,λ_ e=>nomatch e⟩
 |int i=>
  obtain⟨t,rfl⟩:=r;cases(show T="int" from ty);exact⟨typeIs_int s i t,λ_ e=>nomatch e⟩
 |ref p=>
  cases r;rcases ty with⟨rfl,L,d⟩|⟨rfl,o,j,f,u⟩|⟨rfl,j⟩|⟨rfl,S,n,j⟩
  .obtain⟨q,_,g,_⟩:=I.list d;refine⟨g.isList.typeIs,λa e=>?_⟩;cases e;obtain⟨o,n,e,c,u,_⟩:=g;exact⟨o,e,u⟩
  .refine⟨⟨o,I.kIn p o j,f⟩,λa e=>?_⟩;cases e;exact⟨o,I.kIn _ o j,u⟩
  .have z:∃o,s.heap.get? p=some o/\o.ExactDict:=by
    rcases j with⟨w,j⟩|⟨w,j⟩
    .obtain⟨_,_,_,_,o,_,_,e,l,_⟩:=I.hok p _ j;exact⟨o,e,l⟩
    .obtain⟨_,_,_,_,o,_,_,e,l,_⟩:=I.hok p _ j;exact⟨o,e,l⟩
   obtain⟨o,e,l⟩:=z;refine⟨⟨o,e,l.1⟩,λa y=>?_⟩;cases y;exact⟨o,e,l.2.1⟩
  .obtain⟨o,_,_,_,e,l,_⟩:=I.hok p _ j;refine⟨⟨o,e,l.1⟩,λa y=>?_⟩;cases y;exact⟨o,e,l.2.1⟩
 |_=>exact Y2 ty
def tBM0(K:X4)(T:String)(r:V->List V->Hp->VK->Prop)(to:TE):TE:=λl H Q=>to l H λx j=>tyV K T x j/\r x [] j Q
def tBM(K:X4)(T:String)(r:V->List V->Hp->VK->Prop)(to:TE)(t:TA):TE:=λj H Q=>to j H λx l=>tyV K T x l/\t j l λu w=>r x u w Q
variable{o e:Expr}{es:List Expr}{to:TE}{t:TA}{name:Str}{apos cpos:Pos}{T id:String}{r:V->List V->Hp->VK->Prop}
theorem _q1(d:PlainAttrs T)(u:Slot T name id)(w:typeOf (.builtin id)=pure (.type "method_descriptor"))(c:MtR X id r)(f:PE X o to)
  (j:Uo o name X.env (eval o X.env)=eval o X.env:=by rfl)(l:(apos.endLine==cpos.line)=true:=by rfl):PE X (.Call (.Attribute o name apos) [] [] cpos) (tBM0 X.K T r to):=by
 intro y s z H Q I h;refine wpAny_Call_method0_late j l (thn (f y s z H _ I h) λv q ⟨x,p,m,g,ty,L⟩=>?_);obtain⟨N,O⟩:=Jc m g ty;exact⟨T,id,d,u,w,N,O,Il rfl (PySem.evalArgs_none (c y q z p x [] v [] Q m g .nil L))⟩
theorem _s5(q:PlainAttrs T)(w:Slot T name id)(z:typeOf (.builtin id)=pure (.type "method_descriptor"))(p:MtR X id r)(L:PE X o to)(N:PA X (e::es) t)
  (l:Uo o name X.env (eval o X.env)=eval o X.env:=by rfl)
  (y:((XZ cpos (XA (e::es) X.env)).all (λx=>!x.1)&&(ZY cpos (ZZ [] X.env)).all (λx=>x.1.isSome)
   &&decide ((e::es).length+([]:List Z1).length+(if([]:List Z1).isEmpty then 0 else 1)<30))=true:=by rfl)
  (u:(apos.endLine==cpos.line)=true:=by rfl)(O:XA (e::es) X.env=(false,eval e X.env)::XA es X.env:=by rfl)(j:(XZ cpos (XA es X.env)).any (·.1)=false:=by rfl):
  PE X (.Call (.Attribute o name apos) (e::es) [] cpos) (tBM X.K T r to t):=by
 intro m s g H Q I h;refine wpAny_Call_method_late l y u rfl (thn (L m s g H _ I h) λv P ⟨x,R,d,c,ty,U⟩=>?_);obtain⟨W,Y⟩:=Jc d c ty;refine⟨T,id,q,w,z,W,Y,?_⟩;have f:=N cpos m P g R _ d U;rw[O]at f ⊢;refine Il (by show(false||(XZ cpos (XA es X.env)).any (·.1))=false;rw[j]<;>rfl) (Calls.evalArgs_plain ?_)
 exact thn f λZ A ⟨B,C,D,E,F⟩=>p m A g C x B v Z Q D c E F
/- xs.append(e),list.index on a module's tuple .. are MtR facts of 06m -/
end
def MtM(X:Cx)(id:String)(r:V->List V->Hp->VK->Prop):Prop:=
 ∀(j:List (Addr×Obj))(s:X2)(l:St)(H:Hp)(x:V)(u:List V)(v:X0)(w:List X0)(Q:VK),Inv X j l H s->RelV x v->Vals u w->r x u H Q->
  X3 (X6 X.prog X.w) X.A (call (.builtin id) (v::w)) (EP X j l Q) X.xe s
theorem Vals.one:∀{x:V} {us:List X0},Vals [x] us->∃u,us=[u]/\RelV x u
 |_,_,.cons r .nil=>⟨_,rfl,r⟩
theorem Vals.zero:∀{us:List X0},Vals [] us->us=[]
 |_,.nil=>rfl
theorem Vals.reverse{xs:List V}{us:List X0}(h:Vals xs us):Vals xs.reverse us.reverse:=by
 induction h with
 |nil=>exact .nil
 |cons r t j=>rw[C5,C5];exact Vals.append j (.cons r .nil)
theorem Vals.rep(h:Vals xs us):∀k:Nat,Vals (Xj k xs).flatten (Xj k us).flatten
 |0=>.nil
 |k+1=>by
  rw[Z5,Z5,ZD,ZD];exact Vals.append h (Vals.rep h k)
theorem Ez(j:List X0):∀(k:Nat)(l:List X0),
  Vx (λu w=>u++w) l.toArray (Xj k j.toArray)=(l++(Xj k j).flatten).toArray
 |0,l=>by simp
 |k+1,l=>by
  have e:l.toArray++j.toArray=(l++j).toArray:=by simp
  have y:(l++j)++(Xj k j).flatten=l++(Xj (k+1) j).flatten:=by
   rw[Z5,ZD,Vr]
  rw[<-y,<-Ez j k (l++j),<-e,Z5,Vv]
section
variable{X:Cx}{pq:List (Addr×Obj)}{σ:St}{H:Hp}{s:X2}{l b:Addr}{xs ys zs:List V}
theorem Inv.lset{j its':List X0}{n:Nat}{f:Array X0->Array X0}{t':Nat}(I:Inv X pq σ H s)(w:H l=some (.lst xs))
  (e:s.heap.get? l=some {cls:=.type "list",data:=.seq j.toArray n})(y:f j.toArray=its'.toArray)(z:Vals ys its')(m:ys.length<=sizeLine):
  Inv X pq σ (upd H l (.lst ys)) {s with heap:=s.heap.update l (Ub f),toks:=t'}:=by
 have q:=PySem.IsL.update e f;rw[y]at q;refine I.write (x:=l) (e:=l) (by rw[w];exact trivial) (.inl rfl) (λc u g d=>(Vz s.heap (Ub f) (XT g)).trans d) ⟨_,q⟩ ?_
 exact⟨m,its',_,z,q⟩
theorem Inv.lnew(I:Inv X pq σ H s)(j:Vals ys its)(u:ys.length<=sizeLine):
  Inv X pq σ (upd H s.heap.objs.size (.lst ys)) {s with heap:=s.heap.push {cls:=.type "list",data:=.seq its.toArray},toks:=t'}:=
 I.laid (λ_ _ q=>Xr _ q) (Xe _) ⟨u,its,0,j,XS _ rfl⟩
theorem Inv.fresh(I:Inv X pq σ H s):H s.heap.objs.size=none:=I.hok.fresh (Xe _)
theorem Inv.lstM(I:Inv X pq σ H s)(u:H l=some (.lst xs)):xs.length<=sizeLine/\∃(j:List X0) (n:Nat),Vals xs j/\xs.length=j.length/\s.heap.get? l=some {cls:=.type "list",data:=.seq j.toArray n}:=by
 obtain⟨z,j,n,r,e⟩:=I.hok l _ u;exact⟨z,j,n,r,r.length,e⟩
theorem Jd(h:n<=sizeLine):CF n=false:=by
 unfold CF;exact decide_eq_false (by lia)
end
section
variable{X:Cx}
def Zn6:V->List V->Hp->VK->Prop:=λx u H Q=>∃l j y,x=.ref l/\u=[y]/\H l=some (.lst j)/\j.length<sizeLine/\Q .non (upd H l (.lst (j++[y])))
theorem Je:MtM X "list.append" Zn6:=by
 intro c s f H x p v L Q I m g h;obtain⟨l,N,y,rfl,rfl,w,O,q⟩:=h;cases m;obtain⟨u,rfl,d⟩:=g.one;obtain⟨z,j,n,r,P,e⟩:=I.lstM w;refine Ur F.slot_list_append ⟨_,e,rfl⟩ F.entry_list_append (F.args_list_append_2 _ _) (PySem.list_append l j.toArray n u (by rw[XR];lia)) ⟨e,?_⟩
 refine⟨.non,_,I.lset (its':=j++[u]) w e (by simp) (r.append (.cons d .nil)) ?_,rfl,q⟩
 rw[Yt,List.length_singleton];lia
def Zn5:V->List V->Hp->VK->Prop:=λx w H Q=>∃l b j u,x=.ref l/\w=[.ref b]/\H l=some (.lst j)/\H b=some (.lst u)/\j.length+u.length<=sizeLine/\Q .non (upd H l (.lst (j++u)))
theorem _j0:MtM X "list.extend" Zn5:=by
 intro R s T H x U v W Q I d c h;obtain⟨l,b,Y,Z,rfl,rfl,g,f,A,q⟩:=h;cases d;obtain⟨u,rfl,p⟩:=c.one;cases p;obtain⟨z,w,n,r,B,e⟩:=I.lstM g;obtain⟨C,j,L,N,O,P⟩:=I.lstM f;have m:w.toArray.size+j.toArray.size<=sizeLine:=by rw[XR,XR];lia
 have y:¬(!w.toArray.isEmpty&&CF (w.toArray.size+j.toArray.size))=true:=by
  rw[Jd m,Co];exact XD
 refine Ur F.slot_list_extend ⟨_,e,rfl⟩ F.entry_list_extend (F.args_list_extend_2 _ _)
  (AutoSeq1.list_extend_list_list_0 l w.toArray n b j.toArray L y (by rw[XR];lia) (by lia)) ⟨e,P,?_⟩
 refine⟨.non,_,I.lset (its':=w++j) g e (by simp) (r.append N) ?_,rfl,q⟩
 rw[Yt];lia
def ZkT:V->List V->Hp->VK->Prop:=λx u H Q=>∃l j,x=.ref l/\u=[]/\H l=some (.lst j)/\Q .non (upd H l (.lst j.reverse))
theorem _hJ:MtM X "list.reverse" ZkT:=by
 intro g s d H x c v f Q I y m h;obtain⟨l,p,rfl,rfl,w,q⟩:=h;cases y;have u:=m.zero;subst u;obtain⟨z,j,n,r,L,e⟩:=I.lstM w;refine Ur F.slot_list_reverse ⟨_,e,rfl⟩ F.entry_list_reverse (F.args_list_reverse_1 _) (AutoSeq1.list_reverse_list_0 l j.toArray n (by rw[XR];lia)) ⟨e,?_⟩
 refine⟨.non,_,I.lset (its':=j.reverse) w e (by simp) r.reverse ?_,rfl,q⟩
 rw[List.length_reverse];lia
def rRep:R2:=λx y H Q=>∃l k j,x=.ref l/\y=.int k/\H l=some (.lst j)/\ -(2^63)<=k/\k<2^63/\j.length*k.toNat<=sizeLine/\
 ∀p,H p=none->Q (.ref p) (upd H p (.lst (Xj k.toNat j).flatten))
theorem Jf{j:Type}(xs:List j)(k:Nat):(Xj k xs).flatten.length=k*xs.length:=by
 induction k with
 |zero=>simp
 |succ k l=>rw[Z5,ZD,Yt,l,Nat.succ_mul,Nat.add_comm]
theorem _q5:OpR X (Ym .Mult) rRep:=by
 intro C s D H x y v u Q I O P h;obtain⟨l,k,E,rfl,rfl,R,W,Y,N,q⟩:=h;cases O;obtain⟨t,rfl⟩:=P;obtain⟨z,j,n,r,Z,e⟩:=I.lstM R;have g:j.toArray.size*k.toNat<=sizeLine:=by rw[XR,<-Z];exact N
 have d:¬j.toArray.size*k.toNat>(2^63 - 1)/8:=by
  have:(sizeLine:Nat)<=(2^63 - 1)/8:=by decide
  lia
 have c:¬(!Builtin.List.listFitsIndex k)=true:=by
  rw[fitsIndex_both W Y];exact XD
 have w:¬CF (j.toArray.size*k.toNat)=true:=by
  rw[Jd g];exact XD
 have f:Vx (λp L=>p++L) #[] (Xj (if j.toArray.isEmpty=true then 0 else k.toNat) j.toArray)=(Xj k.toNat j).flatten.toArray:=by
  have A:∀m:Nat,Vx (λp L=>p++L) #[] (Xj m j.toArray)=(Xj m j).flatten.toArray:=λm=>by
   have:=Ez j m [];rw[Y7]at this;exact this
  rw[A];cases j with
  |nil=>simp
  |cons a G=>rw[if_neg (by simp)]
 refine wpAny_binaryOp_repeat_ref (T:="list") (U:="int") (by decide) ⟨_,e,rfl⟩ (fun B=>typeIs_int B k t) noFill_list_mul F.fills_int_mul F.slot_int_rmul repeat_list F.slot_int_index.lookup
  (Ur F.slot_int_rmul (typeIs_int s k t) F.entry_int_rmul (F.args_int_rmul_2 _ _) (int___rmul___int_list k t l j.toArray n)
   ⟨e,rfl,⟨_,e,rfl⟩,Ur F.slot_list_mul ⟨_,e,rfl⟩ F.entry_list_mul (F.args_list_mul_2 _ _) (AutoListH.list___mul___list_int_3 l j.toArray n k t c d w) ⟨e,?_⟩⟩)
 rw[f];exact⟨.ref _,_,I.lnew (t':=s.toks) (r.rep k.toNat) (by rw[Jf,Nat.mul_comm];exact N),rfl,q _ I.fresh⟩
end
section
variable{prog:Xw}{w:Xm}{A:Xz}{E:X0->X2->Prop}{s:X2}
set_option maxRecDepth 100000 in
end
section
variable{X:Cx}
end
section
variable{κ:Type} [DecidableEq κ]
noncomputable def valV(j:List (κ×V))(k:κ):Option V:=(j.find? λl=>decide (l.1=k)).map (·.2)
noncomputable def putK(j:List (κ×V))(k:κ)(v:V):List (κ×V):=
 if(j.any λl=>decide (l.1=k))=true then j.map (λl=>if l.1=k then(l.1,v)else l)else j++[(k,v)]
theorem CP{k:κ}(e:p.1=k):valV (p::r) k=some p.2:=by simp[valV,Vw,e]
theorem CQ{k:κ}(e:¬p.1=k):valV (p::r) k=valV r k:=by simp[valV,Vw,e]
theorem Jg(k:κ):∀j:List (κ×V),(j.any λl=>decide (l.1=k))=(valV j k).isSome
 |[]=>rfl
 |p::r=>by
  rw[ZE];by_cases e:p.1=k
  .simp only[CP e,decide_eq_true e,Bool.true_or,Option.isSome_some]
  .rw[CQ e,decide_eq_false e,Ec];exact Jg k r
theorem Jh(j:List (κ×V))(k:κ)(v:V):(putK j k v).length<=j.length+1:=by
 unfold putK;split
 .rw[Xd];lia
 .rw[Yt,YD,List.length_nil];lia
theorem RelO.isSome_eq(r:RelO o u):o.isSome=u.isSome:=by
 cases o with
 |none=>cases u with
  |none=>rfl
  |some _=>exact(show False from r).elim
 |some _=>cases u with
  |none=>exact(show False from r).elim
  |some _=>rfl
theorem KV.val(r:KV kvs vs)(k:κ):RelO (valV kvs k) (YW vs k):=by
 unfold KV at r
 induction r with
 |nil=>exact YE
 | @cons p q g j h t y=>
  obtain⟨u,m⟩:=h;by_cases e:p.1=k
  .have l:q.1=k:=u.symm.trans e;have b:YW (q::j) k=some q.2:=by simp[YW,Vw,l]
   rw[CP e,b];exact m
  .have l:¬q.1=k:=λz=>e (u.trans z);have b:YW (q::j) k=YW j k:=by simp[YW,Vw,l]
   rw[CQ e,b];exact y
theorem KV.any(r:KV kvs vs)(k:κ):(kvs.any λj=>decide (j.1=k))=vs.any λj=>decide (j.1=k):=by
 unfold KV at r
 induction r with
 |nil=>rfl
 |cons h t l=>rw[ZE,ZE,l,h.1]
theorem KV.repl(r:KV kvs vs)(k:κ)(m:RelV y u):
  KV (kvs.map λj=>if j.1=k then(j.1,y)else j) (vs.map λj=>if j.1=k then(j.1,u)else j):=by
 unfold KV at r ⊢
 induction r with
 |nil=>exact .nil
 | @cons p q c f h t g=>
  rw[Xx,Xx];refine .cons ?_ g;obtain⟨l,d⟩:=h;by_cases e:p.1=k
  .rw[if_pos e,if_pos (l.symm.trans e)];exact⟨l,m⟩
  .rw[if_neg e,if_neg (λz=>e (l.trans z))];exact⟨l,d⟩
theorem KV.put(r:KV kvs vs)(k:κ)(j:RelV y u):KV (putK kvs k y) (stored vs k u):=by
 unfold putK stored;rw[r.any k];by_cases e:(vs.any λl=>decide (l.1=k))=true
 .rw[if_pos e,if_pos e];exact r.repl k j
 .rw[if_neg e,if_neg e];exact Paired.snoc r ⟨rfl,j⟩
theorem KV.length(r:KV kvs vs):kvs.length=vs.length:=Paired.length r
end
theorem V4{k:Key}(r:RelV (kV k) u):(YJ P w).is k u=true:=by
 cases k with
 |inl i=>obtain⟨t,e⟩:=(show∃t,u=VE i t from r);subst e;exact T0 P w i t
 |inr x=>obtain⟨t,e⟩:=(show∃t,u=XE x t from r);subst e;exact T1 P w x t
theorem Ji:∀{ks:List Key} {us:List X0},Vals (ks.map kV) us->ItemsAre (YJ P w) ks us
 |[],_,r=>by rw[Yc]at r;cases r;exact .nil
 |k::ks,_,r=>by
  rw[Xx]at r;cases r with
  |cons h t=>exact .cons (V4 h) (Ji t)
abbrev KT(H:Hp):List (List Key×V)->List (List Key×Addr×X0)->Prop:=Paired λp q=>p.1=q.1/\H q.2.1=some (.tup (p.1.map kV))/\RelV p.2 q.2.2
theorem KT.val(r:KT H kvs xs)(k:List Key):RelO (valV kvs k) ((atKey xs k).map (·.2)):=by
 induction r with
 |nil=>exact YE
 | @cons p q g j h t y=>
  obtain⟨u,_,m⟩:=h;by_cases e:p.1=k
  .have l:q.1=k:=u.symm.trans e;have b:atKey (q::j) k=some q.2:=by simp[atKey,Vw,l]
   rw[CP e,b];exact m
  .have l:¬q.1=k:=λz=>e (u.trans z);have b:atKey (q::j) k=atKey j k:=by simp[atKey,Vw,l]
   rw[CQ e,b];exact y
theorem KT.repl(r:KT H kvs xs)(k:List Key)(g:RelV y u):
  KT H (kvs.map λl=>if l.1=k then(l.1,y)else l) (xs.map (putAt k u)):=by
 induction r with
 |nil=>exact .nil
 | @cons p q f L h t d=>
  rw[Xx,Xx];refine .cons ?_ d;obtain⟨j,m,c⟩:=h;unfold putAt;by_cases e:p.1=k
  .rw[if_pos e,if_pos (j.symm.trans e)];exact⟨j,m,g⟩
  .rw[if_neg e,if_neg (λz=>e (j.trans z))];exact⟨j,m,c⟩
theorem KT.put(r:KT H kvs xs)(k:List Key)(l:H b=some (.tup (k.map kV)))(j:RelV y u):
  KT H (putK kvs k y) (storedH xs k b u):=by
 have e:(kvs.any λz=>decide (z.1=k))=(atKey xs k).isSome:=by
  rw[Jg,(r.val k).isSome_eq,Ep]
 unfold putK storedH;rw[e];by_cases q:(atKey xs k).isSome=true
 .rw[if_pos q,if_pos q];exact r.repl k j
 .rw[if_neg q,if_neg q];exact Paired.snoc r ⟨rfl,l,j⟩
theorem KT.keeps{H l:Hp}{j:List (List Key×V)}{xs:List (List Key×Addr×X0)}(r:KT H j xs)(u:∀b ys,H b=some (.tup ys)->l b=some (.tup ys)):KT l j xs:=
 Paired.mapP r λ_ _ z=>⟨z.1,u _ _ z.2.1,z.2.2⟩
section
variable{P:Xw}{w:Xm}{H:Hp}{h:Heap}{a:Addr}
theorem Jj(ok:HOk P w H h)(e:Rd H a u):ObjOk P w H h a u:=e.ok ok
theorem V5(ok:HOk P w H h)(e:Rd H a (.dK kvs)):kvs.length<=sizeLine/\(a==YO)=false/\∃vs,KV kvs vs/\h.DictOf (YJ P w) a vs:=
 show ObjOk P w H h a (.dK kvs)from Jj ok e
theorem EA(ok:HOk P w H h)(e:H a=some (.dK kvs)):kvs.length<=sizeLine/\(a==YO)=false/\∃vs,KV kvs vs/\h.DictOf (YJ P w) a vs:=V5 ok (.inl e)
theorem WR(ok:HOk P w H h)(e:H a=some (.tup (ks.map kV))):(tupleKind (YJ P w)).is h ks a:=by
 obtain⟨_,j,r,⟨o,l,u,n,y⟩,_⟩:=(show ObjOk P w H h a (.tup (ks.map kV))from ok a _ e);exact⟨o,j.toArray,n,l,u,y,by simpa using Ji r⟩
theorem WT(ok:HOk P w H h)(e:Rd H a (.dT kvs)):kvs.length<=sizeLine/\(a==YO)=false/\
  ∃xs,KT H kvs xs/\h.DictOfH (tupleKind (YJ P w)) a xs:=by
 obtain⟨z,y,xs,r,o,g,d,c,f,L,N,O⟩:=(show ObjOk P w H h a (.dT kvs)from Jj ok e);refine⟨z,y,xs,r,o,g,d,c,f,L,N,λx j=>?_,O⟩;have all:∀{l:List (List Key×V)} {m:List (List Key×Addr×X0)},KT H l m->∀x∈m,(tupleKind (YJ P w)).is h x.1 x.2.1:=by
  intro l m q
  induction q with
  |nil=>intro x j;exact nomatch j
  | @cons p q T U u t R=>
   intro x j;rcases Xk.mp j with e|j
   .subst e;exact WR ok (by rw[<-u.1];exact u.2.1)
   .exact R x j
 exact all r x j
theorem _sv(ok:HOk P w H h)(e:H a=some (.dT kvs)):kvs.length<=sizeLine/\(a==YO)=false/\
  ∃xs,KT H kvs xs/\h.DictOfH (tupleKind (YJ P w)) a xs:=WT ok (.inl e)
end
def DGet(H:Hp)(a:Addr)(y:V)(r:Option V):Prop:=
 (∃j k,Rd H a (.dK j)/\y=kV k/\r=valV j k)\/∃j k b,Rd H a (.dT j)/\y=.ref b/\H b=some (.tup (k.map kV))/\r=valV j k
def DPut(H:Hp)(a:Addr)(y v:V)(l:Hp):Prop:=
 (∃j k,H a=some (.dK j)/\y=kV k/\j.length<sizeLine/\l=upd H a (.dK (putK j k v)))\/
 ∃j k b,H a=some (.dT j)/\y=.ref b/\H b=some (.tup (k.map kV))/\j.length<sizeLine/\l=upd H a (.dT (putK j k v))
theorem DGet.k{k:Key}(e:H a=some (.dK kvs)):DGet H a (kV k) (valV kvs k):=.inl ⟨kvs,k,.inl e,rfl,rfl⟩
theorem DPut.k{k:Key}(e:H a=some (.dK kvs))(j:kvs.length<sizeLine):DPut H a (kV k) v (upd H a (.dK (putK kvs k v))):=.inl ⟨kvs,k,e,rfl,j,rfl⟩
section
variable{X:Cx}{pq:List (Addr×Obj)}{σ:St}{H:Hp}{s:X2}{a:Addr}{y v:V}{u r:X0}{o:Option V}{A:Xz}{E:X0->X2->Prop}
theorem Inv.big(I:Inv X pq σ H s):YO<s.heap.objs.size:=by
 have h:Xp<s.heap.objs.size:=(I.mod.glob.keeps I.bk).lt;exact UX (by decide) h
theorem _jZ(R:A.units+1<cLine)(I:Inv X pq σ H s)(g:DGet H a y (some v))(O:RelV y u)(h:∀d P,Inv X pq σ H P->RelV v d->Q d P):
  X3 (X6 X.prog X.w) A (getItem (.ref a) u) Q E s:=by
 rcases g with⟨c,k,e,f,l⟩|⟨c,k,b,e,f,T,l⟩
 .subst f;obtain⟨z,U,W,j,q⟩:=V5 I.hok e;obtain⟨d,L,m⟩:=RelO.some_of (v:=v) (o:=YW W k) (by rw[l];exact j.val k)
  exact wpAny_getItem_of (V4 O) q.mapOf L (h d _ (I.tok _) m)
 .subst f;cases(show u=Xn b from O);obtain⟨z,U,Y,j,q⟩:=WT I.hok e;obtain⟨d,L,m⟩:=RelO.some_of (v:=v) (o:=(atKey Y k).map (·.2)) (by rw[l];exact j.val k)
  obtain⟨p,Z,N⟩:=En.mp L;refine wpAny_getItem_heap (BW R) (WR I.hok T) q Z ?_;rw[N];exact h d _ (I.tok _) m
theorem d_in(N:A.units+1<cLine)(I:Inv X pq σ H s)(g:DGet H a y o)(p:RelV y u)(h:∀L,Inv X pq σ H L->Q (.bool o.isSome) L):
  X3 (X6 X.prog X.w) A (Y1 .In u (.ref a)) Q E s:=by
 rcases g with⟨m,k,e,d,l⟩|⟨m,k,b,e,d,O,l⟩
 .subst d;obtain⟨z,c,P,j,f⟩:=V5 I.hok e;refine wpAny_in_of (V4 p) c f.mapOf ?_;rw[<-(j.val k).isSome_eq,<-l];exact h _ (I.tok _)
 .subst d;cases(show u=Xn b from p);obtain⟨z,c,R,j,f⟩:=WT I.hok e;refine wpAny_in_heap (BW N) (WR I.hok O) c f ?_;have q:=(j.val k).isSome_eq;rw[Ep]at q;rw[<-q,<-l];exact h _ (I.tok _)
theorem _oA(N:A.units+1<cLine)(I:Inv X pq σ H s)(g:DGet H a y o)(p:RelV y u)(h:∀L,Inv X pq σ H L->Q (.bool (!o.isSome)) L):
  X3 (X6 X.prog X.w) A (Y1 .NotIn u (.ref a)) Q E s:=by
 rcases g with⟨m,k,e,d,l⟩|⟨m,k,b,e,d,O,l⟩
 .subst d;obtain⟨z,c,P,j,f⟩:=V5 I.hok e;refine wpAny_notIn_of (V4 p) c f.mapOf ?_;rw[<-(j.val k).isSome_eq,<-l];exact h _ (I.tok _)
 .subst d;cases(show u=Xn b from p);obtain⟨z,c,R,j,f⟩:=WT I.hok e;refine wpAny_notIn_heap (BW N) (WR I.hok O) c f ?_;have q:=(j.val k).isSome_eq;rw[Ep]at q;rw[<-q,<-l];exact h _ (I.tok _)
theorem Jk(I:Inv X pq σ H s)(j:Mut (H a))(l:U4 a s.heap h')(m:∃q,h'.get? a=some q)(new:ObjOk X.prog X.w (upd H a ob) h' a ob):
  Inv X pq σ (upd H a ob) {s with heap:=h',toks:=t'}:=
 I.write (x:=a) (e:=a) j (.inl rfl) (λb q g z=>(l.2 b g).trans z) m new
theorem CS(z:kvs.length<=sizeLine)(l:(a==YO)=false)(j:KV kvs vs)(m:h'.DictOf (YJ P w) a vs):
  ObjOk P w H' h' a (.dK kvs):=⟨z,l,vs,j,m⟩
theorem _jY{U:Hp}{Q:Unit->X2->Prop}(F:A.units+1<cLine)(I:Inv X pq σ H s)(g:DPut H a y v U)(W:RelV y u)(Y:RelV v r)(h:∀Z,Inv X pq σ U Z->Q () Z):
  X3 (X6 X.prog X.w) A (setItem (.ref a) u r) Q E s:=by
 rcases g with⟨j,k,e,p,l,L⟩|⟨j,k,b,e,p,B,l,L⟩
 .subst p L;obtain⟨z,N,G,m,O⟩:=EA I.hok e;have P:G.length<=sizeLine:=by rw[<-m.length];exact z
  have R:(putK j k v).length<=sizeLine:=by have:=Jh j k v;lia
  refine wpAny_setItem_pairs (hsz:=P) (V4 W) O λC d T=>h _ ?_;have J:∃q,C.get? a=some q:=let⟨q,_,_,f,_⟩:=d;⟨q,f⟩
  exact Jk I (by rw[e];exact YE) T J (CS R N (m.put k Y) d)
 .subst p L;cases(show u=Xn b from W);obtain⟨z,N,M,m,O⟩:=_sv I.hok e;have P:M.length<=sizeLine:=by rw[<-Paired.length m];exact z
  have R:(putK j k v).length<=sizeLine:=by have:=Jh j k v;lia
  refine wpAny_setItem_heap (hsz:=P) (BW F) (WR I.hok B) O λC d T=>h _ ?_;obtain⟨q,S,i,f,n,x,h4,_,h5⟩:=d;refine Jk I (by rw[e];exact YE) T ⟨q,f⟩ ⟨R,N,_,(m.put k B Y).keeps λc ys D=>?_,q,S,i,f,n,x,h4,h5⟩
  rw[XN (Ix D e (λz=>nomatch z))];exact D
end
section
variable{X:Cx}{pq:List (Addr×Obj)}{σ:St}{H:Hp}{s:X2}{a:Addr}{kvs:List (Key×V)}{k:Key}{u:X0}{A:Xz}{E:X0->X2->Prop}
theorem _sw(I:Inv X pq σ H s)(e:Rd H a (.dK kvs))(h:∀t l,Inv X pq σ H l->Q (.int kvs.length t) l):X3 (X6 X.prog X.w) A (call (.builtin "len") [.ref a]) Q E s:=by
 obtain⟨z,y,g,j,m⟩:=V5 I.hok e;refine call_len_dict y m (by rw[<-j.length];rw[sizeLine_eq]at z;lia) ?_
 rw[<-j.length];exact h _ _ (I.tok _)
end
theorem _gs(I:Inv X pq σ H s)(g:DGet H a y o):s.TypeIs (.ref a) "dict":=by
 rcases g with⟨j,k,e,_,_⟩|⟨j,k,b,e,_,_,_⟩
 .obtain⟨_,_,u,_,l⟩:=V5 I.hok e;exact l.typeIs
 .obtain⟨_,_,z,_,l⟩:=WT I.hok e;exact l.typeIs
section
variable{X:Cx}{o i e value:Expr}{pos pos' tpos:Pos}{td ty tv:TE}
end
section
variable{X:Cx}{pos:Pos}
end
def Jl:List (TE×TE)->St->Hp->(List (V×V)->Hp->Prop)->Prop
 |[],_,H,Q=>Q [] H
 |(tk,tv)::r,σ,H,Q=>tk σ H λx j=>tv σ j λy l=>Jl r σ l λu z=>Q ((x,y)::u) z
abbrev VV:List (V×V)->List (X0×X0)->Prop:=Paired λp q=>RelV p.1 q.1/\RelV p.2 q.2
def PPs(X:Cx)(pos:Pos)(l:List (Option Expr))(j:List Expr)(u:List (TE×TE)):Prop:=
 ∀(z:List (Addr×Obj))(s:X2)(y:St)(H:Hp)(Q:List (V×V)->Hp->Prop),Inv X z y H s->Jl u y H Q->
  X3 (X6 X.prog X.w) X.A (evalPairs (pairTrees l j X.env pos)) (λd c=>∃m g,Inv X z y g c/\VV m d/\Q m g) X.xe s
theorem _ni:PPs X pos [] [] []:=λj s l H Q I h=>pairTrees_nil_walk ⟨[],H,I,.nil,h⟩
theorem _kY{X:Cx}{pos:Pos}{k v:Expr}{ks:List (Option Expr)}{vs:List Expr}{tk g:TE}{j:List (TE×TE)}(d:PE X k tk)(c:PE X v g)(f:PPs X pos ks vs j):
  PPs X pos (some k::ks) (v::vs) ((tk,g)::j):=λl s z H Q I h=>
 pairTrees_cons_walk (thn (d l s z H _ I h) λu q ⟨x,r,p,e,L⟩=>thn (c l q z r _ p L) λB N ⟨y,O,P,R,T⟩=>
  thn (f l N z O _ P T) λC D ⟨U,W,Y,m,Z⟩=>⟨(x,y)::U,W,Y,.cons ⟨e,R⟩ m,Z⟩)
structure M1 (X:Cx)(o:Expr)(m:Str)(apos:Pos)(e:Expr)(cpos:Pos):Prop where
 base:Uo o m X.env (eval o X.env)=eval o X.env
 few:((XZ cpos (XA [e] X.env)).all (λx=>!x.1)&&(ZY cpos (ZZ [] X.env)).all (λx=>x.1.isSome)
  &&decide (([e]:List Expr).length+([]:List Z1).length+(if([]:List Z1).isEmpty then 0 else 1)<30))=true
 line:(apos.endLine==cpos.line)=true
 trees:XZ cpos (XA [e] X.env)=[(false,eval e X.env)]
structure M2 (X:Cx)(o:Expr)(m:Str)(apos:Pos)(e f:Expr)(cpos:Pos):Prop where
 base:Uo o m X.env (eval o X.env)=eval o X.env
 few:((XZ cpos (XA [e,f] X.env)).all (λx=>!x.1)&&(ZY cpos (ZZ [] X.env)).all (λx=>x.1.isSome)
  &&decide (([e,f]:List Expr).length+([]:List Z1).length+(if([]:List Z1).isEmpty then 0 else 1)<30))=true
 line:(apos.endLine==cpos.line)=true
 trees:XZ cpos (XA [e,f] X.env)=[(false,eval e X.env),(false,eval f X.env)]
section
variable{X:Cx}{pq:List (Addr×Obj)}{σ:St}{H:Hp}{s:X2}{a:Addr}{y d:V}{u r:X0}{o:Option V}{A:Xz}{E:X0->X2->Prop}
end
section
variable{X:Cx}{o e f:Expr}{apos cpos:Pos}{td ty tx:TE}
end
section
variable{X:Cx}{pq:List (Addr×Obj)}{σ:St}{H:Hp}{s:X2}{a:Addr}{kvs:List (Key×V)}{A:Xz}{E:X0->X2->Prop}
theorem _lC(I:Inv X pq σ H s)(e:Rd H a (.dK kvs))(h:∀p u,H p=none->Inv X pq σ (upd H p (.dK kvs)) u->Q (.ref p) u):X3 (X6 X.prog X.w) A (call (.type "dict") [.ref a]) Q E s:=by
 obtain⟨z,m,c,j,g⟩:=V5 I.hok e;refine kt_call_dict m g (by rw[<-j.length];exact z) λf l d=>?_
 refine h _ _ (I.hok.fresh (Xe _)) (I.laid (a:=s.heap.objs.size) (o:=.dK kvs) (t':=s.toks) (λb q y=>?_) (Xe _) (CS z (beq_eq_false_iff_ne.mpr (XT (XB I.big))) j l));exact(d.2 b (XB (Xv y))).trans (Xr _ y)
end
section
variable{X:Cx}{pq:List (Addr×Obj)}{σ:St}{H:Hp}{s:X2}{a:Addr}{y:V}{u:X0}{A:Xz}{E:X0->X2->Prop}
end
end L2
namespace Att
open PySem PySem.W PySem.Calls PyProof.Rows
theorem _bH:∀(j:List Int)(vs:List X0),WellAll P h vs (j.map WData.int)->IntsAre vs j:=by
 intro j
 induction j with
 |nil=>
  intro vs w;rw[Yc]at w;cases w;exact .nil
 |cons n j l=>
  intro vs w;rw[Xx]at w;cases w with
  |cons a b=>
   cases a;exact .cons _ _ (l _ b)
theorem _iC{l:OpenLaw}{n:Nat}(L:l.most=some n){P:Params}{h:Heap}{j:List WData}{w:List X0}
  (y:l.row.toRowW.claim.pre j=true)(f:WellAll P h w j):
  ∃a vs u,w=[Xn a]/\j=[WData.list (u.map WData.int)]/\h.get? a=some {cls:=.type "list",data:=.seq vs.toArray}/\IntsAre vs u/\u.length<=n:=by
 have p:WShape.hasAll [] j [.list .int]=true:=(pre_splitW y).1;have e:l.pre.holds [] {args:=j}=true:=(pre_splitW y).2;obtain⟨d,r,rfl,N,O⟩:=hasAllW_cons p;obtain rfl:=hasAllW_nil O;obtain⟨Z,rfl,R⟩:=hasW_list N;obtain⟨u,rfl⟩:=items_int R;have z:u.length<=n:=by
  unfold OpenLaw.pre at e;have g:(WTm.not (.lt (.lit (.int (n:Int))) (.len (.arg 0)))).holds [] {args:=[.list (u.map .int)]}=true:=by
   have g:=(holds_andW e).1;rw[L]at g;exact g
  have c:=condW_of g (w_not (w_lt w_lit (w_len_list (w_arg rfl))));rw[Xd]at c;refine Nat.le_of_not_lt λq=>?_;have T:(n:Int)<((u.length:Nat):Int):=by lia
  first
   |(rw[decide_eq_true T]at c;exact absurd c (by decide))
   |(simp at c;lia)
 cases f with
 |cons U W=>
  cases W;cases U with
  |list Y m=>exact⟨_,_,u,rfl,rfl,Y,_bH u _ m,z⟩
theorem _iP(l:OpenLaw)(j:List WData):l.row.toRowW.claim.post j (.bool true) j=true:=
 postW_of (r:=l.row.toRowW) (X:=(true==true))
  (show WShape.has [] (.bool true) .bool=true by first|rfl|decide|simp[WShape.has,WShape.arms,WShape.armsAll])
  (show(WTm.eq .res (.lit (.bool true))).value [] {args:=j,res:=some (.bool true),after:=j}=some (.bool (true==true))from w_eq_bool (w_res rfl) w_lit) rfl
theorem attach_call{l:OpenLaw}{n:Nat}{q:Xw}{u:List Str}{A:(Str->Option X0)->Heap->Prop}{B:Xm->Heap->Prop}{d:DefRec}
  (I:l.most=some n)(P:d.params.defaults=[])
  (call:∀(w:Xm)(y j:X2)(mg R:Str->Option X0)(g:Addr)(o:Obj)(T L z:X0)(a:Addr)(vs:List X0)(N:List Int),
   Ground q u [] A w y mg R j.heap->B w j.heap->
   j.heap.get? g=some o->o.data=.func (docDef d.name d.params d.body d.scope T L z)->j.heap.CodeRec L d.name->mg d.name=some (.ref g)->
   j.heap.get? a=some {cls:=.type "list",data:=.seq vs.toArray}->IntsAre vs N->N.length<=n->j.gens=#[]->
   YQ (X6 l.prog w) callerA (.call (.ref g) ⟨[.ref a],[]⟩) (λr O=>r=.ok (.ret (.bool true))/\OldK j.heap O.heap/\O.os=j.os/\AllBare O.gens) j):
  WalkO q u A B l.row.toRowW d [] (λf vs=>PySem.call f vs):=by
 intro w y j mg R G Y g o T L z J kV M Q U C W S D E b c F X Z H;obtain rfl:J=.none:=Dflts.none C P;obtain rfl:kV=.none:=Dflts.noKw C;obtain⟨a,vs,N,rfl,rfl,p,m,e⟩:=_iC I c Z;refine enter_call (Vl (call w y j mg R g o T L z a vs N G Y M (fd_plain Q) U W p m e S) λr O v=>?_);obtain⟨rfl,s,i,x⟩:=v;exact⟨.inl ⟨.bool true,.bool true,[],rfl,λ_=>rfl,.bool true,_iP l _,λ_=>⟨List.Pairwise.nil,λ_ h=>(nomatch h)⟩⟩,s,i,x⟩
section
variable{prog:Xw}{w:Xm}{A:Xz}{E:X0->X2->Prop}{s:X2}{K:Frag}
noncomputable def ledger(h:Heap)(L d:Addr):List (Addr×Obj):=(Xt h.objs.size).filterMap λa=>if a=L\/a=d then none else(h.get? a).map λo=>(a,o)
end
end Att
namespace L2
open PySem PySem.Spec PyProof.Rows
theorem Jn:∀{vs:List X0} {j:List Int},IntsAre vs j->Vals (j.map V.int) vs
 |_,_,.nil=>.nil
 |_,_,.cons n t h=>.cons ⟨t,rfl⟩ (Jn h)
noncomputable def Only(H:Hp):Prop:=∀b,H b=none\/∃o j,H b=some (.frz o (.lst j))
theorem _ll{K:X4}{k:Nat}
  (J:K.In s₁.heap)(p:s₁.heap.Ns Xp mg)(l:s₁.heap.Ns builtinsNs mb)(B:∀x:Str,x≠"__name__"->mb x=YB x)(L:s₁.heap.NoLimit)(hg:s₁.gens=#[])
  (A:s₁.heap.get? a=some {cls:=.type "list",data:=.seq vs.toArray})(M:IntsAre vs ns)(Q:ns.length<=sizeLine)(hr:Room k callerA)
  (F:∀base:Heap,K.In base->base.Ns Xp mg->FnOk P w K mg base CX k fa fd [x] sp)(f:∀(s:X2)(u:X0),BindsTo s fd ⟨[u],[]⟩ [(x,u)])
  (C:∀H:Hp,Only H->SqL K H a (ns.map V.int)->sp [.ref a] H (λv _=>v=.bl true) λ_ _ _=>False)
  (D:∀H e y,CX [] H s₁ (λ_ _ _=>False) e y->False):
  YQ (X6 P w) callerA (.call (.ref fa) ⟨[.ref a],[]⟩) (λr y=>r=.ok (.ret (.bool true))/\OldK s₁.heap y.heap/\y.os=s₁.os/\AllBare y.gens) s₁:=by
 have S:=Jn M;have N:=M.length;have c:∀H:Hp,Only H->SqL K H a (ns.map V.int)->HOk P w H s₁.heap->(∀b,H b≠none->b=a)->(H a≠none->K.lookup a=none)->
   YQ (X6 P w) callerA (.call (.ref fa) ⟨[.ref a],[]⟩) (λr y=>r=.ok (.ret (.bool true))/\OldK s₁.heap y.heap/\y.os=s₁.os/\AllBare y.gens) s₁:=by
  intro H X hS O i hK;have j:∀{b:Addr} {o:Obj},s₁.heap.get? b=some o->H b=none->(hidT s₁.heap H).get? b=some o:=λe n=>T3 e n;have E:∀{b:Addr} {o:Obj} {R:Array DictEntry} {T:Nat},s₁.heap.get? b=some o->o.data=.dict R T->H b=none:=fun{b o R T} e d=>by
   cases q:H b with
   |none=>rfl
   |some u=>
    have G:b=a:=i b (by rw[q];simp)
    subst G;rw[A]at e;cases e;have d':YT vs.toArray _=Data.dict R T:=d;cases d'
  have g:∀{b:Addr} {m:Str->Option X0},s₁.heap.Ns b m->(hidT s₁.heap H).Ns b m:=fun{b m} ⟨o,R,T,e,d,r⟩=>⟨o,R,T,j e (E e d),d,r⟩;have U:K.In (hidT s₁.heap H):=λb o e=>j (J b o e) (by
   cases q:H b with
   |none=>rfl
   |some u=>
    have G:b=a:=i b (by rw[q];simp)
    subst G;rw[hK (by rw[q];simp)]at e;cases e)
  have hM:Mod K mg (hidT s₁.heap H):=⟨U,g p,⟨mb,g l,B⟩,let⟨mc,h1,h2⟩:=L;⟨mc,g h1,h2⟩⟩
  have e0:Env0 P w K mg (hidT s₁.heap H) callerA [] s₁ H:=⟨rfl,hM,λb o e=>T4 e,WC (T2 _ _),trivial,λb l=>absurd (show b∈([]:List Addr)from l) (by simp),O,.of_eq hg⟩
  refine Vl ((F _ U (g p)).run callerA [] s₁ H ⟨[.ref a],[]⟩ [.ref a] [.ref a] _ _ hr e0 (f s₁ (.ref a)) (.cons rfl .nil) (C H X hS)) λr y h=>?_;cases r with
  |error e=>exact(D H e y h).elim
  |ok fl=>
   cases fl with
   |next=>exact Y2 h
   |brk=>exact Y2 h
   |cont=>exact Y2 h
   |ret u=>
    obtain⟨v,H',os,W,un,Y,r',q⟩:=h;have q':v=.bl true:=q;subst q';obtain rfl:u=Y8 true:=r';refine⟨rfl,OldK.of_keep λb o e=>?_,os,W⟩;cases q:H b with
    |none=>exact un.keep b o e q (by intro z;exact absurd (show b∈([]:List Addr)from z) (by simp)) (by simp)
    |some u=>
     rcases X b with z|⟨ob,xs,z⟩
     .rw[q]at z;cases z
     .have z2:=un.frzs b ob _ z;obtain⟨e1,_⟩:=O b _ z;obtain⟨e2,_⟩:=Y b _ z2;rw[e]at e1;cases e1;exact e2
 cases I:K.lookup a with
 |some o=>
  have e:=J a o I;rw[A]at e;cases e;refine c (λ_=>none) (λ_=>.inl rfl) (.inr ⟨_,vs.toArray,_,I,rfl,rfl,rfl,by rw[XR,N];exact Q,by simpa using S⟩) (λb u z=>by have Z:(none:Option HO)=some u:=z;cases Z) (λb z=>absurd rfl z) λz=>absurd rfl z
 |none=>
  refine c (fun b=>if b=a then some (.frz {cls:=.type "list",data:=.seq vs.toArray} (.lst (ns.map V.int)))else none) (fun b=>?_) (.inl (.inr ⟨{cls:=.type "list",data:=.seq vs.toArray},if_pos rfl⟩)) (fun b u z=>?_) (fun b z=>?_) fun _=>I
  .by_cases l:b=a
   .exact .inr ⟨_,_,if_pos l⟩
   .exact .inl (if_neg l)
  .by_cases l:b=a
   .have Z:=(if_pos l).symm.trans z;cases Z;subst l;exact⟨A,by rw[Xd];exact Q,vs,_,S,A⟩
   .have Z:=(if_neg l).symm.trans z;cases Z
  .by_cases l:b=a
   .exact l
   .exact absurd (if_neg l) z
noncomputable abbrev KOf{K:X4}{h:Heap}(_:K.In h):X4:=K
theorem walk_of{l:E8}{n k:Nat}{q:Xw}{y:List Str}{A:(Str->Option X0)->Heap->Prop}{U:Xm->Heap->Prop}{d:DefRec}{K:Params->X4}{CX:Xm->CXT}{sp:Xm->Sp}{x:Str}
  (B:l.most=some n)(p:n<=sizeLine)(L:d.params.defaults=[])(C:Room k callerA)
  (D:∀(w:Xm)(h:Heap),U w h->(K w.params).In h)
  (F:∀(w:Xm)(mg:Str->Option X0)(c:Addr)(h:Heap),(K w.params).In h->h.Ns Xp mg->mg d.name=some (.ref c)->
   ∃N:Xb,(∀(s:X2)(u:X0),BindsTo s N ⟨[u],[]⟩ [(x,u)])/\
    ∀base:Heap,(K w.params).In base->base.Ns Xp mg->FnOk l.prog w (K w.params) mg base (CX w) k c N [x] (sp w))
  (O:∀(w:Xm)(H:Hp)(a:Addr)(r:List Int),r.length<=n->Only H->SqL (K w.params) H a (r.map V.int)->sp w [.ref a] H (λv _=>v=.bl true) λ_ _ _=>False)
  (P:∀(w:Xm)(H:Hp)(s:X2)(e:X0)(R:X2),CX w [] H s (λ_ _ _=>False) e R->False):
  PySem.W.WalkO q y A U l.row.toRowW d [] (λf vs=>PySem.call f vs):=by
 refine Att.attach_call B L λw W m mg i c o b cd E a vs r G Y ho hd I T g z j J=>?_;have Z:=D w _ Y;obtain⟨N,M,Q⟩:=F w mg c _ Z G.T.g T;exact _ll Z G.T.g G.T.b G.T.builtins G.T.nolimit J g z (XY j p) C Q M (λH S X=>O w H a r j S X) λH e R=>P w H m e R
end L2
/- THE LAST THEOREM (shape;LID,My.*are yours):
  My.Adr:a structure of the addresses that your layer names (classes,functions);My.Txt K t:a structure(Prop) of the equations over K;
  My.txt_mk:{K} {implicit addresses ..} (e1:nsIn K Xp "law"=some (some (.ref f))) (e2:K.lookup f=some ⟨oc,od,.func (fnOf "law" "law" params body scope dV kV doc pm an cdv ct),sl⟩) (e3:codeIn K cdv "law"=true) ..:∃t,My.Txt K t
set_option maxRecDepth 100000 in
set_option maxHeartbeats 0 in
theorem PySem.Challenge.cw_LID_holds : PySem.Challenge.rw_LID.Holds := by
 w_on;o_law;k_head;(case hw=>w_witness2)
 k_fill
 refine L2.walk_of (l:=PySem.Challenge.rw_LID) (n:=63) (k:=40) (x:="script") (CX:=fun w=>..) (sp:=fun _=>My.sp_law) rfl (by decide) rfl ⟨rfl,by decide,by decide⟩ (fun w h Y=>PySem.W.kIn_of Y) ?F ?S ?C
 case F=>
  intro w mg fa h KX G hmg;have T:∃t,My.Txt (L2.KOf KX) t:=by
   dsimp only[L2.KOf] -- K must stand as «<heap const> w.params» for k_is
   refine' My.txt_mk ?e1 ?e2 ?e3 ..
   (case e1=>PySem.W.k_is) -- in the order:a name->its address->its object->its parts
   (case e2=>PySem.W.k_is)
   ..
  obtain⟨t,T⟩:=T;have e0:=hmg.symm.trans (Yu KX G T.law);cases e0 -- fa is the law's own address
  exact⟨_,λs u=>.of_eq rfl,λbase kb nb=>My.law_fn T kb nb⟩ -- if «.of_eq rfl» comes too early:refine' ⟨_,?b,λbase kb nb=>My.law_fn T kb nb⟩;exact λs u=>.of_eq rfl
 case S=>exact λw H a ns hl hO hS=>..
 case C=>exact ..
(the tactic k_is has no namespace:write k_is) -/
namespace L2
open PySem PySem.Spec PyProof.Rows
noncomputable def Yx(s:Stmt)(j:Nat):Stmt:=match s with
 |.ClassDef _ _ _ body _ _ _ _ _ _ _=>body.getD j (.Pass ⟨0,0,0,0⟩)
 |_=>.Pass ⟨0,0,0,0⟩
noncomputable def UD(s:Stmt):Arguments:=match s with
 |.FunctionDef _ a _ _ _ _ _ _ _ _=>a
 |_=>{posonlyargs:=[],args:=[],vararg:=none,kwonlyargs:=[],kw_defaults:=[],kwarg:=none,defaults:=[]}
noncomputable def Xh(s:Stmt):List Stmt:=match s with
 |.FunctionDef _ _ b _ _ _ _ _ _ _=>b
 |_=>[]
noncomputable def X5(s:Stmt):Scope:=match s with
 |.FunctionDef _ _ _ _ _ _ sc _ _ _=>sc
 |_=>{kind:=.function,names:=[],isGenerator:=false,isCoroutine:=false}
noncomputable abbrev CX0:CXT:=λ_ _ _ _ _ _=>False
noncomputable abbrev E0:XK:=λ_ _ _=>False
theorem CT{X:Cx}:V3 CX0 X E0:=λ_ _ _ _ _ _ _ h=>h.elim
structure Fun (K:X4)(x qual:Str)(st:Stmt)(f:Addr)(fd:Xb):Prop where
 ex:∃(oc:X0) (od:Option Addr) (kV doc pm:X0) (an:Option Addr) (cdv ct:X0) (osl:Array (Option X0)),
  fd=ZF x qual (UD st) (Xh st) (X5 st) .none kV doc pm an cdv ct/\K.lookup f=some ⟨oc,od,.func fd,osl⟩/\Cg K cdv qual=true
 kp:YI K (.ref f)=true
section
variable{P:Xw}{w:Xm}{K:X4}{mg:Str->Option X0}{base:Heap}
theorem Fun.ok{st:Stmt}{k:Nat}(F:Fun K x qual st f fd)(S:FnScope N ps (X5 st))(len:∀vs H Q E,sp vs H Q E->vs.length=ps.length)
  (u:∀(l:X0)(A:Xz)(j:List Env)(s:X2)(H:Hp)(vs:List V)(Q:VK)(E:XK),Room k (A.deeper (envOfC qual (X5 st) s.heap.objs.size f l))->sp vs H Q E->
   ∃t,PSs (cxOf CX0 P w K mg base N qual (X5 st) f l A j s H E).nox (Xh st) t/\t {nx:=λ_ m=>Q .non m,rt:=Q} (ZJ N vs) H):FnOk P w K mg base CX0 (k+1) f fd ps sp:=by
 obtain⟨p,e,kV,g,L,O,l,R,d,rfl,c,y⟩:=F.ex;refine _sf c y S len λA j s H vs Q E r z=>?_;obtain⟨t,h,q⟩:=u l A j s H vs Q E r z;exact⟨t,h.nox,q⟩
theorem Fun.binds{st:Stmt}(F:Fun K x qual st f fd)
  (h:∀(kV j u:X0)(y:Option Addr)(l z:X0)(us:List X0),us.length=ps.length->bindArgs (ZF x qual (UD st) (Xh st) (X5 st) .none kV j u y l z) ⟨us,[]⟩=pure (ps.zip us)):Binds K fd ps []:=by
 obtain⟨d,c,kV,j,u,y,l,z,m,rfl,q,g⟩:=F.ex;exact .all (h kV j u y l z)
theorem fun_mk{st:Stmt}{kV:X0}(l:K.lookup f=some ⟨oc,od,.func (ZF x qual (UD st) (Xh st) (X5 st) .none kV doc pm an cdv ct),osl⟩)
  (c:Cg K cdv qual=true)(k:YI K (.ref f)=true):Fun K x qual st f (ZF x qual (UD st) (Xh st) (X5 st) .none kV doc pm an cdv ct):=⟨⟨oc,od,kV,doc,pm,an,cdv,ct,osl,rfl,l,c⟩,k⟩
end
section
variable{X:Cx}
theorem pv(i:Nat)(l:X.N[i]?=some x:=by rfl)(u:Vis X.env.scope x:=by first|exact Or.inl rfl|exact Or.inr (Or.inl rfl)|exact Or.inr (Or.inr rfl))(w:(x==("__debug__":Str))=false:=by decide)
  (j:(x==("__classdict__":Str))=false:=by decide):PE X (.Name x pos) (tVar i):=IB l u w j
theorem _k9:Yw X (.builtin "len") (fun xs H Q=>∃a j,xs=[V.ref a]/\H a=some (.dK j)/\Q (.int j.length) H):=by
 intro z s m H xs g Q I r h;obtain⟨a,j,rfl,l,q⟩:=h;obtain⟨u,rfl,w⟩:=_n r;cases w;exact _sw I (.inl l) λt d y=>⟨.int j.length,H,y,⟨t,rfl⟩,q⟩
end
section
variable{κ:Type} [DecidableEq κ]
theorem Jo:∀{l:List κ} {k:κ},l.Nodup->¬k∈l->(l++[k]).Nodup
 |[],k,_,_=>by simp
 |a::r,k,h,hk=>by
  obtain⟨j,u⟩:=Yp.mp h;show(a::(r++[k])).Nodup;refine Yp.mpr ⟨λm=>?_,Jo u λm=>hk (Xk.mpr (Or.inr m))⟩;rcases Yh.mp m with q|q
  .exact j q
  .exact hk (Xk.mpr (Or.inl (Y6.mp q).symm))
end
section
variable{X:Cx}
noncomputable def WU(i j:Int):Prop:=0<j/\j<2^256
theorem _hO(h:WU i j):j.natAbs.log2<9000:=by
 have u:(0:Int)<j:=h.1;have w:j<2^256:=h.2;have l:j.natAbs≠0:=by lia
 have:j.natAbs<2^256:=by lia
 have:=(Nat.log2_lt l).mpr this;lia
theorem _lb:OpR X (Ym .FloorDiv) (rI WU λi j=>.int (i/j)):=opI λi j _ _ _ _ _ l q=>by
 have u:(0:Int)<j:=l.1;exact floordiv_int (by lia) (by rw[Int.fdiv_eq_ediv_of_nonneg i (by lia)];exact q) (.inl (PyProof.noPylong_of_log2 (_hO l)))
theorem _gx:Yw X (.builtin "isinstance") (fun xs H Q=>∃x c t b,xs=[x,.ty c]/\TyOf X.K H x t/\UU X.K t (.type c)=some b/\Q (.bl b) H):=by
 intro y s z H xs m Q I r h;obtain⟨x,c,t,b,rfl,ty,e,q⟩:=h;obtain⟨u,g,rfl,l,j⟩:=VO r;cases j;exact _jj I l ty e λw=>⟨.bl b,H,I.tok w,rfl,q⟩
end
section
variable{X:Cx}{pq:List (Addr×Obj)}{σ:St}{H:Hp}{s:X2}
end
section
variable{X:Cx}
end
end L2
namespace L2
end L2
namespace L2
open PySem PySem.Spec PyProof.Rows
noncomputable def clOf(j:List (Str×Addr)):List (Str×Z2)->List (Str×Addr)->List (Str×Addr)
 |[],acc=>acc
 |(n,k)::r,acc=>if k=.free then(match j.lookup n with|some a=>clOf j r ((n,a)::acc)|none=>clOf j r acc)else clOf j r acc
theorem WV(j:List (Str×Addr)):∀(u:List (Str×Z2))(l:List (Str×Addr))(x:Str)(c:Addr),(clOf j u l).lookup x=some c->l.lookup x=some c\/j.lookup x=some c
 |[],l,x,c,h=>.inl h
 |(n,k)::r,l,x,c,h=>by
  unfold clOf at h;by_cases hk:k=.free
  .rw[if_pos hk]at h;cases w:j.lookup n with
   |none=>rw[w]at h;exact WV j r l x c h
   |some a=>
    rw[w]at h;rcases WV j r _ x c h with q|q
    .by_cases hx:x=n
     .subst hx;simp at q;subst q;exact .inr w
     .have y:(x==n)=false:=beq_eq_false_iff_ne.mpr hx;simp only[Zh,y]at q;exact .inl q
    .exact .inr q
  .rw[if_neg hk]at h;exact WV j r l x c h
theorem CU(j:List (Str×Addr)):∀(u:List (Str×Z2))(l:List (Str×Addr))(x:Str)(c:Addr),j.lookup x=some c->l.lookup x=some c->(clOf j u l).lookup x=some c
 |[],l,x,c,_,h=>h
 |(n,k)::r,l,x,c,h,ha=>by
  unfold clOf;by_cases hk:k=.free
  .rw[if_pos hk];cases w:j.lookup n with
   |none=>exact CU j r l x c h ha
   |some a=>
    refine CU j r _ x c h ?_;by_cases hx:x=n
    .subst hx;rw[h]at w;cases w;simp
    .have y:(x==n)=false:=beq_eq_false_iff_ne.mpr hx;simp only[Zh,y];exact ha
  .rw[if_neg hk];exact CU j r l x c h ha
theorem WW(j:List (Str×Addr)):∀(l:List (Str×Z2))(u:List (Str×Addr))(x:Str)(c:Addr),(x,Yk)∈l->j.lookup x=some c->(clOf j l u).lookup x=some c
 |[],u,x,c,h,_=>by cases h
 |(n,k)::r,u,x,c,h,ha=>by
  unfold clOf;rcases Xk.mp h with e|h
  .cases e;rw[if_pos rfl,ha];exact CU j r _ _ c ha (by simp)
  .by_cases hk:k=.free
   .rw[if_pos hk];cases w:j.lookup n with
    |none=>exact WW j r u x c h ha
    |some a=>exact WW j r _ x c h ha
   .rw[if_neg hk];exact WW j r u x c h ha
theorem EB(f:Str×Z2->List (Str×Addr)->Sem (ForInStep (List (Str×Addr))))
  (w:∀n k r,f (n,k) r=if(k==Yk)=true then(cellOf env n >>= λa=>pure (CJ ((n,a)::r)))else pure (CJ r)):
  ∀(j:List (Str×Z2))(l:List (Str×Addr)),(∀y∈j,y.2=.free->∃c,env.cells.lookup y.1=some c)->(forIn j l f:Sem (List (Str×Addr)))=pure (clOf env.cells j l)
 |[],l,_=>by rw[List.forIn_nil];rfl
 |(n,k)::r,l,h=>by
  rw[List.forIn_cons,w];have z:∀y∈r,y.2=.free->∃c,env.cells.lookup y.1=some c:=λy m=>h y (XM _ m);by_cases hk:k=.free
  .subst hk;obtain⟨c,g⟩:=h (n,.free) Ya rfl;have u:env.cells.lookup n=some c:=g;have e:cellOf env n=pure c:=by unfold cellOf;rw[u]
   rw[if_pos (by decide),e,pure_bind,pure_bind]
   show forIn r ((n,c)::l) f=_;rw[EB f w r _ z];simp only[clOf,if_pos,u]
  .have d:(k==Yk)=false:=by simpa using hk
   rw[d,if_neg XD,pure_bind];show forIn r l f=_;rw[EB f w r _ z];simp only[clOf,if_neg hk]
theorem Jp(h:∀y∈scope.names,y.2=.free->∃c,env.cells.lookup y.1=some c):closureFor scope env=pure (clOf env.cells scope.names []):=by
 unfold closureFor;simp only[bind_pure];exact EB _ (λn k r=>by
  by_cases hk:(k==Yk)=true
  .simp only[hk,if_true]
  .simp only[hk,if_false]) scope.names [] h
noncomputable def VQ(j scope:Scope)(N own:List Str)(fr:List Nat):Bool:=
 decide (scope.kind=.function)&&scope.names.all (λy=>decide (y.2≠.cell))&&scope.names.all (λy=>decide (y.2=.local->scope.names.lookup y.1=some .local))&&
 scope.names.all (λy=>decide (y.2=.free->j.names.lookup y.1=some .cell\/j.names.lookup y.1=some .free))&&
 fr.all (λi=>match N[i]? with|some x=>decide ((x,Yk)∈scope.names/\scope.names.lookup x=some .free/\(j.names.lookup x=some .cell\/j.names.lookup x=some .free))|none=>false)
structure CompOk (osc scope:Scope)(N:List Str)(fr:List Nat):Prop where
 kind:scope.kind=.function
 nocell:∀y∈scope.names,y.2≠.cell
 names:∀y∈scope.names,y.2=.local->scope.names.lookup y.1=some .local
 has:∀y∈scope.names,y.2=.free->osc.names.lookup y.1=some .cell\/osc.names.lookup y.1=some .free
 frees:∀i∈fr,∃x,N[i]?=some x/\(x,Yk)∈scope.names/\scope.names.lookup x=some .free/\(osc.names.lookup x=some .cell\/osc.names.lookup x=some .free)
theorem VR{j scope:Scope}{N own:List Str}{fr:List Nat}(h:VQ j scope N own fr=true):CompOk j scope N fr:=by
 unfold VQ at h;simp only[XX,C9,decide_eq_true_eq]at h;obtain⟨⟨⟨⟨l,u⟩,w⟩,y⟩,z⟩:=h;refine⟨l,u,w,y,λi m=>?_⟩;have q:=z i m;cases e:N[i]? with
 |none=>rw[e]at q;simp at q
 |some x=>rw[e]at q;simp only[decide_eq_true_eq]at q;exact⟨x,rfl,q⟩
noncomputable def sC(own:List Str)(fr:List Nat)(j:St):St:=own.map (λ_=>none)++fr.map (λi=>j.getD i none)
noncomputable def nC(own:List Str)(fr:List Nat)(N:List Str):List Str:=own++fr.map (λi=>N.getD i U8)
def cxC(X:Cx)(scope:Scope)(own:List Str)(fr:List Nat)(C:Addr)(u:List Addr)(j:X2)(l:Hp):Cx:=
 {X with N:=nC own fr X.N,s₀:=j,H₀:=l,env:=compEnvC scope (clOf X.env.cells scope.names []) C X.env,outer:=X.stack,ex:=u,fn:=λ_=>false,xe:=λ_ _=>False}
noncomputable def Keep(l j:St):Prop:=l.length=j.length/\∀(i:Nat)(v:V),l[i]?=some (some v)->j[i]?=some (some v)
noncomputable def tAll:TT:=λ_ H Q=>Q true H
def PTs(X:Cx)(j:List Expr)(t:TT):Prop:=(j=[]/\t=tAll)\/∃c,j=[c]/\PT X c t
section
variable{prog:Xw}{w:Xm}{A:Xz}{R:Result->X2->Prop}{s:X2}
theorem _fj(I:Nat->X2->Prop)
  (turn:∀n s,I n s->X3 (X6 prog w) A (pyNext it) (λr j=>match r with
   |none=>R (.ok .next) j
   |some v=>X3 (X6 prog w) A (BS target it v) (λ_ l=>X3 (X6 prog w) A (assign target env v) (λ_ z=>
     X3 (X6 prog w) A (forIn ifs true λc r=>if r=true then do let ok<- isTrue c env (eval c env);pure (CJ ok)else pure (CJ r)) (λok u=>
      if ok=true then X3 (X6 prog w) A (eval elt env) (λx g=>
       X3 (X6 prog w) A (call (.builtin "list.append") [acc,x]) (fun _ d=>∃m,m<n/\I m d) (fun _ _=>False) g) (fun _ _=>False) u
      else∃m,m<n/\I m u) (λ_ _=>False) z) (λ_ _=>False) l) (λ_ _=>False) j) (λ_ _=>False) s)
  (n:Nat)(h:I n s):
  YQ (X6 prog w) A (.compLoop (.ListComp elt [⟨target,iter,ifs,0⟩] scope pos) 0 it acc env) R s:=by
 refine codeAny_loop rfl I (λn s O=>?_) n h;show X3 _ A ((compTurn (.ListComp elt [⟨target,iter,ifs,0⟩] scope pos) 0 it acc env).onRaise (λx=>do noteFrame x env;theTreesLotGoes x)) _ _ s
 refine wpAny_noted ?_;rw[compTurn_list];refine X1 (wpAny_standAt (X1 (Zw (turn n s O) (λr j f=>?_) λ_ _ y=>y.elim)));cases r with
 |none=>exact X7 f
 |some v=>
  refine X1 (Zw f (λ_ l p=>?_) λ_ _ y=>y.elim);refine X1 (Zw p (λ_ z e=>X1 (Zw e (λok u q=>?_) λ_ _ y=>y.elim)) λ_ _ y=>y.elim);cases ok with
  |false=>exact X7 ⟨rfl,q⟩
  |true=>
   exact X1 (X1 (Zw q (λx g L=>X1 (Zw L (λ_ d N=>X7 (X7 ⟨rfl,N⟩)) λ_ _ y=>y.elim)) λ_ _ y=>y.elim))
end
theorem _qU(h:Q true H):tAll σ H Q:=h
section
variable{X:Cx}{pq:List (Addr×Obj)}{σ:St}{H1:Hp}{s2:X2}{tg elt iter:Expr}{ifs:List Expr}{scope:Scope}{pos:Pos}{own:List Str}{fr:List Nat}{g:TG}{tt:TT}{te:TE}
theorem Jq{scope:Scope}{env:Env}{x:Str}:∀{j:List (Str×Z2)},j.lookup x=some .free->
  (j.map fun(n,k)=>if(k==Yk&&env.scope.kind==.function&&env.kindOf n==some .cell)then(n,VF)else(n,k)).lookup x=some .cell\/
  (j.map fun(n,k)=>if(k==Yk&&env.scope.kind==.function&&env.kindOf n==some .cell)then(n,VF)else(n,k)).lookup x=some .free
 |[],h=>by simp at h
 |(n,k)::r,h=>by
  have u:=@Jq scope env x r;show U2 x ((if(k==Yk&&env.scope.kind==.function&&env.kindOf n==some .cell)=true then(n,VF)else(n,k))::_)=_\/U2 x ((if(k==Yk&&env.scope.kind==.function&&env.kindOf n==some .cell)=true then(n,VF)else(n,k))::_)=_;cases l:x==n with
  |true=>
   simp only[Zh,l]at h;cases h;by_cases hc:(Yk==Yk&&env.scope.kind==.function&&env.kindOf n==some .cell)=true
   .rw[if_pos hc];simp only[Zh,l];exact .inl trivial
   .rw[if_neg hc];simp only[Zh,l];exact .inr trivial
  |false=>
   simp only[Zh,l]at h;by_cases hc:(k==Yk&&env.scope.kind==.function&&env.kindOf n==some .cell)=true
   .rw[if_pos hc];simp only[Zh,l];exact u h
   .rw[if_neg hc];simp only[Zh,l];exact u h
theorem Jr{scope:Scope}{env:Env}(w:∀y∈scope.names,y.2≠.cell){x:Str}:∀{j:List (Str×Z2)},(∀y∈j,y.2≠.cell)->
  ((j.map fun(n,k)=>if(k==Yk&&env.scope.kind==.function&&env.kindOf n==some .cell)then(n,VF)else(n,k)).lookup x=some .cell\/
  (j.map fun(n,k)=>if(k==Yk&&env.scope.kind==.function&&env.kindOf n==some .cell)then(n,VF)else(n,k)).lookup x=some .free)->(x,Yk)∈j
 |[],_,h=>by simp at h
 |(n,k)::r,hnc,h=>by
  have u:=@Jr scope env w x r (λy z=>hnc y (XM _ z));have m:k≠.cell:=hnc (n,k) Ya;simp only[Xx]at h;cases l:x==n with
  |true=>
   have e:x=n:=eq_of_beq l;subst e;by_cases hc:(k==Yk&&env.scope.kind==.function&&env.kindOf x==some .cell)=true
   .have:k=.free:=by
     simp only[XX,beq_iff_eq]at hc;exact hc.1.1
    subst this;exact Ya
   .rw[if_neg hc]at h;simp at h;rcases h with h|h
    .exact absurd h m
    .subst h;exact Ya
  |false=>
   by_cases hc:(k==Yk&&env.scope.kind==.function&&env.kindOf n==some .cell)=true
   .rw[if_pos hc]at h;simp only[Zh,l]at h;exact XM _ (u h)
   .rw[if_neg hc]at h;simp only[Zh,l]at h;exact XM _ (u h)
theorem _i2(ok:CompOk X.env.scope scope X.N fr)(f:Inv X pq σ H3 s3)(R:C=s3.heap.objs.size)(T:∀b∈fp,FpOk X pq H3 b)(W:∀b∈fp,∃o,s3.heap.get? b=some o)
  (F:h4.Ns C m)(O:∀b o,s3.heap.get? b=some o->h4.get? b=some o):
  Inv (cxC X scope own fr C fp s3 H3) pq (sC own fr σ) H3 {s3 with heap:=h4,toks:=tk}:=by
 have l:∀x c,(clOf X.env.cells scope.names []).lookup x=some c->X.env.cells.lookup x=some c:=λx c h=>(WV _ _ _ _ _ h).elim (λz=>by simp at z) id
 have Y:∀x c,X.env.cells.lookup x=some c->c<s3.heap.objs.size:=λx c e=>let⟨v,q⟩:=f.cell x c e;q.lt
 have P:∀b∈fp,b<s3.heap.objs.size:=λb L=>let⟨o,e⟩:=W b L;Xv e
 have r:∀x,(X.env.scope.names.lookup x=some .cell\/X.env.scope.names.lookup x=some .free)->∃c,X.env.cells.lookup x=some c:=λx h=>f.ok.has x h;refine⟨⟨f.ok.mod,ok.kind,f.ok.glob,f.ok.blt,WC R.symm,λx y c G I=>f.ok.inj x y c (l x c G) (l y c I),λx J=>?_,λx c z=>?_,f.ok.hd,f.ok.frames,.inl rfl,λb L=>⟨?_,λx c e=>?_⟩,λb o e=>f.bs b o e,XY f.ok.bsz f.sz,λb o e L=>?_,λb L M=>?_,f.stack,λb L=>f.stkFree b L⟩,
  rfl,f.bare,Un.kept O,⟨m,F,λi x v Q S e3=>?_⟩,λx c e=>?_,?_,λx c e=>f.freeC x c (l x c e),λp H=>?_,f.hok.kept O,?_⟩
 . -- has
  have U:(x,Yk)∈scope.names:=Jr (scope:=scope) (env:=X.env) ok.nocell ok.nocell J;obtain⟨c,Z⟩:=r x (ok.has _ U rfl);exact⟨c,WW _ _ _ _ _ U Z⟩
 .exact absurd z XD
 .exact XB (by rw[R];exact P b L)
 .exact(T b L).2.2.2.2.1 x c (l x c e)
 .rcases(T b L).2.2.2.1 with z|z
  .exact f.ok.noex b o e z
  .exact absurd (Yv (Xv e) (XY f.ok.bsz z)) (Uz _)
 .rcases Xk.mp (f.stkSub b M)with z|z
  .exact(T b L).2.1 z
  .exact(T b L).2.2.1 z
 . -- a free name's value
  have w:(own.map (λ_=>(none:Option V))++fr.map (λi=>σ.getD i none))[i]?=some (some v):=S;have N:(own++fr.map (λi=>X.N.getD i U8))[i]?=some x:=Q;by_cases hi:i<own.length
  .rw[ZB (by simpa using hi),Xq]at w
   cases q:own[i]? with
   |none=>rw[q]at w;cases w
   |some z=>rw[q]at w;cases w
  .rw[Zf (by simpa using hi)]at w
   rw[Zf (by simpa using hi)]at N
   simp only[Xd]at w;rw[Xq]at N w;cases q:fr[i - own.length]? with
   |none=>rw[q]at w;cases w
   |some j=>
    rw[q]at N w;obtain⟨y,E,U,s,A⟩:=ok.frees j (Xo q);have a:x=y:=by
     have:X.N.getD j U8=y:=by rw[Yf,E];rfl
     simp only[CI,this,Cs]at N;exact N.symm
    subst a;have ev:σ[j]?=some (some v):=by
     simp only[CI,Cs]at w;rw[Yf]at w;cases z:σ[j]? with
     |none=>rw[z]at w;cases w
     |some o=>rw[z]at w;cases w;rfl
    obtain⟨m0,hn0,B⟩:=f.loc;obtain⟨u,ru,lk⟩:=B j x v E ev (.inr A);refine⟨u,ru,.inr ⟨Jq (scope:=scope) s,?_⟩⟩;rcases lk with⟨k1,_⟩|⟨_,c,Z,z⟩
    .have D:X.env.scope.names.lookup x=some .local:=k1;rw[D]at A;rcases A with z|z<;>cases z
    .exact⟨c,WW _ _ _ _ _ U Z,z.keeps O⟩
 .obtain⟨v,z⟩:=f.cell x c (l x c e);exact⟨v,z.keeps O⟩
 .show H3 C=none;exact f.hok.fresh (WC R.symm)
 .obtain⟨e,n,ne,nf,d⟩:=f.pin p H;refine⟨O _ _ e,n,XB (by rw[R];exact Xv e),λz=>?_,d⟩
  rcases Xk.mp (f.stkSub p.1 z)with z|z
  .exact ne z
  .exact nf z
 .show(own.map (λ_=>(none:Option V))++fr.map (λi=>σ.getD i none)).length=(own++fr.map (λi=>X.N.getD i U8)).length;simp
end
section
variable{X:Cx}
end
theorem CV(j:List Int):(Xt j.length).map (λi=>j.getD i 0)=j:=by
 apply Ca
 .simp
 .intro i u l;simp[l]
section
variable{X:Cx}
theorem _g0(j:z.length<=16)(y:-1000<=i)(h1:i<=1000):MulOk z i:=by
 refine⟨?_,λl _=>?_,λl _=>?_⟩
 .rw[decide_eq_false (by lia),decide_eq_false (by lia)];rfl
 .have m:1<=i:=by lia
  have:(16:Int)<=(2^63 - 1)/i:=by
   rw[Int.le_ediv_iff_mul_le (by lia)]
   lia
  lia
 .have:z.length*i.toNat<=16*1000:=Nat.mul_le_mul j (by lia)
  have u:z.length*i.toNat<2^20:=by lia
  generalize z.length*i.toNat=n at u;revert n;intro n g;have w:sizeLine=16777216:=by decide
  show decide (n>sizeLine)=false;rw[w];exact decide_eq_false (by lia)
theorem _nz:OpR X (Ym .Mult) (λx y H Q=>∃z i,x=.str z/\y=.int i/\z.length<=16/\ -1000<=i/\i<=1000/\Q (.str (Txt.mul z i)) H):=by
 intro c s f H x y v u Q I j l h;obtain⟨z,i,rfl,rfl,w,m,g,q⟩:=h;obtain⟨t,rfl⟩:=j;obtain⟨d,rfl⟩:=l;exact SB.mul (_g0 w m g) (λd k=>⟨.str (Txt.mul z i),H,I.tok _,⟨_,rfl⟩,q⟩)
theorem Js(x:Array Nat):∀(k:Nat)(j:Array Nat),((Xj k x).foldl (·++·) j).size=j.size+k*x.size
 |0,j=>by simp
 |k+1,j=>by
  rw[Z5,Vv,Js x k,Array.size_append,Nat.succ_mul];lia
theorem _nQ(z:Str)(i:Int):(Txt.mul z i).length=i.toNat*z.length:=by
 unfold Txt.mul;by_cases h:i<1
 .rw[if_pos h];have:i.toNat=0:=by lia
  rw[this,Nat.zero_mul]
  rfl
 rw[if_neg h];by_cases h2:(i==1||z.length==0)=true
 .rw[if_pos h2];rcases(Eb _ _).mp h2 with e|e
  .have:i=1:=by simpa using e
   subst this;simp
  .have:z.length=0:=by simpa using e
   rw[this,Nat.mul_zero]
 .rw[if_neg h2];have e:=Js z.cps i.toNat #[];show((Xj i.toNat z.cps).foldl (·++·) #[]).size=_;rw[e];show 0+_=_;rw[Nat.zero_add]
  rfl
theorem CW{z:Str}{i:Int}(m:Nat)(h:i<=m)(j:z.length<=1):(Txt.mul z i).length<=m:=by
 rw[_nQ];have:i.toNat*z.length<=i.toNat*1:=Nat.mul_le_mul_left _ j;lia
theorem _lc(g:X.A.units<cLine):OpR X (Y1 .Eq) (λx y H Q=>∃a b xs,x=.ref a/\y=.ref b/\SqL X.K H a xs/\SqL X.K H b []/\Q (.bl xs.isEmpty) H):=by
 intro U s W H x y v u Q I p L h;obtain⟨a,b,xs,rfl,rfl,N,O,q⟩:=h;cases p;cases L;obtain⟨l,d,c,Y⟩:=I.list N;obtain⟨z,m,w,_⟩:=I.list O;have P:z=[]:=C1 m.length.symm;subst P;cases xs with
 |nil=>
  have R:l=[]:=C1 d.length.symm;subst R;exact SeqAt.eq_listAt (e:=λ_=>true) c.isList w.isList rfl g (λj T _=>absurd T (Cm j)) (XG I q rfl)
 |cons x r=>
  have f:l.length=r.length+1:=by rw[<-d.length];rfl
  exact SeqAt.eq_list_lengthsAt c.isList w.isList (by simp;intro e;rw[e]at f;simp at f) g (XG I q rfl)
theorem _la(g:X.A.units<cLine):OpR X (Y1 .NotEq) (λx y H Q=>∃a b xs,x=.ref a/\y=.ref b/\SqL X.K H a xs/\SqL X.K H b []/\Q (.bl (!xs.isEmpty)) H):=by
 intro U s W H x y v u Q I p L h;obtain⟨a,b,xs,rfl,rfl,N,O,q⟩:=h;cases p;cases L;obtain⟨l,d,c,Y⟩:=I.list N;obtain⟨z,m,w,_⟩:=I.list O;have P:z=[]:=C1 m.length.symm;subst P;cases xs with
 |nil=>
  have R:l=[]:=C1 d.length.symm;subst R;exact SeqAt.RcNeAt.lists (e:=λ_=>true) c.isList w.isList rfl g (λj T _=>absurd T (Cm j)) X.prog X.w _ _ (XG I q rfl)
 |cons x r=>
  have f:l.length=r.length+1:=by rw[<-d.length];rfl
  exact SeqAt.RcNeAt.lists_lengths c.isList w.isList (by simp;intro e;rw[e]at f;simp at f) g X.prog X.w _ _ (XG I q rfl)
end
open AutoSeq1 (wpAny_loadPart')
open MeetsSeq MeetsSeq2 MeetsSeq3 SeqRoads2
noncomputable def AliP(P:Xw)(w:Xm)(A:Xz)(s:X2)(y x:X0):Prop:=∀(E:X0->X2->Prop)(Q:Bool->X2->Prop),Q true s->X3 (X6 P w) A (eqBool y x) Q E s
noncomputable def RcP(P:Xw)(w:Xm)(A:Xz)(s:X2)(y x:X0):Prop:=∀(E Q:X0->X2->Prop),Q (.bool true) s->X3 (X6 P w) A (richCompare .Eq y x) Q E s
noncomputable def RnP(P:Xw)(w:Xm)(A:Xz)(s:X2)(y x:X0):Prop:=∀(E Q:X0->X2->Prop),Q (.bool false) s->X3 (X6 P w) A (richCompare .NotEq y x) Q E s
section
variable{P:Xw}{w:Xm}{A:Xz}{s:X2}{a b:Addr}{xs ys:Array X0}
theorem AliP.of_at(h:SeqAt.EqAt A s y x true):AliP P w A s y x:=λE Q q=>h P w E Q q
theorem AliP.refs(h:RcP P w A s (.ref a) (.ref b)):AliP P w A s (.ref a) (.ref b):=by
 intro E Q q;by_cases e:a=b
 .subst e;exact SeqAt.EqAt.same _ P w E Q q
 .unfold eqBool;refine YH (wpAny_ite_split (λz=>absurd (by injection (eq_of_beq z)) e) λ_=>?_)
  exact X1 (h E _ (Zx q))
theorem _pl(T:s.heap.IsTuple a xs)(U:s.heap.IsTuple b ys)(W:xs.size=ys.size)(Y:A.units<cLine)(Z:∀p∈xs.toList.zip ys.toList,AliP P w A.in1 s p.1 p.2):RcP P w A s (.ref a) (.ref b):=by
 intro E Q q;obtain⟨⟨D,G,I,J⟩,j,g,M,d⟩:=id T;obtain⟨⟨S,X,H,v⟩,c,f,o,e⟩:=id U;dsimp only at g d f e;subst g d f e;refine Vn (op:=.Eq) ⟨_,j,rfl⟩ ⟨_,c,rfl⟩ F.slot_tuple_eq (Zd F.slot_tuple_eq ⟨_,j,rfl⟩ F.entry_tuple_eq ?_ (F.args_tuple_eq_2 _ _)) Y;obtain⟨L,N,O,R,os⟩:=s;have i:=HQ
 wp_walk using Yb j,Yb c,wpAny_forIn_list _ (λrest r l=>r.1=none/\l=⟨L,N,O,R,os⟩/\∀p∈rest,AliP P w A.in1 ⟨L,N,O,R,os⟩ p.1 p.2) _
 case turn=>
  rintro⟨y,x⟩ rest r l ⟨u,rfl,m⟩;refine X1 (m (y,x) Ya _ _ ?_)
  wp_walk
  exact⟨rfl,rfl,λp B=>m p (XM _ B)⟩
 case fin=>
  rintro⟨n,r2⟩ l ⟨u,rfl,-⟩;dsimp only at u;subst u
  wp_walk
  have C:Cu .Eq xs.size ys.size=.bool true:=by simp[Cu,W]
  rw[C];exact⟨_,rfl,(λz=>nomatch z),q⟩
 case h=>exact⟨rfl,rfl,Z⟩
theorem _lB(z:xs.size=ys.size)
  (u:s.heap.get? a=some {cls:=.type "list",dict:=d1,data:=.seq xs n1,slots:=l1})(y:s.heap.get? b=some {cls:=.type "list",dict:=d2,data:=.seq ys n2,slots:=l2})
  (m:∀j (h1:j<xs.size)(h2:j<ys.size),AliP P w A.in1 s xs[j] ys[j])(q:R (.ok (.ret (.bool true))) s):∀k i:Nat,xs.size - i=k->
  X3 (X6 P w) A.in1 (Builtin.«list.__eq__.loop» ⟨[.ref a,.ref b,Y4 i,Y4 2],[]⟩) (λfin l=>match fin with|.done f=>R (.ok f) l|.again c'=>c'.quiet=true/\YQ (X6 P w) A c' R l) (λe l=>R (.error e) l) s:=by
 obtain⟨c,r,p,L,os⟩:=s;intro k
 induction k with
 |zero=>
  intro i g
  wp_walk using Yb u,Yb y
  rw[show xs[((i:Nat):Int).toNat]?=none by simp;lia,show ys[((i:Nat):Int).toNat]?=none by simp;lia]
  wp_walk using Yb u,Yb y
  show R (.ok (.ret (.bool (xs.size==ys.size)))) _
  simpa [z]using q
 |succ k d=>
  intro i g;have h1:i<xs.size:=by lia
  have h2:i<ys.size:=by lia
  wp_walk using Yb u,Yb y
  rw[show xs[((i:Nat):Int).toNat]?=some xs[i] by simp[h1],show ys[((i:Nat):Int).toNat]?=some ys[i] by simp[h2]]
  refine X1 (m i h1 h2 _ _ ?_)
  wp_walk
  rw[show((i:Int)+1)=((i+1:Nat):Int) by push_cast;rfl]
  refine⟨Ze plain_eq_loop _,Z3 entry_eq_loop ?_⟩;rw[Zm plain_eq_loop _];exact d (i+1) (by lia)
theorem _pm(r:s.heap.IsList a xs)(p:s.heap.IsList b ys)(m:xs.size=ys.size)(e:A.units<cLine)(L:∀j (h1:j<xs.size)(h2:j<ys.size),AliP P w A.in1 s xs[j] ys[j]):RcP P w A s (.ref a) (.ref b):=by
 intro E Q q;obtain⟨⟨O,T,l,U⟩,u,g,W,d⟩:=id r;obtain⟨⟨Y,Z,B,C⟩,y,c,D,f⟩:=id p;dsimp only at g d c f;subst g d c f;have l:s.TypeIs (.ref a) "list":=⟨_,u,rfl⟩;refine Vn (op:=.Eq) l ⟨_,y,rfl⟩ Ei (wpAny_call (Wo Ei.plain F.entry_list_eq (Ei.check _ _ _ _ _ _ _ _ l (F.args_list_eq_2 _ _) ?_))) e;obtain⟨G,I,J,M,os⟩:=s;have S:=HR;have X:¬(xs.size != ys.size)=true:=by simp[m]
 wp_walk using Yb u,Yb y
 refine⟨Ze plain_eq_loop _,Z3 entry_eq_loop ?_⟩;rw[Zm plain_eq_loop _];exact _lB (R:=wants (λv N=>v≠.notImplemented/\Q v N) E) m u y L (show Y8 true≠.notImplemented/\Q (.bool true) _ from⟨(λz=>nomatch z),q⟩) _ 0 rfl
theorem _nK(T:s.heap.IsTuple a xs)(U:s.heap.IsTuple b ys)(W:xs.size=ys.size)(Y:A.units<cLine)(Z:∀p∈xs.toList.zip ys.toList,AliP P w A.in1 s p.1 p.2):RnP P w A s (.ref a) (.ref b):=by
 intro E Q q;obtain⟨⟨D,G,I,J⟩,j,g,M,d⟩:=id T;obtain⟨⟨S,X,H,v⟩,c,f,o,e⟩:=id U;dsimp only at g d f e;subst g d f e;refine Vn (op:=.NotEq) ⟨_,j,rfl⟩ ⟨_,c,rfl⟩ F.slot_tuple_ne (Zd F.slot_tuple_ne ⟨_,j,rfl⟩ F.entry_tuple_ne ?_ (F.args_tuple_ne_2 _ _)) Y;obtain⟨L,N,O,R,os⟩:=s;have i:=HQ
 wp_walk using Yb j,Yb c,wpAny_forIn_list _ (λrest r l=>r.1=none/\l=⟨L,N,O,R,os⟩/\∀p∈rest,AliP P w A.in1 ⟨L,N,O,R,os⟩ p.1 p.2) _
 case turn=>
  rintro⟨y,x⟩ rest r l ⟨u,rfl,m⟩;refine X1 (m (y,x) Ya _ _ ?_)
  wp_walk
  exact⟨rfl,rfl,λp B=>m p (XM _ B)⟩
 case fin=>
  rintro⟨n,r2⟩ l ⟨u,rfl,-⟩;dsimp only at u;subst u
  wp_walk
  have C:Cu .NotEq xs.size ys.size=.bool false:=by simp[Cu,W]
  rw[C];exact⟨_,rfl,(λz=>nomatch z),q⟩
 case h=>exact⟨rfl,rfl,Z⟩
theorem _lh(z:xs.size=ys.size)
  (u:s.heap.get? a=some {cls:=.type "list",dict:=d1,data:=.seq xs n1,slots:=l1})(y:s.heap.get? b=some {cls:=.type "list",dict:=d2,data:=.seq ys n2,slots:=l2})
  (m:∀j (h1:j<xs.size)(h2:j<ys.size),AliP P w A.in1 s xs[j] ys[j])(q:R (.ok (.ret (.bool false))) s):∀k i:Nat,xs.size - i=k->
  X3 (X6 P w) A.in1 (Builtin.«list.__eq__.loop» ⟨[.ref a,.ref b,Y4 i,Y4 3],[]⟩) (λfin l=>match fin with|.done f=>R (.ok f) l|.again c'=>c'.quiet=true/\YQ (X6 P w) A c' R l) (λe l=>R (.error e) l) s:=by
 obtain⟨c,r,p,L,os⟩:=s;intro k
 induction k with
 |zero=>
  intro i g
  wp_walk using Yb u,Yb y
  rw[show xs[((i:Nat):Int).toNat]?=none by simp;lia,show ys[((i:Nat):Int).toNat]?=none by simp;lia]
  wp_walk using Yb u,Yb y
  show R (.ok (.ret (.bool (xs.size != ys.size)))) _
  simpa [z]using q
 |succ k d=>
  intro i g;have h1:i<xs.size:=by lia
  have h2:i<ys.size:=by lia
  wp_walk using Yb u,Yb y
  rw[show xs[((i:Nat):Int).toNat]?=some xs[i] by simp[h1],show ys[((i:Nat):Int).toNat]?=some ys[i] by simp[h2]]
  refine X1 (m i h1 h2 _ _ ?_)
  wp_walk
  rw[show((i:Int)+1)=((i+1:Nat):Int) by push_cast;rfl]
  refine⟨Ze plain_eq_loop _,Z3 entry_eq_loop ?_⟩;rw[Zm plain_eq_loop _];exact d (i+1) (by lia)
theorem _nL(r:s.heap.IsList a xs)(p:s.heap.IsList b ys)(m:xs.size=ys.size)(e:A.units<cLine)(L:∀j (h1:j<xs.size)(h2:j<ys.size),AliP P w A.in1 s xs[j] ys[j]):RnP P w A s (.ref a) (.ref b):=by
 intro E Q q;obtain⟨⟨O,T,l,U⟩,u,g,W,d⟩:=id r;obtain⟨⟨Y,Z,B,C⟩,y,c,D,f⟩:=id p;dsimp only at g d c f;subst g d c f;have l:s.TypeIs (.ref a) "list":=⟨_,u,rfl⟩;refine Vn (op:=.NotEq) l ⟨_,y,rfl⟩ Ej (wpAny_call (Wo Ej.plain F.entry_list_ne (Ej.check _ _ _ _ _ _ _ _ l (F.args_list_ne_2 _ _) ?_))) e;obtain⟨G,I,J,M,os⟩:=s;have S:=HR;have X:¬(xs.size != ys.size)=true:=by simp[m]
 wp_walk using Yb u,Yb y
 refine⟨Ze plain_eq_loop _,Z3 entry_eq_loop ?_⟩;rw[Zm plain_eq_loop _];exact _lh (R:=wants (λv N=>v≠.notImplemented/\Q v N) E) m u y L (show Y8 false≠.notImplemented/\Q (.bool false) _ from⟨(λz=>nomatch z),q⟩) _ 0 rfl
theorem Jt{K:Type} [DecidableEq K] {knd:KeyKind P w K}{nm:String}{g f:List (K×X0)}{E:X0->X2->Prop}{Q:Bool->X2->Prop}(G:(a==YO)=false)(I:(b==YO)=false)
  (J:s.heap.DictOf knd a g)(M:s.heap.DictOf knd b f)(Z:g.length=f.length)(S:∀p∈g,∃y,YW f p.1=some y/\AliP P w A s p.2 y)(q:Q true s):
  X3 (X6 P w) A (HW nm a b) Q E s:=by
 obtain⟨oa,d,pa,N,_,O,X,B,_⟩:=J;obtain⟨ob,c,pb,R,_,T,C,U,_⟩:=M;have za:g.length=d.size:=B.length.symm.trans Yq;have H:f.length=c.size:=U.length.symm.trans Yq;have o:∀k,findBy knd.is c k=YW f k:=by
  intro k;rw[<-U.find k];clear H U C T R;obtain⟨l⟩:=c;simp[findBy]
 have n:d.size=c.size:=by lia
 unfold HW Builtin.Dict.showsAll;rw[G,I];refine X1 (X7 (X1 (X7 (X1 (BX N O ?_)))));dsimp only;refine X1 (BX R T ?_);rw[if_neg (by simp[n])]
 refine X1 (wpAny_dictEpoch N O (X1 ?_));rw[Std.Legacy.Range.forIn_eq_forIn_range'];simp only[Std.Legacy.Range.size,Nat.sub_zero,Nat.add_sub_cancel,Nat.div_one];refine wpAny_forIn_list _ (λrest r W=>W=s/\r=(none,())/\∀i∈rest,i<d.size) _ ?_ ?_ _ _ ⟨rfl,rfl,λi x=>by simpa using x⟩
 .rintro i rest r W ⟨rfl,rfl,m⟩;have lt:i<d.size:=m i Ya;have lt':i<g.length:=by lia
  refine X1 (BX N O ?_);rw[UY lt];obtain⟨L,val⟩:=B.get? (i:=i) (e:=d[i]) (k:=g[i].1) (v:=g[i].2) (by rw[HJ];exact UY lt) (X8 lt')
  obtain⟨h,i',hh⟩:=X d[i] (Array.getElem_mem lt);obtain rfl:h=g[i].1:=knd.inj _ _ _ i' L;obtain⟨y,fy,D⟩:=S g[i] (XU lt');show X3 _ _ (Z0 [d[i].key,d[i].val] _ >>= _) _ _ _;rw[hh];refine X1 (YH (X1 (wpAny_dictFind_of L R T C ?_)));have u:=fy;rw[<-o,findBy_of_findIdx?]at u;cases Y:c.findIdx? λe=>knd.is g[i].1 e.key with
  |none=>rw[Y]at u;cases u
  |some j=>
   rw[Y]at u;obtain⟨F,_,_⟩:=Array.findIdx?_eq_some_iff_getElem.mp Y;refine X1 (BX R T ?_);rw[UY F];have ey:c[j].val=y:=by simpa [UY F]using u
   rw[<-ey,<-val]at D;refine YH (D _ _ ?_);show X3 _ _ (if(!true)=true then _ else _) _ _ _;rw[if_neg (show¬(!true)=true from XD)];refine X1 (wpAny_dictEpoch N O ?_);rw[if_neg (by simp)]
   exact X7 ⟨rfl,rfl,λz Z=>m z (XM _ Z)⟩
 .rintro r W ⟨rfl,rfl,-⟩;exact X7 q
theorem _pn{K:Type} [DecidableEq K] {knd:KeyKind P w K}{l u:List (K×X0)}(g:(a==YO)=false)(d:(b==YO)=false)
  (j:s.heap.DictOf knd a l)(m:s.heap.DictOf knd b u)(c:A.units<cLine)(f:l.length=u.length)(r:∀p∈l,∃y,YW u p.1=some y/\AliP P w A.in1 s p.2 y):RcP P w A s (.ref a) (.ref b):=by
 intro E Q q;refine Vn (op:=.Eq) j.typeIs m.typeIs Ig (Zd Ig j.typeIs PySem.F.entry_dict_eq ?_ (PySem.F.args_dict_eq_2 _ _)) c;show X3 _ _ (Cz "__eq__" ⟨[.ref a,.ref b],[]⟩>>= _) _ _ s;refine X1 ?_;unfold Cz;refine X1 (BY j.typeIs (X7 (X1 (Us (T:="dict") m.typeIs Ic ?_))));rw[if_neg (by decide)]
 refine X1 (X7 (X1 (X7 (X1 (Jt g d j m f r ?_)))));exact X7 ⟨_,rfl,(λz=>nomatch z),q⟩
theorem _nM{K:Type} [DecidableEq K] {knd:KeyKind P w K}{l u:List (K×X0)}(g:(a==YO)=false)(d:(b==YO)=false)
  (j:s.heap.DictOf knd a l)(m:s.heap.DictOf knd b u)(c:A.units<cLine)(f:l.length=u.length)(r:∀p∈l,∃y,YW u p.1=some y/\AliP P w A.in1 s p.2 y):RnP P w A s (.ref a) (.ref b):=by
 intro E Q q;refine Vn (op:=.NotEq) j.typeIs m.typeIs Ih (Zd Ih j.typeIs PySem.F.entry_dict_ne ?_ (PySem.F.args_dict_ne_2 _ _)) c;show X3 _ _ (Cz "__ne__" ⟨[.ref a,.ref b],[]⟩>>= _) _ _ s;refine X1 ?_;unfold Cz;refine X1 (BY j.typeIs (X7 (X1 (Us (T:="dict") m.typeIs Ic ?_))));rw[if_neg (by decide)]
 refine X1 (X7 (X1 (X7 (X1 (Jt g d j m f r ?_)))));exact X7 ⟨_,rfl,(λz=>nomatch z),q⟩
end
section
variable{X:Cx}
end
end L2
namespace L2
open PySem PySem.Spec PyProof.Rows
theorem _aM:fillsNumberSlot (.type "tuple") "mul"=pure false:=
 PySem.fillsNumberSlot_seq (id:="tuple.__mul__") (r:=some (.builtin "tuple.__rmul__")) CD.lookup (by decide+kernel) I0.lookup (by decide+kernel)
theorem _eK:seqRepeat? (.type "tuple")=pure (some (.builtin "tuple.__mul__")):=by
 unfold seqRepeat?;rw[PySem.seqSlot_of (T:="tuple") (name:="__mul__") (id:="tuple.__mul__") CD.lookup (by decide+kernel),PySem.seqSlot_of (T:="tuple") (name:="__rmul__") (id:="tuple.__rmul__") I0.lookup (by decide+kernel)]
 rfl
theorem _fc(a:Int)(t:Tok)(l:Addr)(items:Array X0)(n:Nat)(u:Option Addr)(y:Array (Option X0)):
  Meets (Builtin.«int.__rmul__» ⟨[.int a t,.ref l],[]⟩) (fun _ R s=>s.heap.get? l=some {cls:=.type "tuple",dict:=u,data:=.seq items n,slots:=y}/\R (.ok (.ret Value.notImplemented)) s):=
 .of_wp λj w A R s h=>by obtain⟨z,g,d,m,os⟩:=s;obtain⟨c,h⟩:=h;wp_walk;exact⟨_,rfl,h⟩
theorem _kz(l:Addr)(items:Array X0)(n:Nat)(y:Option Addr)(z:Array (Option X0))(u:Tok):
  Meets (Builtin.«tuple.__mul__» ⟨[.ref l,.int 1 u],[]⟩) (fun _ R s=>s.heap.get? l=some {cls:=.type "tuple",dict:=y,data:=.seq items n,slots:=z}/\R (.ok (.ret (Xn l))) s):=
 .of_wp λj w A R s h=>by
  obtain⟨f,g,d,q,os⟩:=s;obtain⟨m,h⟩:=h;have r:=HS;have c:(items.isEmpty||(1:Int)==1)=true:=by simp
  wp_walk using Cw m;exact⟨_,rfl,h⟩
theorem _ky(l:Addr)(items:Array X0)(n:Nat)(r:Option Addr)(p:Array (Option X0))(k:Int)(u:Tok)(h2:2<=k)(f:items.size≠0)(P:items.size*k.toNat<=1000000):
  Meets (Builtin.«tuple.__mul__» ⟨[.ref l,.int k u],[]⟩) (fun _ R s=>s.heap.get? l=some {cls:=.type "tuple",dict:=r,data:=.seq items n,slots:=p}/\
   R (.ok (.ret (Xn s.heap.objs.size))) {s with heap:=s.heap.push {cls:=XC "tuple",data:=YT (Vx (fun j y=>j++y) #[] (Xj k.toNat items))},toks:=s.toks}):=
 .of_wp λq w A R s h=>by
  obtain⟨T,g,d,U,os⟩:=s;obtain⟨m,h⟩:=h;have W:=HS;have Y:k<=1000000:=by
   have:1*k.toNat<=items.size*k.toNat:=Nat.mul_le_mul_right _ (by lia)
   lia
  have Z:(items.size:Int)*k<=1000000:=by
   have e:(items.size:Int)*k=((items.size*k.toNat:Nat):Int):=by rw[Int.natCast_mul,U6 (by lia)]
   rw[e];lia
  have L:¬(decide (k< -(2^63))||decide (k >= 2^63))=true:=by simp;lia
  have B:¬(items.isEmpty||k==1)=true:=by
   simp;exact⟨λz=>f (by rw[z];rfl),by lia⟩
  have C:¬(decide (k<=0)||items.isEmpty)=true:=by
   simp;exact⟨by lia,λz=>f (by rw[z];rfl)⟩
  have N:¬((items.size:Int)*k>(2^63 - 1)/8):=by lia
  have D:¬(HN ((items.size:Int)*k)=true):=by
   unfold HN;have c:sizeLine=16777216:=by decide
   rw[c];simp;lia
  have O:(Vx (λj y=>j++y) #[] (Xj k.toNat items)).size<=sizeLine:=by
   have c:sizeLine=16777216:=by decide
   rw[PySem.AutoListH.size_joined,c,Nat.mul_comm];simp;lia
  wp_walk using Cw m
  refine wpAny_ite_false (decide_eq_false L) ?_
  wp_walk using Cw m
  refine wpAny_ite_false (decide_eq_false N) ?_
  wp_walk using Cw m
  exact⟨_,rfl,h⟩
section
variable{X:Cx}
theorem _ny:OpR X (Ym .Mult) (λx y H Q=>∃a k xs,x=.ref a/\y=.int k/\SqT X.K H a xs/\xs≠ []/\1<=k/\xs.length*k.toNat<=1000000/\(k=1->Q (.ref a) H)/\
  (k≠1->∀p,H p=none->Q (.ref p) (upd H p (.tup (Xj k.toNat xs).flatten)))):=by
 intro G s J H x y v u Q I L N h;obtain⟨a,k,xs,rfl,rfl,O,P,M,R,W,Y⟩:=h;obtain rfl:v=Xn a:=L;obtain⟨w,rfl⟩:=N;obtain⟨j,r,Z,_⟩:=I.tuple O;obtain⟨⟨A,m,d,g⟩,l,c,n,f⟩:=id Z;simp only at c f;subst c f;have e:j.toArray.size=xs.length:=by rw[XR,<-r.length]
 refine wpAny_binaryOp_repeat_ref (T:="tuple") (U:="int") (by decide) ⟨_,l,rfl⟩ (fun B=>typeIs_int B k w) _aM PySem.F.fills_int_mul Ie _eK PySem.F.slot_int_index.lookup
  (Ur Ie (typeIs_int s k w) PySem.F.entry_int_rmul (PySem.F.args_int_rmul_2 _ _) (_fc k w a j.toArray n m g) ⟨l,rfl,⟨_,l,rfl⟩,?_⟩)
 by_cases e1:k=1
 .subst e1;exact Ur CD ⟨_,l,rfl⟩ Ia (HY _ _) (_kz a j.toArray n m g w) ⟨l,.ref a,H,I,rfl,W rfl⟩
 .refine Ur CD ⟨_,l,rfl⟩ Ia (HY _ _) (_ky a j.toArray n m g k w (by lia) (by rw[e];exact λz=>P (DO.mp z)) (by rw[e];exact R)) ⟨l,?_⟩
  have C:Vx (λD E=>D++E) #[] (Xj k.toNat j.toArray)=(Xj k.toNat j).flatten.toArray:=by
   have:=Ez j k.toNat [];rw[Y7]at this;exact this
  rw[C];refine⟨.ref s.heap.objs.size,_,I.laid (t':=s.toks) (o:=.tup (Xj k.toNat xs).flatten) (λb S q=>Xr _ q) (Xe _) ?_,rfl,Y e1 _ (I.hok.fresh (Xe _))⟩;refine⟨?_,_,r.rep k.toNat,IsTup.new _ _,_,XS _ rfl,rfl⟩;have F:sizeLine=16777216:=by decide
  rw[Jf,F,Nat.mul_comm];lia
end
section
variable{X:Cx}{pq:List (Addr×Obj)}{σ:St}{H:Hp}{s:X2}
def Thw(X:Cx)(H j:Hp):Prop:=j=H\/∃a o u,H a=some (.frz o u)/\Mut (some u)/\(∀l w,X.H₀ a≠some (.frz l w))/\j=upd H a u
theorem Inv.thaw(I:Inv X pq σ H s)(t:Thw X H H'):Inv X pq σ H' s:=by
 rcases t with rfl|⟨a,o,u,e,U,r,rfl⟩
 .exact I
 have j:∀{b:Addr} {y:HO},H b=some y->y≠.frz o u->b≠a:=fun{b y} q n z=>by subst z;rw[e]at q;cases q;exact n rfl
 have l:∀b,H b=none->b≠a:=λb n z=>by subst z;rw[e]at n;cases n
 have st:∀{c:Addr} {y:HO},ObjOk X.prog X.w H s.heap c y->ObjOk X.prog X.w (upd H a u) s.heap c y:=λx=>
  x.stay (λc v _ q=>q) (λc q=>by rw[XN (j q (λz=>by cases z))];exact q) λc w q=>by rw[XN (j q (λz=>by cases z))];exact q
 refine⟨I.ok,I.os,I.bare,⟨I.base.keep,I.base.slot,λb L q n N=>?_,I.base.there,λb w q=>?_,λb g d q=>?_,λb O q=>?_⟩,I.loc,I.cell,?_,λx c q=>?_,λp P=>?_,λb v q=>?_,I.len⟩
 .have:=I.base.free b L q n N;rw[XN (l b this)];exact this
 .have:=I.base.tups b w q;rw[XN (j this (λz=>by cases z))];exact this
 .rw[XN (λz=>by subst z;exact r g d q)]
  exact I.base.frzs b g d q
 .obtain⟨m,h⟩:=I.base.tbls b O q;exact⟨m,by rw[XN (j h (λz=>by cases z))];exact h⟩
 .rw[XN (l _ I.free)];exact I.free
 .rw[XN (l _ (I.freeC x c q))];exact I.freeC x c q
 .obtain⟨R,f,T⟩:=I.pin p P;exact⟨R,by rw[XN (l _ f)];exact f,T⟩
 .by_cases hb:b=a
  .subst hb;rw[_I]at q;cases q;exact st (I.hok b _ e).2
  .rw[XN hb]at q;exact st (I.hok b v q)
def thwD(X:Cx)(D:Ends):Ends where
 nx:=λσ H=>∃j,Thw X H j/\D.nx σ j
 rt:=λv H=>∃j,Thw X H j/\D.rt v j
 bk:=λσ H=>∃j,Thw X H j/\D.bk σ j
 ct:=λσ H=>∃j,Thw X H j/\D.ct σ j
theorem PS.thaw{st:Stmt}{t:TS}(h:PS X st t):PS X st (λD σ H=>t (thwD X D) σ H):=by
 intro pq s σ H D I q;refine thn (h pq s σ H _ I q) λf g z=>?_;cases f with
 |next=>obtain⟨j,m,l,w,y,d⟩:=z;exact⟨j,w,l.thaw y,d⟩
 |brk=>obtain⟨j,m,l,w,y,d⟩:=z;exact⟨j,w,l.thaw y,d⟩
 |cont=>obtain⟨j,m,l,w,y,d⟩:=z;exact⟨j,w,l.thaw y,d⟩
 |ret u=>obtain⟨v,j,m,l,r,w,y,d⟩:=z;exact⟨v,j,w,l.thaw y,r,d⟩
theorem PE.thaw{e:Expr}{t:TE}(h:PE X e t):PE X e (λσ H Q=>t σ H λv l=>∃j,Thw X l j/\Q v j):=by
 intro pq s σ H Q I q;refine thn (h pq s σ H _ I q) λu z ⟨v,l,w,r,j,y,d⟩=>⟨v,j,w.thaw y,r,d⟩
end
section
variable{prog:Xw}{w:Xm}{A:Xz}{E:X0->X2->Prop}{s:X2}{a₀:Array Keyed}
end
section
variable{X:Cx}
end
structure Mrk (t t':Ys):Prop where
 led:t'.led=t.led
 plain:t.plain=false->t'.plain=false
theorem Mrk.refl(t:Ys):Mrk t t:=⟨rfl,id⟩
theorem Mrk.trans(x:Mrk a b)(y:Mrk b c):Mrk a c:=⟨y.led.trans x.led,λh=>y.plain (x.plain h)⟩
theorem Mrk.standIn(t:Ys)(n:Nat):Mrk t (t.standIn n):=⟨rfl,λ_=>rfl⟩
theorem Mrk.orStandIn(t:Ys)(n:Nat):Mrk t (t.orStandIn n):=by
 unfold SetTable.orStandIn;split
 .exact .refl t
 .exact .standIn t n
theorem Mrk.lay(t:Ys)(es:Array (Int×X0))(k:Int)(x:X0):Mrk t (layNew t es k x).2.1:=by
 unfold layNew;split
 .exact Mrk.trans (b:=(t.put _).1) ⟨rfl,id⟩ (.orStandIn _ _)
 .exact .standIn t _
theorem Mrk.relaid{t:Ys}(h:t.relaid hs n=some (t',od)):Mrk t t':=by
 unfold SetTable.relaid SetTable.laid at h;cases j:SetTable.layClean (SetTable.sizeAbove n - 1) hs with
 |none=>rw[j]at h;simp at h
 |some l=>
  rw[j]at h;simp only[Option.bind_eq_bind,Option.bind_some,Option.pure_def,Cs,Prod.mk.injEq]at h;obtain⟨rfl,_⟩:=h;exact⟨rfl,id⟩
set_option tactic.hygienic true in
theorem Mrk.relay(t:Ys)(es:Array (Int×X0))(n:Nat):Mrk t (relayAll t es n).2.1:=by
 unfold relayAll;split
 .rename_i j
  dsimp only;split
  .exact .relaid j
  .exact .standIn t _
 .exact .standIn t _
noncomputable def txt:X0->Str
 |.str x _=>x
 |_=>⟨#[]⟩
noncomputable def met1(zs:List Str)(x:Str):List Str:=if x∈zs then zs else zs++[x]
def met(f:Nat->Str):Nat->List Str
 |0=>[]
 |i+1=>met1 (met f i) (f i)
set_option tactic.hygienic true in
theorem _hK(h:zs.Nodup)(x:Str):(met1 zs x).Nodup:=by
 unfold met1;split
 .exact h
 .rename_i n
  rw[Zg];exact⟨h,by simp,λa l b j=>by rw[Y6]at j;subst j;exact λe=>n (e▸l)⟩
theorem Ju(f:Nat->Str):∀i,(met f i).Nodup
 |0=>.nil
 |i+1=>_hK (Ju f i) _
set_option tactic.hygienic true in
theorem _li:y∈met1 zs x↔y∈zs\/y=x:=by
 unfold met1;split
 .rename_i h
  exact⟨.inl,λz=>z.elim id λe=>e▸h⟩
 .simp
theorem Jv:∀i,y∈met f i↔∃j,j<i/\f j=y
 |0=>by simp[met]
 |i+1=>by
  unfold met;rw[_li,Jv i];constructor
  .rintro(⟨j,l,e⟩|e)
   .exact⟨j,by lia,e⟩
   .exact⟨i,by lia,e.symm⟩
  .rintro⟨j,l,e⟩;by_cases z:j=i
   .subst z;exact .inr e.symm
   .exact .inl ⟨j,by lia,e⟩
theorem Jw(f:Nat->Str):∀i,(met f i).length<=i
 |0=>Xe _
 |i+1=>by
  have:=Jw f i;unfold met met1;split
  .lia
  .rw[Yt];simp;lia
section
variable{prog:Xw}{w:Xm}{A:Xz}{E:X0->X2->Prop}{s:X2}
def WSet(prog:Xw)(w:Xm)(o:Obj)(zs:List Str):Prop:=
 o.ExactSet/\∃j l t,o.data=.set j l t/\ElemsOf (strKind prog w) j.toList/\(j.toList.map λe=>txt e.2).Perm zs/\j.size<scanBound/\t.fits j.size=true
  /\t.led=(!w.params.followText "set-order")/\(zs≠ []->t.plain=false)
theorem WSet.fresh:WSet prog w {cls:=.type "set",dict:=none,data:=.set #[] 0 (.fresh 0 0 (!w.params.followText "set-order"))} []:=
 ⟨⟨rfl,rfl,rfl⟩,#[],0,_,rfl,λe j=>by simp at j,by simp,by decide,by rfl,rfl,λh=>absurd rfl h⟩
theorem isT{k:Str}:(strKind prog w).is k v=true↔∃t,v=.str k t:=by
 constructor
 .exact λh=>Value.isStrOf_shape h
 .rintro⟨t,rfl⟩;exact strKind_is prog w k t
theorem WSet.mem{es:Array (Int×X0)}{zs:List Str}(u:ElemsOf (strKind prog w) es.toList)(y:(es.toList.map λe=>txt e.2).Perm zs)(k:Str):
  k∈zs↔∃e∈es.toList,(strKind prog w).is k e.2=true:=by
 rw[<-y.mem_iff,XQ];constructor
 .rintro⟨e,j,q⟩;refine⟨e,j,isT.mpr ?_⟩;obtain⟨⟨m,z,_⟩,_⟩:=u e j;obtain⟨t,l⟩:=isT.mp z;rw[l]at q ⊢;exact⟨t,by rw[<-q];rfl⟩
 .rintro⟨e,j,q⟩;obtain⟨t,l⟩:=isT.mp q;exact⟨e,j,by rw[l];rfl⟩
theorem Jx{h:Heap}{a:Addr}{o:Obj}{es:Array (Int×X0)}{l:Nat}{t:Ys}(y:h.get? a=some o)(u:o.data=.set es l t)(j:Array (Int×X0))(t':Ys):
  (h.update a (Obj.putSet j t')).get? a=some {o with data:=.set j (l+1) t'}:=by
 have z:=UV (Obj.putSet j t') y (by rw[putSet_of j t' u];rfl)
 rwa [putSet_of j t' u]at z
theorem Jy{g:Bool->Sem Unit}(Y:∀(b:Bool)(u:X2)(L:Unit->X2->Prop),L () u->X3 (X6 prog w) A (g b) L E u)
  {a:Addr} {o:Obj} {es:Array (Int×X0)} {Z:Nat} {t:Ys} (N:s.heap.get? a=some o)(c:o.ExactSet)(O:o.data=.set es Z t)
  {j:Array (Int×X0)} {t2:Ys} {zs:List Str} (f:ElemsOf (strKind prog w) j.toList)(P:(j.toList.map λe=>txt e.2).Perm zs)(T:j.size<scanBound)
  (B:t2.fits j.size=true)(y:t2.led=(!w.params.followText "set-order"))(q:t2.plain=false){p:Bool} {R:Option Bool->X2->Prop}
  (h:∀h' U,U4 a s.heap h'->h'.get? a=some U->WSet prog w U zs->R (some true) {s with heap:=h'}):
  X3 (X6 prog w) A (do
    storeSet a j t2
    if(!p&&t2.tooFull)=true then do
      g (relayAll t2 j (V0 j.size)).2.2
      storeSet a (relayAll t2 j (V0 j.size)).1 (relayAll t2 j (V0 j.size)).2.1
      pure (some true)
     else pure (some true)) R E s:=by
 refine X1 (wpAny_storeSet_of N O ?_ (fits_of_scanBound T));have z:=Jx N O j t2;split
 .have l:=relayAll_perm t2 j (V0 j.size);have m:=relayAll_fits t2 j (V0 j.size);have r:=Mrk.relay t2 j (V0 j.size);generalize relayAll t2 j (V0 j.size)=Rl at l m r ⊢;obtain⟨d,W,C⟩:=Rl;dsimp only at l m r ⊢;have D:d.size=j.size:=by rw[<-Yq,l.length_eq,Yq]
  refine X1 (Y _ _ _ ?_);refine X1 (wpAny_storeSet_of z rfl ?_ (fits_of_scanBound (by lia)))
  exact X7 (h _ _ ((U9 _ a _).trans (U9 _ a _)) (Jx z rfl d W)
   ⟨c,d,_,W,rfl,f.perm l,(l.map _).trans P,by lia,m,r.led.trans y,λ_=>r.plain q⟩)
 .exact X7 (h _ _ (U9 _ a _) z ⟨c,j,_,t2,rfl,f,P,T,B,y,λ_=>q⟩)
set_option tactic.hygienic true in
theorem _kB{a:Addr}{o:Obj}{zs:List Str}{x:Str}{tk:Tok}{Q:Bool->X2->Prop}(O:s.heap.get? a=some o)(S:WSet prog w o zs)(D:zs.length+1<scanBound)
  (h:∀b h' l,U4 a s.heap h'->h'.get? a=some l->WSet prog w l (met1 zs x)->Q b {s with heap:=h'}):
  X3 (X6 prog w) A (setAddHashed a (.str x tk) ((strKind prog w).hash x)) Q E s:=by
 obtain⟨P,p,ep,t,B,y,F,n,X,g,hpl⟩:=id S;have d:(strKind prog w).is x (.str x tk)=true:=strKind_is prog w x tk;have H:p.size=zs.length:=by rw[<-F.length_eq,Xd,Yq]
 unfold setAddHashed setAddHashedIn;refine YH (X1 (Wp O B X ?_));dsimp only;rw[byScan_of (x:=.str x tk) rfl n y];simp only[↓reduceIte];unfold setAddByScan;refine X1 (X1 (Ut (X1 (wpAny_setScan_of d O B X y ?_))));have c:=WSet.mem y F x;cases v:List.findIdx? (λe=>(strKind prog w).is x e.2) p.toList with
 |some j=>
  dsimp only;obtain⟨hj,G,_⟩:=List.findIdx?_eq_some_iff_getElem.mp v;have I:x∈zs:=c.mpr ⟨_,XU hj,G⟩;refine X7 (X7 ?_);have:=h false s.heap o (Heap.SameBut.refl a s.heap) O (by unfold met1;rw[if_pos I];exact S)
  cases s;exact this
 |none=>
  dsimp only;have I:x∉zs:=λz=>by
   obtain⟨e,he,q⟩:=c.mp z;have:=List.findIdx?_eq_none_iff.mp v e he;rw[q]at this;exact Bool.noConfusion this
  have hz:met1 zs x=zs++[x]:=by unfold met1;rw[if_neg I]
  have N:=layNew_perm t p ((strKind prog w).hash x) (.str x tk);have m:=layNew_fits t p ((strKind prog w).hash x) (.str x tk);have C:=Mrk.lay t p ((strKind prog w).hash x) (.str x tk);generalize layNew t p ((strKind prog w).hash x) (.str x tk)=L at N m C ⊢;obtain⟨r,t1,was,gave⟩:=L;dsimp only at N m C ⊢;rw[Array.toList_push]at N;have f:ElemsOf (strKind prog w) r.toList:=(y.push d rfl).perm N;have R:(r.toList.map λe=>txt e.2).Perm (met1 zs x):=by
   rw[hz];refine(N.map _).trans ?_;rw[Y0];exact F.append (.refl _)
  have T:r.size<scanBound:=by rw[<-Yq,N.length_eq,Yt,Yq];simp;lia
  have J:∀(b:Bool)(u:X2)(M:Unit->X2->Prop),M () u->X3 (X6 prog w) A (match b with|true=>rule "set.scan.the-table-gave-way"|false=>pure ()) M E u:=
   λb u M i=>by cases b<;>first|exact X7 i|exact Ut i
  refine X1 (J _ _ _ ?_);have U:∀h' l,U4 a s.heap h'->h'.get? a=some l->WSet prog w l (met1 zs x)->Q true {s with heap:=h'}:=λh' l W Y Z=>h true h' l W Y Z;split
  .rw[hashByValue_scannable 8 (x:=.str x tk) rfl];refine X1 (X7 ?_);refine Jy J O P B f R T (t2:={t1 with plain:=false}) (SetTable.fits_plain_off m) (C.led.trans g) rfl ?_;intro h' l W Y Z;exact X7 (U h' l W Y Z)
  .rename_i np
   refine X1 (X7 ?_);simp only[↓reduceIte];refine Jy J O P B f R T m (C.led.trans g) (by simpa using np) ?_
   intro h' l W Y Z;exact X7 (U h' l W Y Z)
theorem _ik{St:Nat->X2->Prop}
  (W:WalksS prog w A.in1 I fp wr G n P St)(S:Addr)(m:S∉fp)(f:Nat->Str)(g:∀i v,P i v->∃t,v=.str (f i) t)(y:n+1<scanBound):
  ∀(k i:Nat)(s:X2)(o:Obj),n - i=k->i<=n->St i s->s.heap.get? S=some o->WSet prog w o (met f i)->
   (∀j T,Moved (S::wr) G s j->j.heap.get? S=some T->WSet prog w T (met f n)->R (.ok (.ret .none)) j)->
   YQ (X6 prog w) A (.builtin "set.update.loop" ⟨[.ref S,.ref I],[]⟩) R s:=by
 have d:S∉wr:=λh=>m (W.sub _ h);have l:∀b∈wr,b∈S::wr:=λb y=>XM _ y;intro k
 induction k with
 |zero=>
  intro i s o X H u U Y Z;have B:i=n:=by lia
  subst B;refine Z3 F.entry_set_update_loop ?_;rw[Zm F.plain_set_update_loop _];show X3 _ A.in1 (pyNext (.ref I)>>= _) _ _ s;refine X1 (W.done s _ _ u λj c=>?_);exact X7 (Z j o (c.mono l) (c.heap S _ d U) Y)
 |succ k x=>
  intro i s o X H u U Y Z;have q:i<n:=by lia
  refine Z3 F.entry_set_update_loop ?_;rw[Zm F.plain_set_update_loop _];show X3 _ A.in1 (pyNext (.ref I)>>= _) _ _ s;refine X1 (W.item i s _ _ q u λv j a r c=>?_);obtain⟨t,rfl⟩:=g i v a;have C:=c.heap S _ d U;show X3 _ A.in1 (Z0 [XE (f i) t] (setAdd S (.str (f i) t))>>= _) _ _ j;refine X1 (YH ?_);unfold setAdd;refine YH (X1 ((strKind prog w).pyHash (k:=f i) (strKind_is prog w _ _) ?_));refine _kB (s:={j with toks:=j.toks+1}) C Y (by have:=Jw f i;lia) λb h' T p D J=>?_
  refine X7 ⟨Ze F.plain_set_update_loop _,x (i+1) _ T (by lia) q (W.frame _ j _ _ r (U5 _) λb y o e=>?_) D J λM Q L N O=>?_⟩
  .rw[p.2 b (λz:b=S=>m (by rw[<-z];exact y))];exact e
  .refine Z M Q (Moved.trans W.gtrans ((c.mono l).then_heap (U5 _) λb o y e=>?_) L) N O;rw[p.2 b (λz:b=S=>y (by rw[z];exact Ya))];exact e
noncomputable def ZL(w:Xm):Obj:={cls:=.type "set",dict:=none,data:=.set #[] 0 (.fresh 0 0 (!w.params.followText "set-order"))}
theorem _kA(a:X0)(h:Q₁ (.ref s.heap.objs.size) {s with heap:=s.heap.push (ZL w)}):
  YQ (X6 prog w) A (.call (.builtin "set.__new__") ⟨[.type "set",a],[]⟩) (wants Q₁ E) s:=by
 refine codeAny_of_tree ?_;show X3 _ A.in1 (do checkBuiltinCall "set.__new__" ⟨[.type "set",a],[]⟩;again (.builtin "set.__new__" ⟨[.type "set",a],[]⟩)) _ _ s
 refine X1 (wpAny_of_eq (F.newCall_set_1 a) (X7 ⟨Ze F.plain_set_new _,Z3 F.entry_set_new ?_⟩));rw[Zm F.plain_set_new _];unfold Builtin.«set.__new__» Builtin.Frozenset.newClass;have j:=sub_set_self;obtain⟨l,g,d,u,os⟩:=s;dsimp only
 wp_walk
 refine Wq (X7 ?_);dsimp only;simp only[newObj];refine X1 (wpAny_alloc (X7 ?_));exact X7 h
theorem _k5{items:Array X0}
  (hh:A.handled=none)(hl:s.heap.IsList l items)(hi:∀(i:Nat)(v:X0),items[i]?=some v->∃t,v=XE (f i) t)(Z:items.size+1<scanBound)
  (h:∀(h':Heap)(tk:Nat)(o:Obj),h'.get? s.heap.objs.size=some o->WSet prog w o (met f items.size)->
   (∀b o,b<s.heap.objs.size->s.heap.get? b=some o->h'.get? b=some o)->Q (.ref s.heap.objs.size) {s with heap:=h',toks:=tk}):
  X3 (X6 prog w) A (call (.type "set") [.ref l]) Q E s:=by
 obtain⟨c,tl,X⟩:=UB.mro;have C:=UB.made;have H:=UB.sub;refine wpAny_call (codeAny_of_tree ?_);show X3 _ _ (callAny (.type "set") _) _ _ _;refine X7 ⟨Code.quiet_builtin _ (by decide+kernel),Z3 F.entry_type_call ?_⟩
 rw[Around.under_plain (weight_type_call_type "set" [.ref l] []) rfl];have h1:=UB.notType;have h2:=UB.canCreate;have hct:=F.typeCall_set_1 (.ref l)
 repeat (any_goals (first|assumption|wp_step))
 refine Vl (_kA (.ref l) (E:=E) (Q₁:=λp y=>p=.ref s.heap.objs.size/\y={s with heap:=s.heap.push (ZL w)}) ⟨rfl,rfl⟩) λr y D=>?_;cases r with
 |error e=>exact D
 |ok fl=>
  cases fl with
  |ret p=>
   obtain⟨rfl,rfl⟩:=D;have n:(s.heap.push (ZL w)).get? s.heap.objs.size=some (ZL w):=XS _ rfl;have hT:WK {s with heap:=s.heap.push (ZL w)} (.ref s.heap.objs.size) "set":=⟨_,n,rfl⟩;have hli:=UB.init.lookup;have hbi:=UB.init.bind (.ref s.heap.objs.size)
   repeat (any_goals (first|assumption|wp_step))
   refine Vl (Wo (R:=wants (λr z=>r=.none/\∃h' tk o,z={s with heap:=h',toks:=tk}/\
     h'.get? s.heap.objs.size=some o/\WSet prog w o (met f items.size)/\
     (∀b o,b<s.heap.objs.size->s.heap.get? b=some o->h'.get? b=some o)) E) UB.init.plain F.entry_set_init (check_set_init_1 hT ?_)) λL z j=>?_
   .obtain⟨ol,N,O,x,P⟩:=hl;obtain⟨a,m,G,u⟩:=ol;simp only at O P;subst O;subst P;have T:(s.heap.push (ZL w)).get? l=some {cls:=.type "list",dict:=m,data:=.seq items x,slots:=u}:=Xr _ N;have hsls:=F.sub_list_set;have hslf:=F.sub_list_frozenset;have hne:(XC "list"==XC "dict")=false:=by decide
    have U:(s.heap.push (ZL w)).IsList l items:=⟨_,T,rfl,x,rfl⟩;unfold Builtin.«set.__init__» noKeywords Builtin.Frozenset.updateFrom;generalize hPI:pyIter=PI
    wp_walk
    subst hPI;refine BZ U ?_;refine X1 (wpAny_runValue ?_);have W:l<s.heap.objs.size:=Xv N;have Y:l≠(s.heap.push (ZL w)).objs.size:=by
     rw[Zk];exact XB (Uy W)
    have I:s.heap.objs.size∉ [(s.heap.push (ZL w)).objs.size,l]:=by
     rw[Zk];simp only[Xk,XJ,or_false,not_or];exact⟨XB (VA _),UW W⟩
    refine _ik ((Walks.list (A:=A.in1.in1.in1) (by simp[hh]) _ l Y items).toS) s.heap.objs.size
     I f hi Z (items.size - 0) 0 _ (ZL w) (by lia) (YS _)
     ⟨⟨_,XS _ rfl,rfl,rfl⟩,(U.push _)⟩ (Xr _ n) WSet.fresh ?_
    intro s' o' B g d;obtain⟨h',g',d',J,M⟩:=s';have eg:g'=s.gens:=B.gens;have ed:d'=s.drawn:=B.drawn;have eo:M=s.os:=B.os;subst eg;subst ed;subst eo;refine X7 (X7 ⟨rfl,h',J,o',rfl,g,d,λb o Z e=>?_⟩);refine B.heap b o ?_ (Xr _ (Xr _ e));simp only[Xk,XJ,or_false,not_or];exact⟨XB Z,by rw[Zk];exact XB (Uy Z)⟩
   .cases L with
    |error e=>exact j
    |ok q=>
     cases q with
     |ret r=>
      obtain⟨rfl,h',tk,o',rfl,g,d,S⟩:=j
      repeat (any_goals (first|assumption|wp_step))
      exact h _ _ _ g d S
     |_=>exact j.elim
  |_=>exact D.elim
end
theorem slot_setiter_next:Slot "set_iterator" "__next__" "set_iterator.__next__":=
 .of (owner:="set_iterator") (n:="__next__") (by rw[Vo,Vp];kernel_rfl) (by decide+kernel) (by decide+kernel) (by decide+kernel)
  (by first|exact .inl (by decide+kernel)|exact .inr (by decide+kernel)) (by rw[isSubtype_type];kernel_rfl)
theorem Jz:Slot "set_iterator" "__iter__" "set_iterator.__iter__":=
 .of (owner:="set_iterator") (n:="__iter__") (by rw[Vo,Vp];kernel_rfl) (by decide+kernel) (by decide+kernel) (by decide+kernel)
  (by first|exact .inl (by decide+kernel)|exact .inr (by decide+kernel)) (by rw[isSubtype_type];kernel_rfl)
theorem JA:entryFor table "set_iterator.__next__"=some Builtin.«set_iterator.__next__»:=entryFor_of_fast (by kernel_rfl)
theorem _90:entryFor table "set_iterator.__iter__"=some Builtin.«dict_keyiterator.__iter__»:=
 entryFor_alias (id':="dict_keyiterator.__iter__") (by kernel_rfl) rfl (by decide+kernel) (by kernel_rfl)
theorem _cL:entryFor table "set.__iter__"=some Builtin.«frozenset.__iter__»:=
 entryFor_alias (id':="frozenset.__iter__") (by kernel_rfl) rfl (by decide+kernel) (by kernel_rfl)
theorem JB(a:X0):argsOk "set_iterator.__next__" ⟨[a],[]⟩:=by unfold argsOk;kernel_rfl
theorem _9F(a:X0):argsOk "set_iterator.__iter__" ⟨[a],[]⟩:=by unfold argsOk;kernel_rfl
theorem ers{j:Type}:∀(l:List j)(i:Nat)(h:i<l.length),(l[i]::l.eraseIdx i).Perm l
 |[],_,h=>absurd h (by simp)
 |x::xs,0,_=>.refl _
 |x::xs,i+1,h=>(List.Perm.swap x _ _).trans ((ers xs i (by simpa using h)).cons x)
section
variable{prog:Xw}{w:Xm}{A:Xz}{E:X0->X2->Prop}{s:X2}
theorem _p2(j:n≠0)(h:∀i d,i<n->Q i {s with drawn:=d}):X3 M A (choose src n) Q E s:=λu p l=>by
 unfold choose;rw[Sem.wp_choose];exact⟨j,by rw[Sem.wp_pure];exact h _ _ (VB _ (Nat.pos_of_ne_zero j))⟩
theorem _mQ{u:Type}:∀(n:Nat)(xs:List u)(s:X2)(Q:List u->X2->Prop),xs.length=n->(∀ys d,ys.Perm xs->Q ys {s with drawn:=d})->X3 M A (drawOrder n xs) Q E s:=by
 intro n
 induction n with
 |zero=>
  intro xs s Q j h;unfold drawOrder;have:xs=[]:=DO.mp j;subst this;exact X7 (h [] s.drawn (.refl _))
 |succ n y=>
  intro xs s Q j h;cases xs with
  |nil=>simp at j
  |cons x xs=>
   unfold drawOrder;refine X1 (_p2 (by simp) λi d l=>?_)
   rw[X8 l];dsimp only;refine X1 (y _ _ _ (by rw[HD l];lia) λys z m=>X7 ?_)
   have:(((x::xs)[i])::ys).Perm (x::xs):=((List.Perm.cons _ m).trans (ers _ _ l));exact h _ z this
theorem _nm{u:Type}(next:Nat->Nat):∀(n k:Nat)(j:List u)(out:Array u),j.length=n->(pickOrder.go next n k j out).toList.Perm (out.toList++j):=by
 intro n
 induction n with
 |zero=>
  intro k j out y;have:j=[]:=DO.mp y;subst this;unfold pickOrder.go;simp
 |succ n z=>
  intro k j out y;unfold pickOrder.go;have l:next k%j.length<j.length:=VB _ (by lia)
  rw[X8 l];dsimp only;refine(z _ _ _ (by rw[HD l];lia)).trans ?_
  rw[Array.toList_push,Vr];exact(List.Perm.refl _).append (by simpa using ers _ _ l)
theorem _iQ{j:Type}(next:Nat->Nat)(xs:Array j):(pickOrder next xs).toList.Perm xs.toList:=by
 unfold pickOrder
 simpa using _nm next xs.size 0 xs.toList #[] (by simp)
noncomputable def SIt(h:Heap)(it S:Addr)(first:X0)(i n j:Nat):Prop:=
 ∃o,h.get? it=some o/\o.cls=.type "set_iterator"/\o.data=.fields #[first,.int i 0,.ref S,.int n 0,.int j 0]
theorem SIt.typeIs{first:X0}(x:SIt s.heap it S first i n ep):s.TypeIs (.ref it) "set_iterator":=let⟨o,ho,hc,_⟩:=x;⟨o,ho,hc⟩
theorem CY{h:Heap}{it:Addr}{o:Obj}{vs:Array X0}(y:h.get? it=some o)(u:o.data=.fields vs)(j:Nat)(v:X0):
  ∃l,(h.update it (Em (·.setIfInBounds j v))).get? it=some l/\l.cls=o.cls/\l.data=.fields (vs.setIfInBounds j v):=
 ⟨_,UV _ y (Ek (CH u _)),El ..,CH u _⟩
noncomputable def Nx(w:Xm)(S:Addr)(es:Array (Int×X0))(u:Nat)(t:Ys)(l i:Nat):Option (X0×Nat):=
 if w.params.followText "set-order"=true then(pickOrder (w.params.setOrder S u) es)[i]?.map fun e=>(e.2,l)
 else match es[CG t.place l]?,t.place[CG t.place l]? with
  |some (_,x),some j=>some (x,j+1)
  |_,_=>none
theorem _kJ{t:Ys}
  (j:s.heap.get? S=some o)(l:o.data=.set es ep t)(y:t.fits es.size=true)(hw:w.params.followText "set-order"=true\/(es.size<=1/\t.led=true))
  (h:Q (Nx w S es ep t slot i) s):X3 (X6 prog w) A (setNext S slot i ep) Q E s:=by
 unfold setNext;refine X1 (Wp j l y ?_);refine X1 (m:=setsByText) (X1 (Wq (X7 ?_)));show X3 _ _ (if w.params.followText "set-order"=true then _ else _) _ _ _;unfold Nx at h;by_cases hb:w.params.followText "set-order"=true
 .rw[if_pos hb];rw[if_pos hb]at h;simp only[bne_self_eq_false,Yj,if_false];refine X1 ?_;unfold setWalk;refine X1 (Wp j l y ?_);refine X1 (m:=setsByText) (X1 (Wq (X7 ?_)));show X3 _ _ (if w.params.followText "set-order"=true then _ else _) _ _ _;rw[if_pos hb];refine X1 (Wq (X7 (X7 ?_)));exact h
 .rw[if_neg hb];rw[if_neg hb]at h;obtain⟨g,z⟩:=hw.resolve_left hb;have u:(!t.plain&&decide (es.size>1))=false:=by
   rw[decide_eq_false (by lia),Co]
  show X3 _ _ (if(!t.plain&&decide (es.size>1))=true then _ else _) _ _ _;rw[u,if_neg XD];refine X1 ?_;show X3 _ _ (if(!t.led&& !es.isEmpty)=true then _ else _) _ _ _;rw[z];simp only[VC,WD,Yj,if_false];exact X7 (X7 h)
theorem JC(l:A.handled=none)(u:Cj it s.heap h₁)
  (y:∀h',Cj it s.heap h'->Q none {s with heap:=h'}):
  X3 (X6 prog w) A.in1 (do let x<- newExc (.type "StopIteration") [];(raiseNew x:Sem Fin)) (fun fin j=>∃v,fin=Fin.done (Flow.ret v)/\X3 (X6 prog w) A (pure (some v)) Q E j)
   (fun e j=>X3 (X6 prog w) A (do let b<- isInstance e (.type "StopIteration");if b=true then pure none else throw e) Q E j) {s with heap:=h₁}:=by
 refine X1 ?_;simp only[newExc,newTuple];refine X1 (U0 ?_ (by size_fits))
 refine X1 (m:=firstArgMember _ _) (wpAny_of_eq (a:=Xu) (by first|rfl|(simp only[firstArgMember];rfl)) ?_)
 refine U0 ?_ (by size_fits)
 simp only[raiseNew];refine X1 (wpAny_handled ?_);rw[show A.in1.handled=none from l];refine X1 (X7 (wpAny_throw ?_));refine X1 (Us (T:="StopIteration") (b:=true) ⟨_,XS _ rfl,rfl⟩ isSubtype_stop ?_);exact X7 (y _ ((u.push _).push _))
theorem JD{it S:Addr}{i n z j:Nat}{o:Obj}{es:Array (Int×X0)}{t:Ys}{Q:Option X0->X2->Prop}(P:A.handled=none)
  (y:SIt s.heap it S (.int j 0) i n z)(g:s.heap.get? S=some o)(d:o.data=.set es z t)(N:t.fits es.size=true)(R:es.size=n)
  (hw:w.params.followText "set-order"=true\/(es.size<=1/\t.led=true))
  (h1:∀x c,Nx w S es z t j i=some (x,c)->∀h',SIt h' it S (.int c 0) (i+1) n z->U4 it s.heap h'->Q (some x) {s with heap:=h'})
  (h2:Nx w S es z t j i=none->∀h',Cj it s.heap h'->Q none {s with heap:=h'}):
  X3 (X6 prog w) A (pyNext (.ref it)) Q E s:=by
 obtain⟨U,l,q,u⟩:=id y;unfold pyNext;refine X1 (wpAny_attempt (BV (name:=Yd "__next__") y.typeIs slot_setiter_next
  (Zd slot_setiter_next y.typeIs JA ?_ (JB _))))
 show X3 _ _ (fieldsOf (.ref it)>>= _) _ _ s;refine X1 (wpAny_fieldsOf l u ?_);show X3 _ _ (setEntries S >>= _) _ _ s;refine X1 (wpAny_setEntries_of g d N ?_);simp only[R,bne_self_eq_false,Yj,if_false];refine X1 (m:=setNext _ _ _ _) ?_;simp only[YY];refine _kJ g d N hw ?_;cases O:Nx w S es z t j i with
 |none=>
  dsimp only;refine X1 (Vq l u (by simp) ?_)
  exact JC P (U9 ..).extBut (h2 O)
 |some p=>
  obtain⟨x,c⟩:=p;dsimp only;obtain⟨W,f,r,hd1⟩:=CY l u 0 (Y4 c);refine X1 (Vq l u (by simp) ?_)
  refine X1 (Vq f hd1 (by simp) ?_)
  obtain⟨T,e,L,hd2⟩:=CY f hd1 1 (Y4 ((i:Int)+1));refine X7 ⟨x,rfl,X7 (h1 x c O _ ⟨T,e,L.trans (r.trans q),?_⟩ ((U9 ..).trans (U9 ..)))⟩;rw[hd2];simp[Y4]
theorem JE{it S P:Addr}{i n c:Nat}{o op:Obj}{es:Array (Int×X0)}{t:Ys}{ps:Array X0}{R:Nat}{Q:Option X0->X2->Prop}(T:A.handled=none)
  (u:SIt s.heap it S (.ref P) i n c)(z:s.heap.get? S=some o)(g:o.data=.set es c t)(L:t.fits es.size=true)(U:es.size=n)
  (f:s.heap.get? P=some op)(q:op.data=.seq ps R)
  (h1:∀v,ps[i]?=some v->∃(p:Nat) (e:Int×X0),v=.int p 0/\es[p]?=some e/\∀h',SIt h' it S (.ref P) (i+1) n c->U4 it s.heap h'->Q (some e.2) {s with heap:=h'})
  (h2:ps[i]?=none->∀h',Cj it s.heap h'->Q none {s with heap:=h'}):
  X3 (X6 prog w) A (pyNext (.ref it)) Q E s:=by
 obtain⟨Z,j,r,l⟩:=id u;unfold pyNext;refine X1 (wpAny_attempt (BV (name:=Yd "__next__") u.typeIs slot_setiter_next
  (Zd slot_setiter_next u.typeIs JA ?_ (JB _))))
 show X3 _ _ (fieldsOf (.ref it)>>= _) _ _ s;refine X1 (wpAny_fieldsOf j l ?_);show X3 _ _ (setEntries S >>= _) _ _ s;refine X1 (wpAny_setEntries_of z g L ?_);simp only[U,bne_self_eq_false,Yj,if_false];refine X1 (m:=seqItems? _) (wpAny_seqItems f q ?_);simp only[YY];cases N:ps[i]? with
 |none=>
  dsimp only;obtain⟨O,y,d,hd1⟩:=CY j l 0 (Y4 0);refine X1 (Vq j l (by simp) ?_)
  refine X1 (Vq y hd1 (by simp) ?_)
  refine JC (s:=s) (it:=it) T ?_ (h2 N);exact Heap.SameBut.extBut (Heap.SameBut.trans (U9 _ _ _) (U9 _ _ _))
 |some v=>
  obtain⟨p,e,rfl,W,Y⟩:=h1 v N;dsimp only;refine X1 ?_;unfold setNextDrawn;refine X1 (Wp z g L ?_);simp only[YY,bne_self_eq_false,Yj,if_false,W];obtain⟨k,x⟩:=e;refine X7 ?_;obtain⟨O,y,d,hd1⟩:=CY j l 1 (Y4 ((i:Int)+1));refine X1 (Vq j l (by simp) ?_)
  refine X7 ⟨x,rfl,X7 (Y _ ⟨O,y,d.trans r,?_⟩ (U9 ..))⟩;rw[hd1];simp[Y4]
theorem JF{first:X0}(j:SIt s.heap it S first i n ep)(h:Q (.ref it) s):
  X3 (X6 prog w) A (pyIter (.ref it)) Q E s:=by
 refine wpAny_pyIter_slot j.typeIs Jz (Zd Jz j.typeIs _90 ?_ (_9F _));show X3 _ _ (ret (.ref it)) _ _ s;exact X7 ⟨_,rfl,"set_iterator",_,j.typeIs,slot_setiter_next.lookup,h⟩
theorem SIt.at{first:X0}(x:SIt h it S first i n ep)(e:∀o,h.get? it=some o->h'.get? it=some o):SIt h' it S first i n ep:=
 let⟨o,ho,r⟩:=x;⟨o,e _ ho,r⟩
theorem _p4(P:A.handled=none){I S:Addr}{n c:Nat}{o:Obj}{es:Array (Int×X0)}{t:Ys}{vs:List X0}{Good:Nat->Nat->Prop}(p:S≠I)
  (m:o.data=.set es c t)(R:t.fits es.size=true)(T:es.size=n)(hw:w.params.followText "set-order"=true\/(es.size<=1/\t.led=true))
  (U:∀i u,Good i u->(i<n->∃x L,Nx w S es c t u i=some (x,L)/\vs[i]?=some x/\Good (i+1) L)/\(i=n->Nx w S es c t u i=none)):
  Walks prog w A I [I,S] [I] n (λi v=>vs[i]?=some v) (λi h=>∃u,Good i u/\SIt h I S (.int (u:Nat) 0) i n c/\h.get? S=some o)where
 sub:=λb y=>by simp at y;simp[y]
 frame:=λ_ _ _ st W=>let⟨u,g,j,l⟩:=st;⟨u,g,j.at λo e=>W I (by simp) o e,W S (by simp) _ l⟩
 item:=λi s Q E Z st d=>by
  obtain⟨u,g,j,l⟩:=st;obtain⟨x,L,f,B,C⟩:=(U i u g).1 Z;refine JD P j l m R T hw (λD N q r Y O=>?_) (λq=>by rw[f]at q;simp at q)
  rw[f]at q;simp only[Cs,Prod.mk.injEq]at q;obtain⟨rfl,rfl⟩:=q;exact d _ r s.toks B ⟨_,C,Y,(O.2 S p).trans l⟩ λb o y e=>(O.2 b (λz=>y (by simp[z]))).trans e
 done:=λs Q E st d=>by
  obtain⟨u,g,j,l⟩:=st;have f:=(U n u g).2 rfl;refine JD P j l m R T hw (λD N q r Y O=>by rw[f]at q;simp at q) (λ_ r a=>d r s.toks λb o y e=>a b o (λz=>y (by simp[z])) e)
 self:=λ_ _ _ _ st d=>let⟨_,_,j,_⟩:=st;JF j d
theorem _p3(N:A.handled=none){I S P:Addr}{n O U:Nat}{o op:Obj}{es:Array (Int×X0)}{t:Ys}{js:List Nat}{vs:List X0}(c:S≠I)(f:P≠I)
  (m:o.data=.set es O t)(R:t.fits es.size=true)(T:es.size=n)(g:op.data=.seq (js.map λi:Nat=>Y4 i).toArray U)
  (B:js.length=n)(W:∀(i:Nat)(j:Nat),js[i]?=some j->∃e,es[j]?=some e/\vs[i]?=some e.2):
  Walks prog w A I [I,S,P] [I] n (λi v=>vs[i]?=some v) (λi h=>SIt h I S (.ref P) i n O/\h.get? S=some o/\h.get? P=some op)where
 sub:=λb y=>by simp at y;simp[y]
 frame:=λ_ _ _ st r=>⟨st.1.at λo e=>r I (by simp) o e,r S (by simp) _ st.2.1,r P (by simp) _ st.2.2⟩
 item:=λi s Q E C st d=>by
  refine JE N st.1 st.2.1 m R T st.2.2 g (λv u=>?_) (λq=>?_)
  .simp only[List.getElem?_toArray,Xq,En]at u;obtain⟨j,l,rfl⟩:=u;obtain⟨e,Y,u⟩:=W i j l;exact⟨j,e,rfl,Y,λp Z L=>d _ p s.toks u ⟨Z,(L.2 S c).trans st.2.1,(L.2 P f).trans st.2.2⟩ λb o y e=>(L.2 b (λz=>y (by simp[z]))).trans e⟩
  .simp at q;lia
 done:=λs Q E st d=>by
  refine JE N st.1 st.2.1 m R T st.2.2 g (λv u=>?_) (λ_ p a=>d p s.toks λb o y e=>a b o (λz=>y (by simp[z])) e)
  simp only[List.getElem?_toArray,Xq,En]at u;obtain⟨j,l,rfl⟩:=u;rw[ZC (by lia)]at l
  simp at l
 self:=λ_ _ _ _ st d=>JF st.1 d
theorem _kc{z:Type}(es:Array z){js:List Nat}(y:js.Perm (Xt es.size)):
  ∃ys:List z,ys.Perm es.toList/\ys.length=js.length/\∀(i:Nat)(j:Nat),js[i]?=some j->∃e,es[j]?=some e/\ys[i]?=some e:=by
 have l:∀j∈js,j<es.size:=λj u=>Z7.mp (y.mem_iff.mp u);refine⟨js.filterMap λj=>es[j]?,(y.filterMap _).trans (by rw[filterMap_getElem?_range]),?_⟩
 clear y
 induction js with
 |nil=>exact⟨rfl,λi j h=>by simp at h⟩
 |cons j js m=>
  have u:=l j Ya;obtain⟨g,d⟩:=m λk c=>l k (XM _ c);rw[List.filterMap_cons_some (b:=es[j]) (by simp[u])]
  refine⟨by simp[g],λi k h=>?_⟩
  cases i with
  |zero=>
   simp at h;subst h;exact⟨es[j],by simp[u],rfl⟩
  |succ i=>
   simp at h;obtain⟨e,f,q⟩:=d i k h;exact⟨e,f,by simpa using q⟩
def Zsz(prog:Xw)(w:Xm)(zs:List Str)(j:Heap)(S I:Addr)(h':Heap):Prop:=
 ∃(u:List Addr) (n:Nat) (l:List X0) (St:Nat->Heap->Prop),
  (∀y:Xz,y.handled=none->Walks prog w y I u [I] n (λi v=>l[i]?=some v) St)/\St 0 h'/\l.length=n/\(l.map txt).Perm zs/\(∀v∈l,∃t,v=XE (txt v) t)/\
  (∀b∈u,b=S\/j.objs.size<=b)/\j.objs.size<=I
theorem JG(h:p.size=1)(j:Nat):CG p j=if p[0]'(by lia)<j then 1 else 0:=by
 obtain⟨l⟩:=p
 match l,h with
 |[a],_=>
  show(if 0<1 then(if(#[a]:Array Nat).getD ((0+1)/2) j<j then Iv #[a] j 0 ((0+1)/2+1) 1 else Iv #[a] j 0 0 ((0+1)/2))else 0)=if a<j then 1 else 0;rw[if_pos (by lia)]
  rfl
theorem _il{S:Addr}{o:Obj}{zs:List Str}{Q:X0->X2->Prop}(q:s.heap.get? S=some o)(hS:WSet prog w o zs)
  (hQ:∀(I:Addr)(h':Heap)d,Zsz prog w zs s.heap S I h'->(∀b o,s.heap.get? b=some o->h'.get? b=some o)->Q (.ref I) {s with heap:=h',drawn:=d}):
  X3 (X6 prog w) A (pyIter (.ref S)) Q E s:=by
 obtain⟨hex,u,U,t,B,hel,hp,W,L,C,hpl⟩:=id hS;have hT:s.TypeIs (.ref S) "set":=⟨o,q,hex.1⟩;have D:S<s.heap.objs.size:=Xv q;have hsz:u.size=zs.length:=by rw[<-hp.length_eq,Xd,Yq]
 have N:∀e∈u.toList,∃t,e.2=XE (txt e.2) t:=λe g=>by
  obtain⟨⟨k,hk,_⟩,_⟩:=hel e g;obtain⟨t,ht⟩:=isT.mp hk;exact⟨t,by rw[ht];rfl⟩
 have hsl:sizeLine=16777216:=by decide
 have hsb:scanBound=4096:=rfl;refine wpAny_pyIter_slot hT F.slot_set_iter (Zd F.slot_set_iter hT _cL ?_ (F.args_set_iter_1 _));show X3 _ _ (Im S >>= _) _ _ s;refine X1 (m:=Im S) (X1 (wpAny_setEntries_of q B L (X7 ?_)));refine X1 (m:=setDrawn S) ?_;unfold setDrawn;refine X1 (Wp q B L ?_);refine X1 (m:=setsByText) (X1 (Wq (X7 (X7 ?_))));show X3 _ _ (if(!w.params.followText "set-order"&&(!t.plain&&decide (u.size>1)))=true then _ else _) _ _ _;have rest:∀(first:X0)(l:X2)(R:Fin->X2->Prop),l.heap.get? S=some o->
   R (.done (.ret (.ref l.heap.objs.size))) {l with heap:=l.heap.push {cls:=.type "set_iterator",data:=.fields #[first,.int 0 0,.ref S,.int (u.size:Nat) 0,.int U 0]} }->
   X3 (X6 prog w) A.in1 (do let e<- setEpoch S;let v<- newFields "set_iterator" [first,Y4 0,.ref S,Y4 (u.size:Nat),Y4 e];ret v) R E l:=by
  intro first l R O h
  refine X1 (wpAny_setEpoch_of O B L ?_);exact X1 (U0 (X7 h))
 have y:∀(Good:Nat->Nat->Prop)(Y:List X0),Good 0 0->Y.length=u.size->(Y.map txt).Perm zs->(∀v∈Y,∃t,v=XE (txt v) t)->
   (w.params.followText "set-order"=true\/(u.size<=1/\t.led=true))->
   (∀i c,Good i c->(i<u.size->∃x nx,Nx w S u U t c i=some (x,nx)/\Y[i]?=some x/\Good (i+1) nx)/\(i=u.size->Nx w S u U t c i=none))->
   ∀(l:X2),l=s->X3 (X6 prog w) A.in1 (do let e<- setEpoch S;let v<- newFields "set_iterator" [Y4 0,Y4 0,.ref S,Y4 (u.size:Nat),Y4 e];ret v)
    (fun fin s'=>∃v,fin=Fin.done (Flow.ret v)/\∃T' r,s'.TypeIs v T'/\Vm (.type T') "__next__"=pure (some r)/\Q v s') E l:=by
  intro Good Y g0 hlv hpv hsv hw hg l G;subst G;refine rest _ _ _ q ⟨_,rfl,"set_iterator",_,⟨_,XS _ rfl,rfl⟩,slot_setiter_next.lookup,?_⟩;refine hQ _ _ l.drawn ⟨[l.heap.objs.size,S],u.size,Y,_,λA' hh=>_p4 hh (XB D) B L rfl hw hg,⟨0,g0,⟨_,XS _ rfl,rfl,rfl⟩,Xr _ q⟩,hlv,hpv,hsv,λb W=>?_,Xe _⟩ λb o e=>Xr _ e;simp only[Xk,XJ,or_false]at W;rcases W with rfl|rfl
  .exact .inr (Xe _)
  .exact .inl rfl
 by_cases hbt:w.params.followText "set-order"=true
 .rw[hbt];simp only[VC,WD,Yj,if_false];refine X1 (X7 ?_);have f:=_iQ (w.params.setOrder S U) u;refine y (λ_ _=>True) ((pickOrder (w.params.setOrder S U) u).toList.map (·.2)) trivial ?_ ?_ ?_ (.inl hbt) ?_ s rfl
  .rw[Xd,f.length_eq,Yq]
  .rw[Yi];exact(f.map _).trans hp
  .intro v J;obtain⟨e,g,rfl⟩:=XQ.mp J;exact N e (f.mem_iff.mp g)
  .intro i c _;have hps:(pickOrder (w.params.setOrder S U) u).size=u.size:=by rw[<-Yq,f.length_eq,Yq]
   unfold Nx;rw[if_pos hbt];refine⟨λhi=>?_,λhi=>?_⟩
   .rw[UY (by lia)]
    exact⟨_,_,rfl,by simp[hps,hi],trivial⟩
   .rw[Ed (by lia)]
    rfl
 .have M:w.params.followText "set-order"=false:=by simpa using hbt
  have hlt:t.led=true:=by rw[C,M];rfl
  rw[M];simp only[Cp,Cq];by_cases h1:u.size>1
  .have hz:zs≠ []:=λz=>by rw[z,List.length_nil]at hsz;lia
   rw[hpl hz,decide_eq_true h1];simp only[Cp,Bool.and_self,if_true];refine X1 (_mQ _ _ _ _ (by simp) λZ d hj=>?_)
   obtain⟨ys,X,hy2,hy3⟩:=_kc u hj;have H:Z.length=u.size:=by rw[hj.length_eq,Uu]
   refine X1 (wpAny_newTuple ?_ (by rw[Xd];lia))
   refine rest _ _ _ (Xr _ q) ⟨_,rfl,"set_iterator",_,⟨_,XS _ rfl,rfl⟩,slot_setiter_next.lookup,?_⟩;have n:s.heap.objs.size≠(s.heap.push {cls:=.type "tuple",data:=.seq (Z.map fun i:Nat=>Y4 i).toArray}).objs.size:=by rw[Zk];lia
   have a:S≠(s.heap.push {cls:=.type "tuple",data:=.seq (Z.map fun i:Nat=>Y4 i).toArray}).objs.size:=by rw[Zk];exact XB (Uy D)
   have p:s.heap.objs.size<=(s.heap.push {cls:=.type "tuple",data:=.seq (Z.map fun i:Nat=>Y4 i).toArray}).objs.size:=by rw[Zk];lia
   refine hQ _ _ d ⟨[_,S,s.heap.objs.size],u.size,ys.map (·.2),_,λA' hh=>_p3 hh (S:=S) (P:=s.heap.objs.size) (o:=o) (js:=Z)
    (op:={cls:=.type "tuple",data:=.seq (Z.map fun i:Nat=>Y4 i).toArray}) a n B L rfl rfl H ?_,
    ⟨⟨_,XS _ rfl,rfl,rfl⟩,Xr _ (Xr _ q),Xr _ (XS _ rfl)⟩,?_,?_,?_,λb W=>?_,?_⟩
    λb o e=>Xr _ (Xr _ e)
   .intro i j hij;obtain⟨e,g,hy⟩:=hy3 i j hij;exact⟨e,g,by rw[Xq,hy];rfl⟩
   .rw[Xd,hy2,H]
   .rw[Yi];exact(X.map _).trans hp
   .intro v J;obtain⟨e,g,rfl⟩:=XQ.mp J;exact N e (X.mem_iff.mp g)
   .simp only[Xk,XJ,or_false]at W;rcases W with rfl|rfl|rfl
    .exact .inr p
    .exact .inl rfl
    .exact .inr (Xe _)
   .exact p
  .rw[decide_eq_false h1];simp only[Co,Yj,if_false];refine X1 (X7 ?_);have hfp:t.place.size=u.size:=by
    simp only[SetTable.fits,XX,beq_iff_eq,decide_eq_true_eq]at L;exact L.1
   refine y (λi c=>(i=0->c=0)/\(i=1->∃h:0<t.place.size,c=t.place[0]+1)) (u.toList.map (·.2)) ⟨λ_=>rfl,λz=>absurd z (by lia)⟩ (by simp) ?_ ?_ (.inr ⟨by lia,hlt⟩) ?_ s rfl
   .rw[Yi];exact hp
   .intro v J;obtain⟨e,g,rfl⟩:=XQ.mp J;exact N e g
   .intro i c ⟨g0,g1⟩;unfold Nx;rw[if_neg hbt];refine⟨λhi=>?_,λhi=>?_⟩
    .have hs1:u.size=1:=by lia
     have hi0:i=0:=by lia
     subst hi0;have hpz:t.place.size=1:=by lia
     rw[g0 rfl,JG hpz,if_neg (by lia),UY (by lia),UY (by lia)]
     refine⟨_,_,rfl,?_,λz=>absurd z (by lia),λ_=>⟨by lia,rfl⟩⟩
     simp[hs1]
    .have T:u[CG t.place c]?=none:=by
      by_cases h0:u.size=0
      .exact Ed (by lia)
      .have hs1:u.size=1:=by lia
       obtain⟨hq,e⟩:=g1 (by lia)
       rw[e,JG (by lia),if_pos (by lia)]
       exact Ed (by lia)
     rw[T]
theorem _fk(hh:A.handled=none)(ho:s.heap.get? S=some o)(hS:WSet prog w o zs)
  (hQ:∀(vs:List X0)(h':Heap)(d:Drawn)(g:Array GenState)tk,(vs.map txt).Perm zs->(∀v∈vs,∃t,v=XE (txt v) t)->(∀b o,s.heap.get? b=some o->h'.get? b=some o)->g=s.gens->s.heap.objs.size<=h'.objs.size->
   Q vs {s with heap:=h',drawn:=d,gens:=g,toks:=tk}):X3 (X6 prog w) A (collect (.ref S)) Q E s:=by
 obtain⟨R,es,ep,t,hd,hel,hp,T,hf,hled,hpl⟩:=id hS;have J:S<s.heap.objs.size:=Xv ho;have hsl:sizeLine=16777216:=by decide
 have hsb:scanBound=4096:=rfl;have hsz:es.size=zs.length:=by rw[<-hp.length_eq,Xd,Yq]
 unfold collect;refine X1 (wpAny_runValue (Z3 F.entry_proto_collect ?_));rw[Zm F.plain_proto_collect _];show X3 _ A.in1 (newList [] >>= fun l=>again (.builtin "list.__iadd__" ⟨[l,.ref S],[]⟩)) _ _ s;refine X1 (U0 ?_);refine X7 ⟨Ze F.plain_list_iadd _,Z3 F.entry_list_iadd ?_⟩;rw[Zm F.plain_list_iadd _];show X3 _ A.in1 (Ii (.ref s.heap.objs.size) (.ref S) (.ref s.heap.objs.size)) _ _ _;have U:s.heap.objs.size≠S:=(XB J).symm;generalize hL:s.heap.objs.size=L at*;have M:(s.heap.push {cls:=.type "list",data:=.seq ([]:List X0).toArray}).get? L=some {cls:=.type "list",data:=.seq ([]:List X0).toArray}:=by
  rw[<-hL];exact XS _ rfl
 have r:(s.heap.push {cls:=.type "list",data:=.seq ([]:List X0).toArray}).get? S=some o:=Xr _ ho;have f:(s.heap.push {cls:=.type "list",data:=.seq ([]:List X0).toArray}).objs.size=L+1:=by rw[Zk,hL]
 have Y:∀b u,s.heap.get? b=some u->b≠L/\(s.heap.push {cls:=.type "list",data:=.seq ([]:List X0).toArray}).get? b=some u:=fun b u e=>
  ⟨by rw[<-hL];exact XB (Xv e),Xr _ e⟩
 generalize s.heap.push {cls:=.type "list",data:=.seq ([]:List X0).toArray}=h₁ at*;have hT:WK {s with heap:=h₁} (.ref S) "set":=⟨o,r,R.1⟩;unfold Ii;refine X1 (ZA hT ?_);have e1:Ij (.ref L) (.ref S)=false:=by simp[Ij,U]
 have e2:(XC "set"==XC "list")=false:=by decide
 have e3:(XC "set"==XC "tuple")=false:=by decide
 simp only[e1,e2,e3,Bool.or_false,Yj,if_false];refine X1 (_il (s:={s with heap:=h₁}) r hS λI j d hW hk=>?_);obtain⟨fp,n,vs,St,X,H,x,Z,h,a,hI⟩:=hW;have p:∀b u,h₁.get? b=some u->j.get? b=some u:=hk;have N:WK {s with heap:=j,drawn:=d} (.ref S) "set":=⟨o,p _ _ r,R.1⟩;refine X1 (YH ?_);unfold Builtin.List.listLengthHint;refine X1 (wpAny_specialOf N F.slot_set_len.lookup ?_);have hsp:splitId "set.__len__"=some ("set","__len__"):=by decide+kernel
 extract_lets j1 j2
 dsimp -zeta only;rw[hsp];dsimp -zeta only;refine X1 (Us N sub_set_self ?_);simp only[VC,Yj,if_false];show X3 _ _ (ite (_=true) _ _) _ _ _;split
 case isFalse hs=>exact absurd (by rfl) hs
 refine X1 (ZA N ?_);refine X7 ?_;split
 case isFalse hs=>exact absurd (by rfl) hs
 refine X1 (Ut ?_);refine X1 ?_;have m:j.get? L=some {cls:=.type "list",data:=.seq ([]:List X0).toArray}:=p _ _ M;show X3 _ A.in1 (updateSeq L (·.push .none)>>= λ_=>updateSeq L (·.pop)) _ _ _;refine X1 (wpAny_updateSeq m rfl ?_);have c:=UV (Ub (·.push Xu)) m rfl;refine wpAny_updateSeq c rfl ?_;have O:=UV (Ub (·.pop)) c rfl;have B:∀b o,b≠L->j.get? b=some o->((j.update L (Ub (·.push Xu))).update L (Ub (·.pop))).get? b=some o:=
  λb o T e=>(Vz _ _ (XT T)).trans ((Vz _ _ (XT T)).trans e)
 have C:L∉fp:=λz=>by
  rcases a L z with e|e
  .exact U e
  .have:L+1<=L:=f▸e;lia
 have hin:A.in1.handled=none:=by simp[hh]
 have W:=(X A.in1 hin).toS;have hn:n<=sizeLine:=by
  have:n=zs.length:=by rw[<-x,<-Z.length_eq,Xd]
  lia
 refine X7 ⟨Ze F.plain_extend_loop _,codeAny_extend_loopS W hn L C _ n 0 _ _ _ rfl (YS _)
  (W.frame 0 ({s with heap:=j,drawn:=d}:X2) _ s.toks H (Xe _) λb T o e=>B b o (λz=>C (z▸T)) e) O (ItemsOf.nil _) λs' y c' G D q=>?_⟩
 show X3 _ A (load L >>= _) _ _ s';refine X1 (Vk D ?_);have hav:y.toList=vs:=by
  refine Wv λi=>?_;by_cases hi:i<y.size
  .have e:=q.2 i y[i] (by simp[hi])
   rw[e];simp[hi]
  .rw[ZC (by simp;lia),ZC (by have:=q.1;lia)]
 obtain⟨h',g',d',tk',os'⟩:=s';have eg:g'=s.gens:=G.gens;have ed:d'=d:=G.drawn;have eo:os'=s.os:=G.os;subst ed;subst eo;refine X7 ?_;show Q y.toList _;rw[hav];refine hQ vs h' _ g' tk' Z h (λb u e=>?_) eg (UA (Xv D));have P:=Y b u e;refine G.heap b u ?_ (B b u P.1 (p b u P.2));simp only[Xk,XJ,or_false,not_or];refine⟨P.1,λz=>?_⟩;have h1:L+1<=I:=XY (WC f.symm) hI;have h2:b<L:=by rw[<-hL];exact Xv e
 rw[z]at h2;exact absurd h1 (Nat.not_le_of_lt (Uy h2))
theorem _fR(Y:A.handled=none)(Z:s.heap.get? S=some o)(B:WSet prog w o zs)(h64:zs.length<64)
  (h:∀(p:Addr)(h':Heap)(d:Drawn)tk (out:List X0)(q:List Str)(e:Nat),s.heap.objs.size<=p->(∀b o,s.heap.get? b=some o->h'.get? b=some o)->h'.get? p=some (seqObj "list" out.toArray e)->
   StrsAre out q->q.Perm zs->sortedS q=true->Q (.ref p) {s with heap:=h',drawn:=d,toks:=tk}):
  X3 (X6 prog w) A (call (.builtin "sorted") [.ref S]) Q E s:=by
 refine Calls.call_function_entry kind_sorted plain_sorted entry_sorted (args_sorted1 _) ?_;unfold Builtin.«sorted»;refine X1 (m:=checkCount "sorted" 1 1 _) (X7 ?_);have C:sizeLine=16777216:=by decide
 refine X1 (_fk (by simp[Y]) Z B λl j d g tk P R D F r=>?_)
 subst F;have i:l.length=zs.length:=by rw[<-P.length_eq,Xd]
 refine X1 (wpAny_newList ?_ (by lia))
 have u:(j.push (seqObj "list" l.toArray 0)).get? j.objs.size=some (seqObj "list" l.toArray 0):=XS _ rfl;have y:StrsAre l (l.map strOf):=strsAre_map l λv L=>by obtain⟨t,e⟩:=R v L;exact⟨_,t,e⟩
 have N:l.map strOf=l.map txt:=List.map_congr_left λv L=>by obtain⟨t,e⟩:=R v L;rw[e];rfl
 show X3 _ _ _ _ _ {s with heap:=j.push (seqObj "list" l.toArray 0),drawn:=d,toks:=tk};refine X1 (YH (Zd slot_list_sort ⟨_,u,rfl⟩ entry_list_sort (list_sort_treeK strKind_oneLt u y.keysOf (λT U rest e=>keyKind_strs (by rw[<-e];exact y)) (by lia) λz G I=>⟨_,rfl,?_⟩) (args_list_sort _)))
 obtain⟨O,J,W,M⟩:=sorted_out_str y G I;refine X7 ⟨_,rfl,?_⟩;obtain⟨e,X⟩:=sortedHeap_at (out:=(arrOf z).map (·.2)) u;refine h j.objs.size _ d tk ((arrOf z).map (·.2)).toList O e r (λb o H=>?_) (by rw[Array.toArray_toList];exact X) J (by rw[N]at W;exact W.trans P) M
 have c:=D b o H;have f:b<j.objs.size:=Xv c;rw[sortedHeap_old (XB f) (by rw[size_push'];exact Uy f)]
 exact Xr _ c
end
theorem Inv.drew(I:Inv X pq σ H s)(d:Drawn):Inv X pq σ H {s with drawn:=d}:=
 ⟨I.ok,I.os,I.bare,I.base,I.loc,I.cell,I.free,I.freeC,I.pin,I.hok,I.len⟩
theorem few{zs:List Str}(j:zs.Nodup):∀(N:List Str),(∀z∈zs,z∈N)->zs.length<=N.length:=by
 induction zs with
 |nil=>intro N _;exact YS _
 |cons z zs w=>
  intro N h;rw[Yp]at j;have m:=h z Ya;have l:=List.perm_cons_erase m;have:=w j.2 (N.erase z) λy u=>by
   have:=l.mem_iff.mp (h y (XM _ u));rcases Xk.mp this with e|e
   .exact absurd (e▸u) j.1
   .exact e
  have g:=l.length_eq;simp only[YD]at g ⊢;lia
theorem JH:∀{vs:List X0} {j:List Str},StrsAre vs j->Vals (j.map V.str) vs
 |_,_,.nil=>.nil
 |_,_,.cons x t h=>.cons ⟨t,rfl⟩ (JH h)
def WX(X:Cx)(f g:X0)(r:V->Hp->VK->Prop):Prop:=
 ∀(j:List (Addr×Obj))(s:X2)(l:St)(H:Hp)(x:V)(u:X0)(Q:VK),Inv X j l H s->RelV x u->r x H Q->
  X3 (X6 X.prog X.w) X.A (call g [u]) (λv w=>X3 (X6 X.prog X.w) X.A (call f [v]) (EP X j l Q) X.xe w) X.xe s
section
variable{X:Cx}
theorem EC{x y:Str}{id T:String}{r:V->Hp->VK->Prop}{e:Expr}{t:TE}{p p' pos pos':Pos}(L:WX X (.builtin id) (.type T) r)
  (N:Gl X x)(O:X.mg x=none)(P:YB x=some (.builtin id))(w:Gl X y)(z:X.mg y=none)(m:YB y=some (.type T))(R:PE X e t)
  (U:x≠"__name__")(g:(x==("__debug__":Str))=false)(d:y≠"__name__")(j:(y==("__debug__":Str))=false)
  (f:XA [e] X.env=(false,eval e X.env)::XA [] X.env):
  PE X (.Call (.Name x p) [.Call (.Name y p') [e] [] pos'] [] pos) (λl H Q=>t l H λv c=>r v c Q):=by
 intro q s l H Q I h;refine Up (UC I N O P ?_ U g);refine HK ?_ rfl rfl;show X3 _ _ (spliced ((false,eval (.Call (.Name y p') [e] [] pos') X.env)::XZ pos (XA [] X.env))) _ _ s;refine WI ?_;refine Up (UC I w z m ?_ d j);refine WH ?_ f rfl;rw[f];show X3 _ _ (spliced ((false,eval e X.env)::XZ pos' (XA [] X.env))) _ _ s;refine WI (thn (R q s l H _ I h) λu W ⟨v,c,Y,Z,A⟩=>?_);refine WJ ?_;exact thn (L q W l c v u Q Y Z A) λC D B=>WJ B
theorem _k4(g:X.calm=true):WX X (.builtin "sorted") (.type "set") (fun x H Q=>∃(a:Addr) (xs N:List Str),x=.ref a/\SqL X.K H a (xs.map V.str)/\xs.length+1<scanBound/\(∀z∈xs,z∈N)/\N.length<64/\
  ∀p (ys:List Str),H p=none->ys.Nodup->(∀y,y∈ys↔y∈xs)->sortedS ys=true->Q (.ref p) (upd H p (.lst (ys.map V.str)))):=by
 intro pq s σ H x u Q I rx h;obtain⟨a,xs,N,rfl,ha,L,J,O,q⟩:=h;cases rx;obtain⟨m,M,p,Z⟩:=I.list ha;have S:=I.ok.hd g;have P:m.length=xs.length:=by rw[<-M.length,Xd]
 have R:m.toArray.size=xs.length:=by simp[P]
 have hi:∀(i:Nat)(v:X0),m.toArray[i]?=some v->∃t,v=XE (xs.getD i ⟨#[]⟩) t:=λi v hv=>by
  have T:m[i]?=some v:=by simpa using hv
  have U:i<xs.length:=by rw[<-P];exact(XF.mp T).1
  obtain⟨u,n,ru⟩:=M.get (i:=i) (x:=V.str xs[i]) (by simp[U])
  rw[T]at n;cases n;obtain⟨t,rfl⟩:=ru;exact⟨t,by simp[Wy,U]⟩
 have w:∀y,y∈met (λi=>xs.getD i ⟨#[]⟩) xs.length↔y∈xs:=λy=>by
  rw[Jv,List.mem_iff_getElem];constructor
  .rintro⟨j,W,rfl⟩;exact⟨j,W,by simp[Wy,W]⟩
  .rintro⟨j,W,rfl⟩;exact⟨j,W,by simp[Wy,W]⟩
 refine _k5 (f:=λi=>xs.getD i ⟨#[]⟩) S p.isList hi (by rw[R];exact L) λh1 Y o ho hS hk=>?_
 rw[R]at hS;have I1:Inv X pq σ H {s with heap:=h1,toks:=Y}:=I.kept λb u e=>hk b u (Xv e) e;have A:=Ju (λi=>xs.getD i ⟨#[]⟩) xs.length;refine _fR (s:={s with heap:=h1,toks:=Y}) S ho hS (Nat.lt_of_le_of_lt (few A N λz Z=>J z ((w z).mp Z)) O) λB h2 d C out D e hp E F G l c=>?_;have r:D.length<=sizeLine:=by
  have hsl:sizeLine=16777216:=by decide
  have:=few A N λz Z=>J z ((w z).mp Z);rw[l.length_eq];lia
 have I2:=(I1.laid (a:=B) (t':=C) (h':=h2) (o:=.lst (D.map V.str)) (λb u e=>E b u e) hp
  ⟨by rw[Xd];exact r,out,e,JH G,F⟩).drew d
 exact⟨.ref B,_,I2,rfl,q B D (I1.hok.fresh hp) (l.nodup_iff.mpr A) (λy=>(l.mem_iff).trans (w y)) c⟩
end
theorem _f2:Vm (.type "list") "keys"=pure none:=by rw[Vo,Vp];kernel_rfl
theorem _f3:Vm (.type "list") "__getattr__"=pure none:=by rw[Vo,Vp];kernel_rfl
theorem VS:isSubtype (.type "AttributeError") (.type "AttributeError")=pure true:=by rw[isSubtype_type];kernel_rfl
section
variable{prog:Xw}{w:Xm}{A:Xz}{E:X0->X2->Prop}{h:Heap}{g:Array GenState}{d:Drawn}{t:Nat}{os:OsState}{a:Addr}{its:Array X0}{n:Nat}
theorem _hP(c:h.get? a=some (seqObj "list" its n))(f:A.handled=none)
  (q:∀e h' t',(∀b o,h.get? b=some o->h'.get? b=some o)->(∃o,h'.get? e=some o/\o.cls=.type "AttributeError")->E (.ref e) ⟨h',g,d,t',os⟩):
  X3 (X6 prog w) A (Builtin.«object.__getattribute__» ⟨[.ref a,.str "keys" tk],[]⟩) Q E ⟨h,g,d,t,os⟩:=by
 have L:(⟨h,g,d,t,os⟩:X2).TypeIs (.ref a) "list":=⟨_,c,rfl⟩;have N:=_f2;unfold Builtin.«object.__getattribute__»
 repeat (any_goals (first|assumption|wp_step))
 have l:¬(Yd (toString "'"++toString ((VJ "list").elim "list" fun x=>x.tpName)++toString "' object has no attribute '")++Yd "keys"++Yd "'").length>sizeLine:=by decide+kernel
 generalize(Yd (toString "'"++toString ((VJ "list").elim "list" fun x=>x.tpName)++toString "' object has no attribute '")++Yd "keys"++Yd "'")=msg at l ⊢;unfold raiseAttrError;refine X1 ?_;unfold mkStr;rw[if_neg l]
 repeat (any_goals (first|assumption|wp_step))
 show X3 _ _ (isSubtype (.type "AttributeError") (.type "AttributeError")) _ _ _;rw[VS];generalize(if((VJ "AttributeError").elim false fun t=>t.mro.contains "StopIteration"||t.mro.contains "SystemExit")=true then [XE msg t].headD Xu else Xu)=fm;refine X7 ?_;simp only[VC,Yj,if_false];have j:((h.push {cls:=XC "tuple",data:=YT #[XE msg t]}).push {cls:=XC "AttributeError",data:=Ua (#[Xn h.objs.size,Xu,Xu,Xu,Y8 false,fm]++YR (XC "AttributeError") [XE msg t])}).get? (h.push {cls:=XC "tuple",data:=YT #[XE msg t]}).objs.size=some {cls:=XC "AttributeError",data:=Ua (#[Xn h.objs.size,Xu,Xu,Xu,Y8 false,fm]++YR (XC "AttributeError") [XE msg t])}:=XS _ rfl;have r:(#[Xn h.objs.size,Xu,Xu,Xu,Y8 false,fm]++YR (XC "AttributeError") [XE msg t])[6]?=some (.int 0 0):=rfl;have p:(#[Xn h.objs.size,Xu,Xu,Xu,Y8 false,fm]++YR (XC "AttributeError") [XE msg t])[7]?=some (.int 0 0):=rfl;have u:∀b o,h.get? b=some o->((h.push {cls:=XC "tuple",data:=YT #[XE msg t]}).push {cls:=XC "AttributeError",data:=Ua (#[Xn h.objs.size,Xu,Xu,Xu,Y8 false,fm]++YR (XC "AttributeError") [XE msg t])}).get? b=some o/\b<(h.push {cls:=XC "tuple",data:=YT #[XE msg t]}).objs.size:=fun b o e=>
  ⟨Xr _ (Xr _ e),by rw[Zk];exact Uy (Xv e)⟩
 generalize(h.push {cls:=XC "tuple",data:=YT #[XE msg t]}).objs.size=ea at*;generalize((h.push {cls:=XC "tuple",data:=YT #[XE msg t]}).push {cls:=XC "AttributeError",data:=Ua (#[Xn h.objs.size,Xu,Xu,Xu,Y8 false,fm]++YR (XC "AttributeError") [XE msg t])})=h2 at*;generalize hvs:#[Xn h.objs.size,Xu,Xu,Xu,Y8 false,fm]++YR (XC "AttributeError") [XE msg t]=m at*;refine X1 (Vk j ?_);dsimp only;rw[r,p];simp only[VD,Yj,if_false];rw[if_neg (by decide)]
 refine X7 ?_;simp only[if_true];have y:(⟨h2,g,d,t+1+1,os⟩:X2).TypeIs (.ref ea) "AttributeError":=⟨_,j,rfl⟩;refine X1 (Ut ?_);refine X1 (ZA y ?_);dsimp only;unfold layMembers;refine X1 (Vk j ?_);dsimp only;refine wpAny_update j ?_;unfold raiseNew;refine X1 (wpAny_handled ?_);rw[f];show X3 _ _ (throw (Xn ea)) _ _ _;have z:=UV (Em fun m=>m.extract 0 6++#[XE (Yd "keys") (t+1),Xn a]) j (Ek (CH rfl _));refine wpAny_throw (q ea _ _ (λb o e=>?_) ⟨_,z,El ..⟩);have:=u b o e;exact(Vz _ _ (UW this.2)).trans this.1
theorem _o1(l:h.get? a=some (seqObj "list" its n))(y:A.handled=none)
  (z:∀e h' t',(∀b o,h.get? b=some o->h'.get? b=some o)->(∃o,h'.get? e=some o/\o.cls=.type "AttributeError")->E (.ref e) ⟨h',g,d,t',os⟩):
  X3 (X6 prog w) A (getAttrBy (.ref a) (.str "keys" tk) false) Q E ⟨h,g,d,t,os⟩:=by
 have m:(⟨h,g,d,t,os⟩:X2).TypeIs (.ref a) "list":=⟨_,l,rfl⟩;have c:=CC.lookup;have f:=CC.bind (.ref a)
 repeat (any_goals (first|assumption|wp_step))
 refine Wo CC.plain F.entry_list_ga (CC.check _ _ _ _ _ _ _ _ m (F.args_list_getattribute_2 _ _) (_hP l (by simp[y]) λe h' t' k u=>?_))
 have j:(⟨h',g,d,t',os⟩:X2).TypeIs (.ref e) "AttributeError":=u;show X3 _ _ (C0 _ _ _ _ _ _ _) _ _ _;unfold C0;refine X1 (Us j VS ?_);simp only[if_true];unfold hookBehind onTheHeap;simp only[Yj,if_false];rw[_f3];refine X1 (X7 ?_);unfold hookOrError attributeErrorLeaves;simp only[Cp,if_true];exact X1 (wpAny_throw (z e h' t' k u))
theorem _j9(l:s.heap.get? a=some (seqObj "list" its n))(u:A.handled=none)
  (y:∀h' t',(∀b o,s.heap.get? b=some o->h'.get? b=some o)->Q none {s with heap:=h',toks:=t'}):X3 (X6 prog w) A (getAttr? (.ref a) "keys") Q E s:=by
 obtain⟨h,g,d,t,os⟩:=s;unfold getAttr? getAttrBy? mkText;refine X1 (X1 (wpAny_fresh (X7 ?_)));refine X1 (wpAny_attempt (_o1 l u λe h' t' k z=>?_));have j:(⟨h',g,d,t',os⟩:X2).TypeIs (.ref e) "AttributeError":=z;refine X1 (Us j VS ?_);simp only[if_true];exact X7 (y h' t' k)
end
theorem JI:entryFor table "dict.update.loop"=some Builtin.«dict.update.loop»:=entryFor_of_tree (by kernel_rfl)
theorem WY:plainId "dict.update.loop"=true:=by decide+kernel
section
variable{prog:Xw}{w:Xm}{A:Xz}{E:X0->X2->Prop}{s:X2}{K:Type} [DecidableEq K] {knd:KeyKind prog w K}
noncomputable def stTo(ks:Nat->K)(vs:Nat->X0):Nat->List (K×X0)
 |0=>[]
 |i+1=>stored (stTo ks vs i) (ks i) (vs i)
theorem _fK(j:List (K×X0))(k:K)(v:X0):(stored j k v).length<=j.length+1:=by
 unfold stored;split<;>simp
theorem CZ(ks:Nat->K)(vs:Nat->X0):∀i,(stTo ks vs i).length<=i
 |0=>Xe _
 |i+1=>XY (_fK _ _ _) (Nat.succ_le_succ (CZ ks vs i))
theorem JJ{St:Nat->X2->Prop}
  (W:WalksS prog w A.in1 I fp wr G n P St)(D:Addr)(L:D∉fp)(ks:Nat->K)(vs:Nat->X0)(f:n<=sizeLine):
  ∀(k i:Nat)(s:X2),n - i=k->i<=n->St i s->s.heap.DictOf knd D (stTo ks vs i)->
   (∀j v,P j v->∃q y C p,v=.ref q/\q≠D/\q∉wr/\s.heap.get? q=some p/\p.cls=.type "tuple"/\p.data=.seq #[y,vs j] C/\knd.is (ks j) y=true)->
   (∀l,Moved (D::wr) G s l->l.heap.DictOf knd D (stTo ks vs n)->R (.ok (.ret .none)) l)->
   YQ (X6 prog w) A (.builtin "dict.update.loop" ⟨[.ref D,.ref I,Y4 (i:Nat),.none],[]⟩) R s:=by
 have N:D∉wr:=λh=>L (W.sub _ h);have u:∀b∈wr,b∈D::wr:=λb f=>XM _ f;intro k
 induction k with
 |zero=>
  intro i s hk hi g F J M;have Q:i=n:=by lia
  subst Q;refine Z3 JI ?_;rw[Zm WY _];show X3 _ A.in1 (pyNext (.ref I)>>= _) _ _ s;refine X1 (W.done s _ _ g λl d=>?_);refine X1 (m:=Builtin.Dict.addKeywords D []) (X7 ?_);refine X7 (M l (d.mono u) ?_);obtain⟨o,S,X,H,r⟩:=F;exact⟨o,S,X,d.heap D _ N H,r⟩
 |succ k ih=>
  intro i s hk hi g F J M;have O:i<n:=by lia
  refine Z3 JI ?_;rw[Zm WY _];show X3 _ A.in1 (pyNext (.ref I)>>= _) _ _ s;refine X1 (W.item i s _ _ O g λv l hP T d=>?_);obtain⟨q,y,C,p,rfl,hqD,x,hq,a,hqd,U⟩:=J i v hP;have Y:=d.heap q _ x hq;have hd':l.heap.DictOf knd D (stTo ks vs i):=by
   obtain⟨o,S,X,H,r⟩:=F;exact⟨o,S,X,d.heap D _ N H,r⟩
  have hT:l.TypeIs (.ref q) "tuple":=⟨_,Y,a⟩;show X3 _ A.in1 (Z0 [Xn q] _ >>= _) _ _ l;refine X1 (YH ?_);refine X1 (wpAny_tryCatch ?_);unfold Builtin.Dict.pairItems;refine X1 (ZA hT ?_);have e2:(XC "tuple"==XC "tuple")=true:=rfl;rw[e2,Bool.or_true,if_pos rfl];refine X1 (wpAny_seqItems Y hqd (X7 ?_));show X3 _ A.in1 (Z0 [y,vs i] (dictSet D y (vs i))) _ _ l;refine YH ?_;have hl:=CZ ks vs i;refine wpAny_dictSet_pairs (knd:=knd) U hd' (λh' hd2 c=>?_) (by lia)
  refine X7 ⟨Ze WY _,?_⟩;have:=ih (i+1) {l with heap:=h',toks:=l.toks+1} (by lia) O (W.frame _ l _ _ T (U5 _) λb f o e=>?_) hd2 (λj v hPj=>?_) λs'' Z B=>?_
  .exact this
  .rw[c.2 b (λz:b=D=>L (by rw[<-z];exact f))];exact e
  .obtain⟨q,y,C,p,rfl,a1,a2,a3,a4⟩:=J j v hPj;exact⟨q,y,C,p,rfl,a1,a2,(c.2 q a1).trans (d.heap q _ a2 a3),a4⟩
  .refine M s'' (Moved.trans W.gtrans ((d.mono u).then_heap (U5 _) λb o f e=>?_) Z) B;rw[c.2 b (λz:b=D=>f (by rw[z];exact Ya))];exact e
theorem _ib{items:Array X0}(B:A.handled=none)(C:s.heap.get? l=some (seqObj "list" items nl))(M:items.size<=sizeLine)
  (S:∀(j:Nat)v,items[j]?=some v->∃q P T c,v=.ref q/\s.heap.get? q=some c/\c.cls=.type "tuple"/\c.data=.seq #[P,vs j] T/\knd.is (ks j) P=true)
  (h:∀h' tk,h'.DictOf knd s.heap.objs.size (stTo ks vs items.size)->(∀b o,b<s.heap.objs.size->s.heap.get? b=some o->h'.get? b=some o)->Q (.ref s.heap.objs.size) {s with heap:=h',toks:=tk}):
  X3 (X6 prog w) A (call (.type "dict") [.ref l]) Q E s:=by
 refine callType_codes (Q₁:=fun f m=>f=.ref s.heap.objs.size/\m={s with heap:=s.heap.push {cls:=.type "dict",data:=.dict #[]} }) F.kt_called_dict (F.kt_typeCall_dict_1 _) F.entry_dict_init (kt_code_dict_new _ ⟨rfl,rfl⟩) ?_;rintro f m ⟨rfl,rfl⟩;have u:(s.heap.push {cls:=.type "dict",data:=.dict #[]}).DictOf knd s.heap.objs.size []:=Iw s.heap;have g:(s.heap.push {cls:=.type "dict",data:=.dict #[]}).get? l=some (seqObj "list" items nl):=Xr _ C;have X:WK {s with heap:=s.heap.push {cls:=.type "dict",data:=.dict #[]} } (.ref l) "list":=⟨_,g,rfl⟩;refine⟨u.typeIs,F.args_dict_init_2 _ _,?_⟩;unfold Builtin.«dict.__init__»;refine X1 ?_;unfold HV;refine X1 (BY u.typeIs ?_);show X3 _ _ (pure (s.heap.objs.size,[Xn l])) _ _ _;refine X7 ?_;show X3 _ _ (CA "dict.__init__" s.heap.objs.size (.ref l) [] .none) _ _ _;unfold CA;refine X1 (ZA X ?_);rw[if_pos (by decide)]
 refine X1 (_j9 (s:={s with heap:=s.heap.push {cls:=.type "dict",data:=.dict #[]} }) g (by simp[B]) fun d H z=>?_)
 simp only[Option.isNone_none,if_true];refine X1 (Ut ?_);have U:d.get? l=some (seqObj "list" items nl):=z _ _ g;have p:d.IsList l items:=⟨_,U,rfl,nl,rfl⟩;have L:l<s.heap.objs.size:=Xv C;have y:s.heap.objs.size<d.objs.size:=by
  obtain⟨o,D,G,W,_⟩:=u;exact Xv (z _ _ W)
 refine X1 (BZ (s:={s with heap:=d,toks:=H}) p ?_);have N:l≠d.objs.size:=XB (UX L y);refine X7 ⟨Ze WY _,?_⟩;refine JJ (knd:=knd) (n:=items.size) ((Walks.list (A:=A.in1.in1) (by simp[B]) d.objs.size l N items).toS) s.heap.objs.size ?_ ks vs M items.size 0 _ rfl (YS _)
  ⟨⟨_,XS _ rfl,rfl,rfl⟩,p.push _⟩ ?_ ?_ ?_
 .simp only[Xk,XJ,or_false,not_or];exact⟨XB y,UW L⟩
 .obtain⟨o,D,G,W,r⟩:=u;exact⟨o,D,G,Xr _ (z _ _ W),r⟩
 .intro j v i;obtain⟨q,P,T,c,rfl,I,x⟩:=S j v i;have O:q<s.heap.objs.size:=Xv I;refine⟨q,P,T,c,rfl,XB O,?_,Xr _ (z _ _ (Xr _ I)),x⟩;simp only[Y6];exact XB (UX O y)
 .intro a R hd;obtain⟨h',g',d',Y,Z⟩:=a;have eg:g'=s.gens:=R.gens;have ed:d'=s.drawn:=R.drawn;have eo:Z=s.os:=R.os;subst eg;subst ed;subst eo;refine⟨rfl,h h' Y hd λb o J e=>?_⟩;refine R.heap b o ?_ (Xr _ (z _ _ (Xr _ e)));simp only[Xk,XJ,or_false,not_or];exact⟨XB J,XB (UX J y)⟩
end
def ED(H:Hp):List (Key×V)->List V->Prop:=Paired fun(p:Key×V) (v:V)=>∃q,v=.ref q/\H q=some (.tup [kV p.1,p.2])
def ZM(ps:List (Key×V)):List (Key×V):=ps.foldl (λc z=>putK c z.1 z.2) []
theorem Paired.at{l j:Type}{R:l->j->Prop}:∀{xs:List l} {ys:List j},Paired R xs ys->∀(i:Nat)(y:j),ys[i]?=some y->∃x,xs[i]?=some x/\R x y
 |_,_,.nil,i,y,h=>by simp at h
 |_,_,.cons r _,0,y,h=>by simp at h;subst h;exact⟨_,rfl,r⟩
 |_,_,.cons _ t,i+1,y,h=>by simp at h;obtain⟨x,u,r⟩:=Paired.at t i y h;exact⟨x,by simpa using u,r⟩
section
variable{X:Cx}
theorem _ia(f:X.calm=true):Yw X (.type "dict") (fun xs H Q=>∃(a:Addr) (ps:List (Key×V)) (W:List V),xs=[.ref a]/\H a=some (.lst W)/\ED H ps W/\∀p,H p=none->Q (.ref p) (upd H p (.dK (ZM ps)))):=by
 intro pq s σ H xs us Q I r h;obtain⟨a,ps,W,rfl,ha,C,q⟩:=h;obtain⟨u,rfl,ru⟩:=_n r;cases ru;obtain⟨G,l,nl,D,hl⟩:=(show ObjOk X.prog X.w H s.heap a (.lst W)from I.hok a _ ha);have hh:=I.ok.hd f;have R:l.length=ps.length:=by rw[<-D.length,C.length]
 have g:∀(j:Nat)v,l.toArray[j]?=some v->∃q d Y O m,v=.ref q/\s.heap.get? q=some m/\m.cls=.type "tuple"/\m.data=.seq #[d,Y] O/\∃p,ps[j]?=some p/\RelV (kV p.1) d/\RelV p.2 Y:=fun j v T=>by
  have L:l[j]?=some v:=by simpa using T
  obtain⟨y,hy,ry⟩:=Paired.at D j v L;obtain⟨p,w,q,rfl,hq⟩:=Paired.at C j y hy;cases ry;obtain⟨_,ts,rt,ht⟩:=(show ObjOk X.prog X.w H s.heap q (.tup [kV p.1,p.2])from I.hok q _ hq);obtain⟨d,Y,rfl,Z,A⟩:=VO rt;obtain⟨m,ho,hc,n,B⟩:=ht.1;exact⟨q,d,Y,n,m,rfl,ho,hc,B,p,w,Z,A⟩
 obtain⟨P,U⟩:∃P:Nat->X0,∀(j:Nat)v,l.toArray[j]?=some v->∃q d O m,v=.ref q/\s.heap.get? q=some m/\m.cls=.type "tuple"/\m.data=.seq #[d,P j] O/\∃p,ps[j]?=some p/\RelV (kV p.1) d/\RelV p.2 (P j):=by
  refine⟨λj=>if h:j<l.length then(g j l[j] (by simp[h])).choose_spec.choose_spec.choose else .none,λj v T=>?_⟩
  have L:l[j]?=some v:=by simpa using T
  obtain⟨J,rfl⟩:=XF.mp L;dsimp only;rw[dif_pos J];have z:=(g j l[j] (by simp[J]))
  exact⟨z.choose,z.choose_spec.choose,z.choose_spec.choose_spec.choose_spec⟩
 refine _ib (knd:=YJ X.prog X.w) (ks:=λj=>(ps.getD j (.inl 0,.non)).1) (vs:=P) hh hl (by simpa [<-D.length]using G) (λj v T=>?_) λh' tk B hk=>?_
 .obtain⟨q,d,O,m,M,S,x,e4,p,w,Z,A⟩:=U j v T;refine⟨q,d,O,m,M,S,x,e4,V4 ?_⟩;rw[Yf,w];exact Z
 have kv:∀i,i<=ps.length->KV ((ps.take i).foldl (λc z=>putK c z.1 z.2) []) (stTo (λj=>(ps.getD j (.inl 0,.non)).1) P i):=by
  intro i
  induction i with
  |zero=>intro _;exact .nil
  |succ i ih=>
   intro hi;have E:i<l.length:=by lia
   obtain⟨q,d,O,m,M,S,x,e4,p,w,Z,A⟩:=U i l[i] (by simp[E])
   rw[U1,w,Eo,DV];show KV (putK _ p.1 p.2) (stored _ (ps.getD i (.inl 0,.non)).1 _);have ek:(ps.getD i (.inl 0,.non)).1=p.1:=by rw[Yf,w];rfl
   rw[ek];exact(ih (by lia)).put p.1 A
 have N:=kv ps.length (Xe _);rw[DX]at N;have F:l.toArray.size=ps.length:=by simp[R]
 rw[F]at B;have hpl:ps.length<=sizeLine:=by rw[C.length];exact G
 have zl:(ZM ps).length<=sizeLine:=by
  have:=N.length;have l2:=CZ (λj=>(ps.getD j (.inl 0,.non)).1) P ps.length;unfold ZM;lia
 exact⟨.ref s.heap.objs.size,_,I.laid (a:=s.heap.objs.size) (o:=.dK (ZM ps)) (t':=tk) (λb u e=>hk b u (Xv e) e) (Xe _) (CS zl (beq_eq_false_iff_ne.mpr (XT (XB I.big))) N B),rfl,q _ (I.hok.fresh (Xe _))⟩
theorem _kd:∀(bs:List Bool),((Xt bs.length).all λi=>bs.getD i true)=bs.all id:=by
 intro bs;have e:(Xt bs.length).map (λi=>bs.getD i true)=bs:=by
  refine Ca (by simp) λi l j=>?_
  simp[Wy,j]
 conv=>rhs;rw[<-e]
 rw[List.all_map]
 rfl
theorem _kb(l:X.calm=true):Yw X (.builtin "all") (fun xs H Q=>∃(a:Addr) (bs:List Bool),xs=[.ref a]/\SqL X.K H a (bs.map V.bl)/\Q (.bl (bs.all id)) H):=by
 intro Y s Z H xs A Q I r h;obtain⟨a,bs,rfl,N,q⟩:=h;obtain⟨u,rfl,m⟩:=_n r;cases m;obtain⟨j,f,p,B⟩:=I.list N;have O:=I.ok.hd l;have w:j.length=bs.length:=by rw[<-f.length,Xd]
 have g:∀(i:Nat)(v:X0),j.toArray[i]?=some v->v=.bool (bs.getD i true):=λi v P=>by
  have y:j[i]?=some v:=by simpa using P
  have z:i<bs.length:=by rw[<-w];exact(XF.mp y).1
  obtain⟨u,L,m⟩:=f.get (i:=i) (x:=V.bl bs[i]) (by simp[z])
  rw[y]at L;cases L;rw[show v=.bool bs[i]from m];simp[Wy,z]
 have d:a<s.heap.objs.size:=by obtain⟨o,n,e,_⟩:=p;exact Xv e
 refine PySem.call_all_walk (BZ p.isList ⟨_,_,_,_,_,_,λi=>bs.getD i true,rfl,Walks.list (by simp[O]) _ a (XB d) j.toArray,⟨⟨_,XS _ rfl,rfl,rfl⟩,p.isList.push _⟩,?_,λC R T=>?_⟩)
 .intro i v s Q E U W;rw[g i v U];exact Zx W
 .have c:j.toArray.size=bs.length:=by simp[w]
  rw[c,_kd];refine⟨.bl _,H,I.kept (t':=R) λb o e=>?_,rfl,q⟩;exact T b o (by simp only[Y6];exact XB (Xv e)) (Xr _ e)
end
noncomputable def Its(x:Str):It:=⟨λi _=>i<x.cps.size,λi H v j=>j=H/\∃c,x.cps[i]?=some c/\v=.str ⟨#[c]⟩,λi _=>x.cps.size<=i⟩
theorem _ih{K:X4}(it:Addr)(x:Str)(t:Tok):Turn P w K tg (Its x) [it] it (fun i h=>h.IsStrIter it "str_ascii_iterator" x t i)where
 mem:=by simp
 obj:=λi h st b l=>by
  have e:b=it:=by simpa using l
  subst e;obtain⟨o,e,c,d⟩:=st;exact⟨o,e,λv z=>by rw[d]at z;cases z⟩
 keep:=λi h y st k=>by
  obtain⟨o,e,c,d⟩:=st;exact⟨o,k it (by simp) o e,c,d⟩
 item:=by
  intro X g f q R i T s U H E I m st j;subst g f q;have j:i<x.cps.size:=j;obtain⟨r,p,W,L,N,O⟩:=m it (by simp)
  refine wpAny_pyNext_ascii_item st (c:=x.cps[i]) (by simp[j]) λy u Y=>?_
  have Z:Inv X T U H {s with heap:=y,toks:=s.toks+1}:=I.turned (λb o l e=>(Y.2 b l).trans e) r p L N O;obtain⟨o,e,c,d⟩:=id u;exact⟨_,rfl,WM (s:={s with heap:=y,toks:=s.toks+1}) e c d (by decide) ⟨.str ⟨#[x.cps[i]]⟩,H,Z,⟨_,rfl⟩,⟨rfl,_,by simp[j],rfl⟩,u,λb l=>(m b l).1⟩⟩
 done:=by
  intro X g f q R i T s U H E I m st j;subst g f q;have j:x.cps.size<=i:=j;obtain⟨r,p,W,L,N,O⟩:=m it (by simp)
  exact wpAny_pyNext_ascii_end (I.ok.hd R) st (by simp[j]) λy A=>⟨rfl,I.turned (t':=s.toks) (λb o l e=>A b o l e) r p L N O⟩
 self:=λ_ _ _ _ _ st h=>wpAny_pyIter_striter_ascii st h
theorem _ig{K:X4}(it:Addr)(x:Str)(t:Tok):Turn P w K tg (Its x) [it] it (fun i h=>h.IsStrIter it "str_iterator" x t i)where
 mem:=by simp
 obj:=λi h st b l=>by
  have e:b=it:=by simpa using l
  subst e;obtain⟨o,e,c,d⟩:=st;exact⟨o,e,λv z=>by rw[d]at z;cases z⟩
 keep:=λi h y st k=>by
  obtain⟨o,e,c,d⟩:=st;exact⟨o,k it (by simp) o e,c,d⟩
 item:=by
  intro X g f q R i T s U H E I m st j;subst g f q;have j:i<x.cps.size:=j;obtain⟨r,p,W,L,N,O⟩:=m it (by simp)
  refine wpAny_pyNext_wide_item st (c:=x.cps[i]) (by simp[j]) λy u Y=>?_
  have Z:Inv X T U H {s with heap:=y,toks:=s.toks+1}:=I.turned (λb o l e=>(Y.2 b l).trans e) r p L N O;obtain⟨o,e,c,d⟩:=id u;exact⟨_,rfl,WM (s:={s with heap:=y,toks:=s.toks+1}) e c d (by decide) ⟨.str ⟨#[x.cps[i]]⟩,H,Z,⟨_,rfl⟩,⟨rfl,_,by simp[j],rfl⟩,u,λb l=>(m b l).1⟩⟩
 done:=by
  intro X g f q R i T s U H E I m st j;subst g f q;have j:x.cps.size<=i:=j;obtain⟨r,p,W,L,N,O⟩:=m it (by simp)
  exact wpAny_pyNext_wide_end (I.ok.hd R) st (by simp[j]) λy A=>⟨rfl,I.turned (t':=s.toks) (λb o l e=>A b o l e) r p L N O⟩
 self:=λ_ _ _ _ _ st h=>wpAny_pyIter_striter_wide st h
section
variable{X:Cx}{pq:List (Addr×Obj)}{σ:St}{H:Hp}{s:X2}
theorem _nn{t:Tok}(I:Inv X pq σ H s)(q:R (Its x) H):X3 (X6 X.prog X.w) X.A (pyIter (.str x t)) (PIE X pq σ tg R) E s:=by
 have j:∀b∈ [s.heap.objs.size],FpOk X pq H b:=λb u=>by
  have e:b=s.heap.objs.size:=by simpa using u
  subst e;exact I.fpOk (Xe _) (I.hok.fresh (Xe _))
 cases l:x.cps.all (·<128)
 .exact wpAny_pyIter_wide l ⟨s.heap.objs.size,[s.heap.objs.size],_,_,H,rfl,I.kept (t':=s.toks) λb o e=>Xr _ e,_ig _ x t,⟨_,XS _ rfl,rfl,rfl⟩,j,q⟩
 .exact wpAny_pyIter_ascii l ⟨s.heap.objs.size,[s.heap.objs.size],_,_,H,rfl,I.kept (t':=s.toks) λb o e=>Xr _ e,_ih _ x t,⟨_,XS _ rfl,rfl,rfl⟩,j,q⟩
def Zsd(X:Cx)(u:TE):TI:=λσ H R=>u σ H λx j=>(∃a,x=.ref a/\((∃l,SqL X.K j a l/\R (Itl X.K a) j)\/(∃l,SqT X.K j a l/\R (Itt X.K a) j)\/False))\/
 ∃z,x=.str z/\R (Its z) j
theorem _no{tg l:Expr}{g:TE}(f:PE X l g):PI X tg l (Zsd X g):=by
 intro pq s σ H R I h;refine thn (f pq s σ H _ I h) λv j ⟨x,d,u,c,r⟩=>?_;rcases r with⟨a,e,q⟩|⟨z,e,q⟩
 .subst e;cases c;rcases q with⟨L,y,q⟩|⟨L,y,q⟩|q
  .obtain⟨w,N,p,O⟩:=u.list y;refine BZ p.isList ?_;refine⟨j.heap.objs.size,[j.heap.objs.size],_,_,d,rfl,u.kept (t':=j.toks) λb o e=>Xr _ e,Tu a _,⟨_,XS _ rfl,rfl,rfl⟩,λb m=>?_,q⟩;have e:b=j.heap.objs.size:=by simpa using m
   subst e;exact u.fpOk (Xe _) (u.hok.fresh (Xe _))
  .obtain⟨w,N,p,O⟩:=u.tuple y;refine wpAny_pyIter_tuple (show j.heap.IsTuple a w.toArray from p) ?_;refine⟨j.heap.objs.size,[j.heap.objs.size],_,_,d,rfl,u.kept (t':=j.toks) λb o e=>Xr _ e,Tv a _,⟨_,XS _ rfl,rfl,rfl⟩,λb m=>?_,q⟩;have e:b=j.heap.objs.size:=by simpa using m
   subst e;exact u.fpOk (Xe _) (u.hok.fresh (Xe _))
  .exact q.elim
 .subst e;obtain⟨t,rfl⟩:=c;exact _nn u q
theorem _gg(j:∀i,v≠.builtin i)(h:Q (.bool (v==.bool b)) s):X3 M A (Y1 .Is v (.bool b)) Q E s:=by
 cases v<;>first|exact X7 h|exact absurd rfl (j _)
theorem _cE(j:∀i,v≠.builtin i)(h:Q (.bool (!(v==.bool b))) s):X3 M A (Y1 .IsNot v (.bool b)) Q E s:=by
 cases v<;>first|exact X7 h|exact absurd rfl (j _)
theorem JK(r:RelV x v):∀i,v≠.builtin i:=λi e=>by
 subst e;cases x<;>first|(cases r;done)|(obtain⟨t,e⟩:=r;cases e)
set_option tactic.hygienic true in
theorem JL(r:RelV x v):decide (x=.bl b)=(v==Y8 b):=by
 cases x<;>first
  |(cases r;rename_i c;cases b<;>cases c<;>rfl)
  |(cases r;rfl)
  |(obtain⟨t,rfl⟩:=r;rfl)
theorem _nB:OpR X (Y1 .Is) (λx y H Q=>∃b,y=.bl b/\Q (.bl (decide (x=.bl b))) H):=by
 intro pq s σ H x y v u Q I j l h;obtain⟨b,rfl,q⟩:=h;cases l;exact _gg (JK j) (XG I q (JL j))
theorem _l9:OpR X (Y1 .IsNot) (λx y H Q=>∃b,y=.bl b/\Q (.bl (!decide (x=.bl b))) H):=by
 intro pq s σ H x y v u Q I j l h;obtain⟨b,rfl,q⟩:=h;cases l;exact _cE (JK j) (XG I q (by rw[JL j]))
theorem _hS{t:X0}(I:Inv X pq σ H s)(w:RelV x u)(ty:TyOf X.K H x t)(e:UU X.K t c=some b)(R:UU X.K t d=some b')
  (j:s.heap.get? tp=some ⟨.type "tuple",dd,.seq [c,d].toArray n,sl⟩)(h:∀tk,Q (.bool (b||b')) {s with toks:=tk}):X3 (X6 X.prog X.w) A (call (.builtin "isinstance") [u,.ref tp]) Q E s:=by
 have m:Ch X.K t [c,d]=some (b||b'):=by
  unfold Ch;rw[e];cases b with
  |true=>rfl
  |false=>
   show Ch X.K t [d]=some b';unfold Ch;rw[R];cases b'<;>rfl
 cases ty with
 |non=>cases(show u=Xu from w);exact Zj PySem.W.kitx_none I.kIn YE j m (λz=>nomatch z) h
 |bl y=>cases(show u=Y8 y from w);exact Zj PySem.W.kitx_bool I.kIn YE j m (λz=>nomatch z) h
 |int i=>obtain⟨t,q⟩:=(show∃t,u=VE i t from w);cases q;exact Zj PySem.W.kitx_int I.kIn YE j m (λz=>nomatch z) h
 |str y=>obtain⟨t,q⟩:=(show∃t,u=XE y t from w);cases q;exact Zj PySem.W.kitx_str I.kIn YE j m (λz=>nomatch z) h
 |flt y=>obtain⟨t,q⟩:=(show∃t,u=Cr y t from w);cases q;exact Zj PySem.W.kitx_float I.kIn YE j m (λz=>nomatch z) h
 | @lst a r l=>
  cases(show u=Xn a from w);obtain⟨_,_,n,_,g⟩:=(show ObjOk X.prog X.w H s.heap a (.lst r)from I.hok a _ l);exact Zj Cd I.kIn ⟨_,g,rfl⟩ j m (λz=>nomatch z) h
 | @frz a T r l=>
  cases(show u=Xn a from w);obtain⟨_,_,_,n,_,g⟩:=(show ObjOk X.prog X.w H s.heap a (.frz T (.lst r))from I.hok a _ l);exact Zj Cd I.kIn ⟨_,g,rfl⟩ j m (λz=>nomatch z) h
 | @tup a r l=>
  cases(show u=Xn a from w);obtain⟨_,_,_,p⟩:=(show ObjOk X.prog X.w H s.heap a (.tup r)from I.hok a _ l);obtain⟨o,g,L,_⟩:=p.1;exact Zj PySem.W.kitx_tuple I.kIn ⟨o,g,L⟩ j m (λz=>nomatch z) h
 | @dK a f l=>
  cases(show u=Xn a from w);obtain⟨_,_,D,_,p⟩:=(show ObjOk X.prog X.w H s.heap a (.dK f)from I.hok a _ l);obtain⟨o,U,W,g,L,_⟩:=p;exact Zj Ce I.kIn ⟨o,g,L.1⟩ j m (λz=>nomatch z) h
 | @dT a f l=>
  cases(show u=Xn a from w);obtain⟨_,_,r,_,o,U,W,g,L,_⟩:=(show ObjOk X.prog X.w H s.heap a (.dT f)from I.hok a _ l);exact Zj Ce I.kIn ⟨o,g,L.1⟩ j m (λz=>nomatch z) h
 | @ins a C F fs l P Y Z N B=>
  cases(show u=Xn a from w);obtain⟨G,O,_⟩:=WN I.hok l;obtain⟨M,J,_⟩:=O.look;exact Zj (PySem.W.kitx_own (P.get _) P.hd Y Z N B) I.kIn J j m (λz=>nomatch z) h
theorem _fy:Yw X (.builtin "isinstance") (fun xs H Q=>∃x a c d t b j,xs=[x,.ref a]/\H a=some (.tup [.ty c,.ty d])/\TyOf X.K H x t/\UU X.K t (.type c)=some b/\UU X.K t (.type d)=some j/\Q (.bl (b||j)) H):=by
 intro pq s σ H xs Z Q I r h;obtain⟨x,a,c,d,t,b,j,rfl,m,ty,e,g,q⟩:=h;obtain⟨u,A,rfl,f,l⟩:=VO r;cases l;obtain⟨L,N,p,_⟩:=I.tuple (SqT.of (K:=X.K) m);obtain⟨⟨O,B,w,C⟩,P,y,n,z⟩:=id p;simp only at y z;subst y z;cases N with
 |cons R T=>
  cases T with
  |cons U W=>
   cases W;cases R;cases U;exact _hS I f ty e g P λY=>⟨.bl (b||j),H,I.tok Y,rfl,q⟩
end
section
variable{X:Cx}
end
theorem _dS:Vm (.type "tuple") "keys"=pure none:=by rw[Vo,Vp];kernel_rfl
theorem _dT:Vm (.type "tuple") "__getattr__"=pure none:=by rw[Vo,Vp];kernel_rfl
section
variable{prog:Xw}{w:Xm}{A:Xz}{E:X0->X2->Prop}{h:Heap}{g:Array GenState}{d:Drawn}{t:Nat}{os:OsState}{a:Addr}{its:Array X0}{n:Nat}{sl:Array (Option X0)}
theorem _g9(c:h.get? a=some (⟨.type "tuple",none,.seq its n,sl⟩))(f:A.handled=none)
  (q:∀e h' t',(∀b o,h.get? b=some o->h'.get? b=some o)->(∃o,h'.get? e=some o/\o.cls=.type "AttributeError")->E (.ref e) ⟨h',g,d,t',os⟩):
  X3 (X6 prog w) A (Builtin.«object.__getattribute__» ⟨[.ref a,.str "keys" tk],[]⟩) Q E ⟨h,g,d,t,os⟩:=by
 have L:(⟨h,g,d,t,os⟩:X2).TypeIs (.ref a) "tuple":=⟨_,c,rfl⟩;have N:=_dS;unfold Builtin.«object.__getattribute__»
 repeat (any_goals (first|assumption|wp_step))
 have l:¬(Yd (toString "'"++toString ((VJ "tuple").elim "tuple" fun x=>x.tpName)++toString "' object has no attribute '")++Yd "keys"++Yd "'").length>sizeLine:=by decide+kernel
 generalize(Yd (toString "'"++toString ((VJ "tuple").elim "tuple" fun x=>x.tpName)++toString "' object has no attribute '")++Yd "keys"++Yd "'")=msg at l ⊢;unfold raiseAttrError;refine X1 ?_;unfold mkStr;rw[if_neg l]
 repeat (any_goals (first|assumption|wp_step))
 show X3 _ _ (isSubtype (.type "AttributeError") (.type "AttributeError")) _ _ _;rw[VS];generalize(if((VJ "AttributeError").elim false fun t=>t.mro.contains "StopIteration"||t.mro.contains "SystemExit")=true then [XE msg t].headD Xu else Xu)=fm;refine X7 ?_;simp only[VC,Yj,if_false];have j:((h.push {cls:=XC "tuple",data:=YT #[XE msg t]}).push {cls:=XC "AttributeError",data:=Ua (#[Xn h.objs.size,Xu,Xu,Xu,Y8 false,fm]++YR (XC "AttributeError") [XE msg t])}).get? (h.push {cls:=XC "tuple",data:=YT #[XE msg t]}).objs.size=some {cls:=XC "AttributeError",data:=Ua (#[Xn h.objs.size,Xu,Xu,Xu,Y8 false,fm]++YR (XC "AttributeError") [XE msg t])}:=XS _ rfl;have r:(#[Xn h.objs.size,Xu,Xu,Xu,Y8 false,fm]++YR (XC "AttributeError") [XE msg t])[6]?=some (.int 0 0):=rfl;have p:(#[Xn h.objs.size,Xu,Xu,Xu,Y8 false,fm]++YR (XC "AttributeError") [XE msg t])[7]?=some (.int 0 0):=rfl;have u:∀b o,h.get? b=some o->((h.push {cls:=XC "tuple",data:=YT #[XE msg t]}).push {cls:=XC "AttributeError",data:=Ua (#[Xn h.objs.size,Xu,Xu,Xu,Y8 false,fm]++YR (XC "AttributeError") [XE msg t])}).get? b=some o/\b<(h.push {cls:=XC "tuple",data:=YT #[XE msg t]}).objs.size:=fun b o e=>
  ⟨Xr _ (Xr _ e),by rw[Zk];exact Uy (Xv e)⟩
 generalize(h.push {cls:=XC "tuple",data:=YT #[XE msg t]}).objs.size=ea at*;generalize((h.push {cls:=XC "tuple",data:=YT #[XE msg t]}).push {cls:=XC "AttributeError",data:=Ua (#[Xn h.objs.size,Xu,Xu,Xu,Y8 false,fm]++YR (XC "AttributeError") [XE msg t])})=h2 at*;generalize hvs:#[Xn h.objs.size,Xu,Xu,Xu,Y8 false,fm]++YR (XC "AttributeError") [XE msg t]=m at*;refine X1 (Vk j ?_);dsimp only;rw[r,p];simp only[VD,Yj,if_false];rw[if_neg (by decide)]
 refine X7 ?_;simp only[if_true];have y:(⟨h2,g,d,t+1+1,os⟩:X2).TypeIs (.ref ea) "AttributeError":=⟨_,j,rfl⟩;refine X1 (Ut ?_);refine X1 (ZA y ?_);dsimp only;unfold layMembers;refine X1 (Vk j ?_);dsimp only;refine wpAny_update j ?_;unfold raiseNew;refine X1 (wpAny_handled ?_);rw[f];show X3 _ _ (throw (Xn ea)) _ _ _;have z:=UV (Em fun m=>m.extract 0 6++#[XE (Yd "keys") (t+1),Xn a]) j (Ek (CH rfl _));refine wpAny_throw (q ea _ _ (λb o e=>?_) ⟨_,z,El ..⟩);have:=u b o e;exact(Vz _ _ (UW this.2)).trans this.1
theorem _ln(l:h.get? a=some (⟨.type "tuple",none,.seq its n,sl⟩))(y:A.handled=none)
  (z:∀e h' t',(∀b o,h.get? b=some o->h'.get? b=some o)->(∃o,h'.get? e=some o/\o.cls=.type "AttributeError")->E (.ref e) ⟨h',g,d,t',os⟩):
  X3 (X6 prog w) A (getAttrBy (.ref a) (.str "keys" tk) false) Q E ⟨h,g,d,t,os⟩:=by
 have m:(⟨h,g,d,t,os⟩:X2).TypeIs (.ref a) "tuple":=⟨_,l,rfl⟩;have c:=CB.lookup;have f:=CB.bind (.ref a)
 repeat (any_goals (first|assumption|wp_step))
 refine Wo CB.plain F.entry_tuple_ga (CB.check _ _ _ _ _ _ _ _ m (F.args_tuple_getattribute_2 _ _) (_g9 l (by simp[y]) λe h' t' k u=>?_))
 have j:(⟨h',g,d,t',os⟩:X2).TypeIs (.ref e) "AttributeError":=u;show X3 _ _ (C0 _ _ _ _ _ _ _) _ _ _;unfold C0;refine X1 (Us j VS ?_);simp only[if_true];unfold hookBehind onTheHeap;simp only[Yj,if_false];rw[_dT];refine X1 (X7 ?_);unfold hookOrError attributeErrorLeaves;simp only[Cp,if_true];exact X1 (wpAny_throw (z e h' t' k u))
theorem _hQ(l:s.heap.get? a=some (⟨.type "tuple",none,.seq its n,sl⟩))(u:A.handled=none)
  (y:∀h' t',(∀b o,s.heap.get? b=some o->h'.get? b=some o)->Q none {s with heap:=h',toks:=t'}):X3 (X6 prog w) A (getAttr? (.ref a) "keys") Q E s:=by
 obtain⟨h,g,d,t,os⟩:=s;unfold getAttr? getAttrBy? mkText;refine X1 (X1 (wpAny_fresh (X7 ?_)));refine X1 (wpAny_attempt (_ln l u λe h' t' k z=>?_));have j:(⟨h',g,d,t',os⟩:X2).TypeIs (.ref e) "AttributeError":=z;refine X1 (Us j VS ?_);simp only[if_true];exact X7 (y h' t' k)
end
section
variable{prog:Xw}{w:Xm}{A:Xz}{E:X0->X2->Prop}{s:X2}{K:Type} [DecidableEq K] {knd:KeyKind prog w K}
theorem _i9{items:Array X0}(B:A.handled=none)(C:s.heap.get? l=some (⟨.type "tuple",none,.seq items nl,sl⟩))(M:items.size<=sizeLine)
  (S:∀(j:Nat)v,items[j]?=some v->∃q P T c,v=.ref q/\s.heap.get? q=some c/\c.cls=.type "tuple"/\c.data=.seq #[P,vs j] T/\knd.is (ks j) P=true)
  (h:∀h' tk,h'.DictOf knd s.heap.objs.size (stTo ks vs items.size)->(∀b o,b<s.heap.objs.size->s.heap.get? b=some o->h'.get? b=some o)->Q (.ref s.heap.objs.size) {s with heap:=h',toks:=tk}):
  X3 (X6 prog w) A (call (.type "dict") [.ref l]) Q E s:=by
 refine callType_codes (Q₁:=fun f m=>f=.ref s.heap.objs.size/\m={s with heap:=s.heap.push {cls:=.type "dict",data:=.dict #[]} }) F.kt_called_dict (F.kt_typeCall_dict_1 _) F.entry_dict_init (kt_code_dict_new _ ⟨rfl,rfl⟩) ?_;rintro f m ⟨rfl,rfl⟩;have u:(s.heap.push {cls:=.type "dict",data:=.dict #[]}).DictOf knd s.heap.objs.size []:=Iw s.heap;have g:(s.heap.push {cls:=.type "dict",data:=.dict #[]}).get? l=some (⟨.type "tuple",none,.seq items nl,sl⟩):=Xr _ C;have X:WK {s with heap:=s.heap.push {cls:=.type "dict",data:=.dict #[]} } (.ref l) "tuple":=⟨_,g,rfl⟩;refine⟨u.typeIs,F.args_dict_init_2 _ _,?_⟩;unfold Builtin.«dict.__init__»;refine X1 ?_;unfold HV;refine X1 (BY u.typeIs ?_);show X3 _ _ (pure (s.heap.objs.size,[Xn l])) _ _ _;refine X7 ?_;show X3 _ _ (CA "dict.__init__" s.heap.objs.size (.ref l) [] .none) _ _ _;unfold CA;refine X1 (ZA X ?_);rw[if_pos (by decide)]
 refine X1 (_hQ (s:={s with heap:=s.heap.push {cls:=.type "dict",data:=.dict #[]} }) g (by simp[B]) fun d H z=>?_)
 simp only[Option.isNone_none,if_true];refine X1 (Ut ?_);have U:d.get? l=some (⟨.type "tuple",none,.seq items nl,sl⟩):=z _ _ g;have p:d.IsTuple l items:=⟨_,U,rfl,nl,rfl⟩;have L:l<s.heap.objs.size:=Xv C;have y:s.heap.objs.size<d.objs.size:=by
  obtain⟨o,D,G,W,_⟩:=u;exact Xv (z _ _ W)
 refine X1 (wpAny_pyIter_tuple (s:={s with heap:=d,toks:=H}) p ?_);have N:l≠d.objs.size:=XB (UX L y);refine X7 ⟨Ze WY _,?_⟩;refine JJ (knd:=knd) (n:=items.size) ((Walks.tuple (A:=A.in1.in1) (by simp[B]) d.objs.size l N items).toS) s.heap.objs.size ?_ ks vs M items.size 0 _ rfl (YS _)
  ⟨⟨_,XS _ rfl,rfl,rfl⟩,p.push _⟩ ?_ ?_ ?_
 .simp only[Xk,XJ,or_false,not_or];exact⟨XB y,UW L⟩
 .obtain⟨o,D,G,W,r⟩:=u;exact⟨o,D,G,Xr _ (z _ _ W),r⟩
 .intro j v i;obtain⟨q,P,T,c,rfl,I,x⟩:=S j v i;have O:q<s.heap.objs.size:=Xv I;refine⟨q,P,T,c,rfl,XB O,?_,Xr _ (z _ _ (Xr _ I)),x⟩;simp only[Y6];exact XB (UX O y)
 .intro a R hd;obtain⟨h',g',d',Y,Z⟩:=a;have eg:g'=s.gens:=R.gens;have ed:d'=s.drawn:=R.drawn;have eo:Z=s.os:=R.os;subst eg;subst ed;subst eo;refine⟨rfl,h h' Y hd λb o J e=>?_⟩;refine R.heap b o ?_ (Xr _ (z _ _ (Xr _ e)));simp only[Xk,XJ,or_false,not_or];exact⟨XB J,XB (UX J y)⟩
end
section
variable{X:Cx}
theorem _gy(f:X.calm=true):Yw X (.type "dict") (fun xs H Q=>∃(a:Addr) (ps:List (Key×V)) (Y:List V),xs=[.ref a]/\H a=some (.tup Y)/\ED H ps Y/\∀p,H p=none->Q (.ref p) (upd H p (.dK (ZM ps)))):=by
 intro pq s σ H xs us Q I r h;obtain⟨a,ps,Y,rfl,ha,D,q⟩:=h;obtain⟨u,rfl,ru⟩:=_n r;cases ru;obtain⟨x,l,E,⟨ol,hl,F,nl,G⟩,ol2,R,J⟩:=(show ObjOk X.prog X.w H s.heap a (.tup Y)from I.hok a _ ha);have hh:=I.ok.hd f;rw[hl]at R;cases R;obtain⟨lc,ldc,ld,lsl⟩:=ol;cases F;cases G;cases J;have T:l.length=ps.length:=by rw[<-E.length,D.length]
 have g:∀(j:Nat)v,l.toArray[j]?=some v->∃q d Z O m,v=.ref q/\s.heap.get? q=some m/\m.cls=.type "tuple"/\m.data=.seq #[d,Z] O/\∃p,ps[j]?=some p/\RelV (kV p.1) d/\RelV p.2 Z:=fun j v U=>by
  have L:l[j]?=some v:=by simpa using U
  obtain⟨y,hy,ry⟩:=Paired.at E j v L;obtain⟨p,w,q,rfl,hq⟩:=Paired.at D j y hy;cases ry;obtain⟨_,ts,rt,ht⟩:=(show ObjOk X.prog X.w H s.heap q (.tup [kV p.1,p.2])from I.hok q _ hq);obtain⟨d,Z,rfl,A,B⟩:=VO rt;obtain⟨m,ho,hc,n,C⟩:=ht.1;exact⟨q,d,Z,n,m,rfl,ho,hc,C,p,w,A,B⟩
 obtain⟨P,W⟩:∃P:Nat->X0,∀(j:Nat)v,l.toArray[j]?=some v->∃q d O m,v=.ref q/\s.heap.get? q=some m/\m.cls=.type "tuple"/\m.data=.seq #[d,P j] O/\∃p,ps[j]?=some p/\RelV (kV p.1) d/\RelV p.2 (P j):=by
  refine⟨λj=>if h:j<l.length then(g j l[j] (by simp[h])).choose_spec.choose_spec.choose else .none,λj v U=>?_⟩
  have L:l[j]?=some v:=by simpa using U
  obtain⟨hj,rfl⟩:=XF.mp L;dsimp only;rw[dif_pos hj];have z:=(g j l[j] (by simp[hj]))
  exact⟨z.choose,z.choose_spec.choose,z.choose_spec.choose_spec.choose_spec⟩
 refine _i9 (knd:=YJ X.prog X.w) (ks:=λj=>(ps.getD j (.inl 0,.non)).1) (vs:=P) hh hl (by simpa [<-E.length]using x) (λj v U=>?_) λh' tk C hk=>?_
 .obtain⟨q,d,O,m,e1,e2,e3,e4,p,w,A,B⟩:=W j v U;refine⟨q,d,O,m,e1,e2,e3,e4,V4 ?_⟩;rw[Yf,w];exact A
 have kv:∀i,i<=ps.length->KV ((ps.take i).foldl (λc z=>putK c z.1 z.2) []) (stTo (λj=>(ps.getD j (.inl 0,.non)).1) P i):=by
  intro i
  induction i with
  |zero=>intro _;exact .nil
  |succ i ih=>
   intro hi;have M:i<l.length:=by lia
   obtain⟨q,d,O,m,e1,e2,e3,e4,p,w,A,B⟩:=W i l[i] (by simp[M])
   rw[U1,w,Eo,DV];show KV (putK _ p.1 p.2) (stored _ (ps.getD i (.inl 0,.non)).1 _);have ek:(ps.getD i (.inl 0,.non)).1=p.1:=by rw[Yf,w];rfl
   rw[ek];exact(ih (by lia)).put p.1 B
 have N:=kv ps.length (Xe _);rw[DX]at N;have S:l.toArray.size=ps.length:=by simp[T]
 rw[S]at C;have hpl:ps.length<=sizeLine:=by rw[D.length];exact x
 have zl:(ZM ps).length<=sizeLine:=by
  have:=N.length;have l2:=CZ (λj=>(ps.getD j (.inl 0,.non)).1) P ps.length;unfold ZM;lia
 exact⟨.ref s.heap.objs.size,_,I.laid (a:=s.heap.objs.size) (o:=.dK (ZM ps)) (t':=tk) (λb u e=>hk b u (Xv e) e) (Xe _) (CS zl (beq_eq_false_iff_ne.mpr (XT (XB I.big))) N C),rfl,q _ (I.hok.fresh (Xe _))⟩
end
theorem JM:∀{xs:List V} {vs:List X0},xs.length=vs.length->(∀(j:Nat)x v,xs[j]?=some x->vs[j]?=some v->RelV x v)->Vals xs vs
 |[],[],_,_=>.nil
 |[],_::_,h,_=>by cases h
 |_::_,[],h,_=>by cases h
 |x::xs,v::vs,h,r=>.cons (r 0 x v rfl rfl) (JM (by simpa using h) λj a b l u=>r (j+1) a b (by simpa using l) (by simpa using u))
theorem _gf(h:ItemsOf (λi v=>∃t,v=.int (0+i*1) t) acc n):Vals ((Xt n).map λi=>V.int (i:Nat)) acc.toList:=by
 refine JM (by rw[Xd,Uu,Yq];exact h.1.symm) λj x v l u=>?_
 obtain⟨t,rfl⟩:=h.2 j v (by simpa using u)
 rw[Xq]at l;cases e:(Xt n)[j]? with
 |none=>rw[e]at l;cases l
 |some k=>
  rw[e]at l;have w:k=j:=by
   have:=XF.mp e;obtain⟨_,z⟩:=this
   simpa using z.symm
  subst w;cases l;exact⟨t,by rw[WG,Int.mul_one]⟩
section
variable{X:Cx}{tg:Expr}
theorem _k8(j:X.calm=true):WX X (.type "list") (.type "range") (fun x H Q=>∃n:Nat,x=.int n/\n<=1000000/\∀p,H p=none->Q (.ref p) (upd H p (.lst ((Xt n).map fun i=>V.int (i:Nat))))):=by
 intro N s O H x u Q I y h;obtain⟨n,rfl,z,q⟩:=h;obtain⟨t,rfl⟩:=y;refine call_range_1 ?_;have m:((Xt n).map λi=>V.int (i:Nat)).length<=sizeLine:=by rw[Xd,Uu];exact XY z (by decide)
 have g:=I.ok.hd j;refine call_list_range (n:=n) g (IsRange.new ..) ?_ ?_ (by lia) λd c l f r e L=>?_
 .exact small_one (by decide) (by decide) (by lia) (by lia)
 .rw[rangeSize_one];split<;>lia
 have w:=I.kept (h':=s.heap.push {cls:=.type "range",data:=.fields #[.int 0 s.toks,.int (n:Int) t,.int 1 (s.toks+1)]}) (t':=s.toks+1+1) fun b o e=>Xr _ e;exact⟨.ref _,_,w.laid (t':=c) r (Xe _) (show ObjOk X.prog X.w _ d _ (.lst ((Xt n).map λi=>V.int (i:Nat)))from⟨m,l.toList,f,_gf L,by simpa using e⟩),rfl,q _ (w.hok.fresh (Xe _))⟩
theorem _iU{x y:Str}{id T:String}{r:V->Hp->VK->Prop}{e:Expr}{t:TE}{p p' pos pos':Pos}(L:WX X (.type id) (.type T) r)
  (N:Gl X x)(O:X.mg x=none)(P:YB x=some (.type id))(w:Gl X y)(z:X.mg y=none)(m:YB y=some (.type T))(R:PE X e t)
  (U:x≠"__name__")(g:(x==("__debug__":Str))=false)(d:y≠"__name__")(j:(y==("__debug__":Str))=false)
  (f:XA [e] X.env=(false,eval e X.env)::XA [] X.env):
  PE X (.Call (.Name x p) [.Call (.Name y p') [e] [] pos'] [] pos) (λl H Q=>t l H λv c=>r v c Q):=by
 intro q s l H Q I h;refine Up (UC I N O P ?_ U g);refine WH ?_ rfl rfl;show X3 _ _ (spliced ((false,eval (.Call (.Name y p') [e] [] pos') X.env)::XZ pos (XA [] X.env))) _ _ s;refine WI ?_;refine Up (UC I w z m ?_ d j);refine WH ?_ f rfl;rw[f];show X3 _ _ (spliced ((false,eval e X.env)::XZ pos' (XA [] X.env))) _ _ s;refine WI (thn (R q s l H _ I h) λu W ⟨v,c,Y,Z,A⟩=>?_);refine WJ ?_;exact thn (L q W l c v u Q Y Z A) λC D B=>WJ B
end
section
variable{prog:Xw}{w:Xm}{A:Xz}{R:Result->X2->Prop}{I:Addr}{fp wr:List Addr}{n:Nat}{P:Nat->X0->Prop}{St:Nat->Heap->Prop}
end
section
variable{prog:Xw}{w:Xm}{A:Xz}{E:X0->X2->Prop}{s:X2}
end
section
variable{X:Cx}{x k:Str}{p pos kp:Pos}{e e0:Expr}{te:TE}
end
end L2
namespace HT
open PySem PySem.Spec PyProof.Rows
section
variable{prog:Xw}{w:Xm}{A:Xz}{E:X0->X2->Prop}{s:X2}
theorem tup_whole{t:Addr}{items:Array X0}{lo:Option Int}(z:IsTup s.heap t items)(m:s.heap.IsSliceOf sl vl vu .none)(pl:IsPart vl lo)(g:IsPart vu hi)
  (d:sIx items.size 0 lo=0)(h1:sIx items.size items.size hi=items.size)(h:Q (.ref t) s):X3 (X6 prog w) A (getItem (.ref t) (.ref sl)) Q E s:=by
 obtain⟨os,l,u,c⟩:=id m;have y:s.TypeIs (.ref sl) "slice":=⟨os,l,u⟩;have j:=z.typeIs;unfold getItem
 try with_reducible refine YH ?_
 first|refine X1 (X7 ?_)|skip
 refine X1 (wpAny_sequenceKey j (by decide) ?_)
 refine X1 (BV (name:=Yd "__getitem__") j VH (Zd VH j entry_tuple_getitem ?_ (args_tuple_getitem _ _)));show X3 _ _ (HM (.ref t)>>= _) _ _ s;refine X1 (tupleItemsOf_ z ?_);refine X1 (ZA y ?_);rw[if_pos (by decide)]
 refine X1 (J0 m pl g ?_);rw[d,h1];show X3 _ _ (if(((0:Nat):Int)==0&&(1:Int)==1&&(items.size - 0)==items.size)=true then _ else _) _ _ s;rw[if_pos (by simp)]
 refine X1 ?_;show X3 _ _ (HP (.ref t)) _ _ s;unfold HP;refine X1 (ZA j (X7 ?_));rw[if_pos (by decide)]
 exact X1 (Ut (X7 ⟨_,rfl,X7 h⟩))
end
end HT
namespace L2
open PySem PySem.Spec PyProof.Rows
section
variable{X:Cx}
def rSlW(K:X4):V->Option Int->Option Int->Hp->VK->Prop:=λx lo l H Q=>∃a j,x=.ref a/\SqT K H a j/\HT.sIx j.length 0 lo=0/\HT.sIx j.length j.length l=j.length/\Q (.ref a) H
theorem _mV:SlR X (rSlW X.K):=by
 intro p s e H x v L N lo O P Q I w y z m h;obtain⟨a,g,rfl,d,c,f,q⟩:=h;cases w;obtain⟨l,r,u,R⟩:=I.tuple d;have j:l.toArray.size=g.length:=by rw[XR];exact r.length.symm
 refine⟨"tuple",_,VH.lookup,u.typeIs,?_⟩;exact HT.tup_whole u y z m (by rw[j];exact c) (by rw[j];exact f) ⟨.ref a,H,I,rfl,q⟩
end
noncomputable def st3{j:Type}(xs:List j):List j:=(Xt ((xs.length+2)/3)).filterMap λk=>xs[3*k]?
section
variable{X:Cx}{e e3:Expr}{te:TE}{p2 pos:Pos}
end
section
variable{X:Cx}
end
inductive Ty7 where|int|bool|str|list|tuple|dict|none
  deriving DecidableEq
noncomputable def Ty7.name:Ty7->String
 |.int=>"int"|.bool=>"bool"|.str=>"str"|.list=>"list"|.tuple=>"tuple"|.dict=>"dict"|.none=>"NoneType"
inductive MV where
 |non|bl (b:Bool)|int (i:Int)|str (x:Str)|tup (xs:List MV)|frl (xs:List MV)|ref (a:Addr)|ty (n:Ty7)
noncomputable def JN:HO->Bool
 |.tup _=>true
 |.frz _ (.lst _)=>true
 |_=>false
def Kp(H j:Hp):Prop:=∀a o,H a=some o->JN o=true->j a=some o
theorem Kp.refl(H:Hp):Kp H H:=λ_ _ h _=>h
theorem Kp.trans(a:Kp H H1)(b:Kp H1 H2):Kp H H2:=λc o h f=>b c o (a c o h f) f
theorem Kp.new{H:Hp}{p:Addr}(h:H p=none)(o:HO):Kp H (upd H p o):=λa u e _=>by rw[XN (V2 e h)];exact e
theorem Kp.upd{H:Hp}{p:Addr}{o:HO}(h:H p=some o)(f:JN o=false)(j:HO):Kp H (upd H p j):=λa u e g=>by
 rw[XN (Ix e h (by intro z;rw[z,f]at g;cases g))];exact e
def FrL(K:X4)(H:Hp)(a:Addr)(vs:List V):Prop:=(∃o,H a=some (.frz o (.lst vs)))\/
 ∃(o:Obj) (j:Array X0) (n:Nat),K.lookup a=some o/\o.cls=.type "list"/\o.dict=none/\o.data=.seq j n/\j.size<=sizeLine/\Vals vs j.toList
theorem FrL.sq{K:X4}(h:FrL K H a vs):SqL K H a vs:=by
 rcases h with⟨o,h⟩|h
 .exact .inl (.inr ⟨o,h⟩)
 .exact .inr h
mutual
inductive RM (K:X4)(H:Hp):MV->V->Prop
 |non:RM K H .non .non
 |bl (b:Bool):RM K H (.bl b) (.bl b)
 |int (i:Int):RM K H (.int i) (.int i)
 |str (x:Str):RM K H (.str x) (.str x)
 |ref (a:Addr):RM K H (.ref a) (.ref a)
 |ty (n:Ty7):RM K H (.ty n) (.ty n.name)
 |tup {a:Addr} {xs:List MV} {vs:List V}:H a=some (.tup vs)->RMs K H xs vs->RM K H (.tup xs) (.ref a)
 |frl {a:Addr} {xs:List MV} {vs:List V}:FrL K H a vs->RMs K H xs vs->RM K H (.frl xs) (.ref a)
inductive RMs (K:X4)(H:Hp):List MV->List V->Prop
 |nil:RMs K H [] []
 |cons {x:MV} {v:V} {xs:List MV} {vs:List V}:RM K H x v->RMs K H xs vs->RMs K H (x::xs) (v::vs)
end
mutual
theorem RM.mono{K:X4}(k:Kp H H'):∀{m:MV} {v:V},RM K H m v->RM K H' m v
 |_,_,.non=>.non
 |_,_,.bl b=>.bl b
 |_,_,.int i=>.int i
 |_,_,.str x=>.str x
 |_,_,.ref a=>.ref a
 |_,_,.ty n=>.ty n
 |_,_,.tup h r=>.tup (k _ _ h rfl) (RMs.mono k r)
 |_,_,.frl h r=>.frl (by
   rcases h with⟨o,h⟩|h
   .exact .inl ⟨o,k _ _ h rfl⟩
   .exact .inr h) (RMs.mono k r)
theorem RMs.mono{K:X4}(k:Kp H H'):∀{m:List MV} {v:List V},RMs K H m v->RMs K H' m v
 |_,_,.nil=>.nil
 |_,_,.cons a b=>.cons (RM.mono k a) (RMs.mono k b)
end
def ZsA(K:X4)(H:Hp)(v:V):MV->Prop
 |.non=>v=.non
 |.bl b=>v=.bl b
 |.int i=>v=.int i
 |.str x=>v=.str x
 |.tup xs=>∃a j,v=.ref a/\H a=some (.tup j)/\RMs K H xs j
 |.frl xs=>∃a j,v=.ref a/\FrL K H a j/\RMs K H xs j
 |.ref a=>v=.ref a
 |.ty n=>v=.ty n.name
theorem RM.inv{K:X4}{H:Hp}{m:MV}{v:V}(r:RM K H m v):ZsA K H v m:=by
 cases r with
 |tup h q=>exact⟨_,_,rfl,h,q⟩
 |frl h q=>exact⟨_,_,rfl,h,q⟩
 |_=>rfl
def ZqX(K:X4)(H:Hp)(vs:List V):List MV->Prop
 |[]=>vs=[]
 |x::xs=>∃v j,vs=v::j/\RM K H x v/\RMs K H xs j
theorem RMs.inv{K:X4}{H:Hp}{m:List MV}{v:List V}(r:RMs K H m v):ZqX K H v m:=by
 cases r with
 |nil=>rfl
 |cons a b=>exact⟨_,_,rfl,a,b⟩
theorem RMs.length{K:X4}:∀{m:List MV} {v:List V},RMs K H m v->m.length=v.length
 |_,_,.nil=>rfl
 |_,_,.cons _ b=>by rw[YD,YD,b.length]
theorem RMs.get{K:X4}:∀{m:List MV} {v:List V} {i:Nat} {x:MV},RMs K H m v->m[i]?=some x->∃u,v[i]?=some u/\RM K H x u
 |_,_,_,_,.nil,e=>by simp at e
 |_,_,0,_,.cons r _,e=>by simp at e;subst e;exact⟨_,rfl,r⟩
 |_,_,i+1,x,.cons _ t,e=>by
  obtain⟨u,j,l⟩:=RMs.get (i:=i) (x:=x) t (by simpa using e)
  exact⟨u,by simpa using j,l⟩
theorem RMs.get'{K:X4}:∀{m:List MV} {v:List V} {i:Nat} {u:V},RMs K H m v->v[i]?=some u->∃x,m[i]?=some x/\RM K H x u
 |_,_,_,_,.nil,e=>by simp at e
 |_,_,0,_,.cons r _,e=>by simp at e;subst e;exact⟨_,rfl,r⟩
 |_,_,i+1,x,.cons _ t,e=>by
  obtain⟨u,j,l⟩:=RMs.get' (i:=i) (u:=x) t (by simpa using e)
  exact⟨u,by simpa using j,l⟩
theorem RMs.append{K:X4}:∀{m j:List MV} {v l:List V},RMs K H m v->RMs K H j l->RMs K H (m++j) (v++l)
 |_,_,_,_,.nil,s=>s
 |_,_,_,_,.cons r t,s=>.cons r (t.append s)
theorem RMs.take{K:X4}:∀{m:List MV} {v:List V} (n:Nat),RMs K H m v->RMs K H (m.take n) (v.take n)
 |_,_,0,_=>.nil
 |_,_,_+1,.nil=>.nil
 |_,_,n+1,.cons r t=>.cons r (t.take n)
theorem RMs.drop{K:X4}:∀{m:List MV} {v:List V} (n:Nat),RMs K H m v->RMs K H (m.drop n) (v.drop n)
 |_,_,0,r=>r
 |_,_,_+1,.nil=>.nil
 |_,_,n+1,.cons _ t=>t.drop n
theorem RMs.set{K:X4}(r:RM K H x u):∀{m:List MV} {v:List V} (i:Nat),RMs K H m v->RMs K H (m.set i x) (v.set i u)
 |_,_,_,.nil=>.nil
 |_,_,0,.cons _ t=>.cons r t
 |_,_,i+1,.cons q t=>.cons q (t.set r i)
theorem RMs.rev{K:X4}{H:Hp}:∀{m:List MV} {v:List V},RMs K H m v->RMs K H m.reverse v.reverse
 |_,_,.nil=>.nil
 |_,_,.cons r t=>by rw[C5,C5];exact t.rev.append (.cons r .nil)
theorem RMs.ints{K:X4}:∀j:List Int,RMs K H (j.map MV.int) (j.map V.int)
 |[]=>.nil
 |n::r=>.cons (.int n) (RMs.ints r)
theorem RMs.map_of{K:X4}{H:Hp}{l:Type}{f:l->MV}{g:l->V}(u:∀a v,RM K H (f a) v->v=g a):∀{j:List l} {vs:List V},RMs K H (j.map f) vs->vs=j.map g:=by
 intro j
 induction j with
 |nil=>intro vs h;cases h;rfl
 |cons n r w=>
  intro vs h;have h:RMs K H (f n::r.map f) vs:=h;cases h with
  |cons x t=>rw[w t,u _ _ x];rfl
inductive MO where
 |lst (xs:List MV)|dic (kvs:List (Key×MV))|ins (c:Str)(fs:List (Str×MV))
 |fdic (o:Obj)(kvs:List (Key×MV))
noncomputable abbrev MH:=Addr->Option MO
noncomputable def updM(M:MH)(a:Addr)(o:MO):MH:=λb=>if b=a then some o else M b
theorem X9:updM M a o a=some o:=by unfold updM;rw[if_pos rfl]
theorem Xc(h:b≠a):updM M a o b=M b:=by unfold updM;rw[if_neg h]
theorem YF:updM (updM M a o) a u=updM M a u:=by funext b;unfold updM;split<;>rfl
inductive RKs {κ:Type} (K:X4)(H:Hp):List (κ×MV)->List (κ×V)->Prop
 |nil:RKs K H [] []
 |cons {k:κ} {x:MV} {v:V} {xs:List (κ×MV)} {vs:List (κ×V)}:RM K H x v->RKs K H xs vs->RKs K H ((k,x)::xs) ((k,v)::vs)
theorem RKs.mono{j:Type}{K:X4}(k:Kp H H'):∀{m:List (j×MV)} {v:List (j×V)},RKs K H m v->RKs K H' m v
 |_,_,.nil=>.nil
 |_,_,.cons a b=>.cons (a.mono k) (b.mono k)
theorem RKs.length{j:Type}{K:X4}:∀{m:List (j×MV)} {v:List (j×V)},RKs K H m v->m.length=v.length
 |_,_,.nil=>rfl
 |_,_,.cons _ b=>by rw[YD,YD,b.length]
section
variable{κ:Type} [DecidableEq κ]
noncomputable def valM(l:List (κ×MV))(k:κ):Option MV:=match l with
 |[]=>none
 |(j,v)::r=>if j=k then some v else valM r k
noncomputable def putM(l:List (κ×MV))(k:κ)(v:MV):List (κ×MV):=match l with
 |[]=>[(k,v)]
 |(j,u)::r=>if j=k then(j,v)::r else(j,u)::putM r k v
end
def RO(K:X4)(H:Hp):MO->HO->Prop
 |.lst xs,.lst vs=>RMs K H xs vs
 |.dic kvs,.dK vs=>RKs K H kvs vs/\(kvs.map (·.1)).Nodup
 |.ins c fs,.ins C _ vs=>Xy K Xp c=some (some (.ref C))/\RKs K H fs vs
 |.fdic o kvs,.frz o' (.dK vs)=>o=o'/\RKs K H kvs vs/\(kvs.map (·.1)).Nodup
 |_,_=>False
theorem RO.mono{K:X4}(k:Kp H H')(h:RO K H o u):RO K H' o u:=by
 cases o with
 |lst l=>cases u<;>first|exact RMs.mono k h|exact h.elim
 |dic j=>cases u<;>first|exact⟨h.1.mono k,h.2⟩|exact h.elim
 |ins c fs=>cases u<;>first|exact⟨h.1,h.2.mono k⟩|exact h.elim
 |fdic w j=>
  cases u with
  |frz y u=>cases u<;>first|exact⟨h.1,h.2.1.mono k,h.2.2⟩|exact h.elim
  |_=>exact h.elim
def RH(K:X4)(M:MH)(H:Hp):Prop:=∀a o,M a=some o->∃u,H a=some u/\RO K H o u
theorem RH.free{K:X4}(r:RH K M H)(h:H p=none):M p=none:=by
 cases e:M p with
 |none=>rfl
 |some o=>obtain⟨u,j,_⟩:=r p o e;rw[j]at h;cases h
theorem RH.lst{K:X4}(r:RH K M H)(h:M p=some (.lst xs)):∃vs,H p=some (.lst vs)/\RMs K H xs vs:=by
 obtain⟨u,l,j⟩:=r p _ h;cases u<;>try exact j.elim
 exact⟨_,l,j⟩
theorem RH.dic{K:X4}(r:RH K M H)(h:M p=some (.dic xs)):∃vs,H p=some (.dK vs)/\RKs K H xs vs/\(xs.map (·.1)).Nodup:=by
 obtain⟨u,l,j⟩:=r p _ h;cases u<;>try exact j.elim
 exact⟨_,l,j.1,j.2⟩
theorem RH.fdic{K:X4}(r:RH K M H)(h:M p=some (.fdic o xs)):∃vs,H p=some (.frz o (.dK vs))/\RKs K H xs vs/\(xs.map (·.1)).Nodup:=by
 obtain⟨u,l,j⟩:=r p _ h;cases u with
 |frz z u=>
  cases u<;>try exact j.elim
  obtain⟨rfl,w,y⟩:=j;exact⟨_,l,w,y⟩
 |_=>exact j.elim
theorem RH.ins{K:X4}(r:RH K M H){fs:List (Str×MV)}(h:M p=some (.ins c fs)):∃C l vs,H p=some (.ins C l vs)/\Xy K Xp c=some (some (.ref C))/\RKs K H fs vs:=by
 obtain⟨u,w,j⟩:=r p _ h;cases u<;>try exact j.elim
 exact⟨_,_,_,w,j.1,j.2⟩
theorem D0{K:X4}{H:Hp}{f:Str}:∀{m:List (Str×MV)} {v:List (Str×V)},RKs K H m v->(valM m f=none/\v.lookup f=none)\/∃x u,valM m f=some x/\v.lookup f=some u/\RM K H x u
 |_,_,.nil=>.inl ⟨rfl,rfl⟩
 |_,_,.cons (k:=j) (x:=x) (v:=u) r t=>by
  by_cases e:j=f
  .refine .inr ⟨x,u,?_,?_,r⟩
   .unfold valM;rw[if_pos e]
   .subst e;simp
  .have:=D0 (f:=f) t;have l:(f==j)=false:=by simpa using λz=>e z.symm
   unfold valM;rw[if_neg e,Zh,l];exact this
theorem JO{K:X4}{H:Hp}{f:Str}{x:MV}{u:V}(r:RM K H x u):∀{m:List (Str×MV)} {v:List (Str×V)},RKs K H m v->RKs K H (putM m f x) (putF f u v)
 |_,_,.nil=>.cons r .nil
 |_,_,.cons (k:=j) q t=>by
  unfold putM putF;by_cases e:j=f
  .rw[if_pos e,if_pos e];exact .cons r t
  .rw[if_neg e,if_neg e];exact .cons q (JO r t)
theorem RH.put{K:X4}(r:RH K M H)(k:Kp H (upd H p u))(j:RO K (upd H p u) o u):RH K (updM M p o) (upd H p u):=by
 intro a l e;by_cases h:a=p
 .subst h;rw[X9]at e;cases e;exact⟨u,_I,j⟩
 .rw[Xc h]at e;obtain⟨v,w,y⟩:=r a l e;exact⟨v,by rw[XN h];exact w,y.mono k⟩
theorem RH.kept{K:X4}{M:MH}{H:Hp}(r:RH K M H){p:Addr}(j:H p=none)(u:HO):RH K M (upd H p u):=by
 intro a w e;obtain⟨v,l,y⟩:=r a w e;exact⟨v,by rw[XN (V2 l j)];exact l,y.mono (Kp.new j u)⟩
noncomputable abbrev Sm:=List (Option MV)
abbrev QM:=MV->MH->Prop
abbrev TEm:=Sm->MH->QM->Prop
abbrev TAm:=Sm->MH->(List MV->MH->Prop)->Prop
noncomputable def RS(K:X4)(H:Hp)(j:Sm)(l:St):Prop:=j.length=l.length/\∀(i:Nat)(m:MV),j[i]?=some (some m)->∃v,l[i]?=some (some v)/\RM K H m v
theorem RS.mono{K:X4}(k:Kp H H')(h:RS K H σm σ):RS K H' σm σ:=⟨h.1,λi m e=>by
 obtain⟨v,j,r⟩:=h.2 i m e;exact⟨v,j,r.mono k⟩⟩
theorem RS.set{K:X4}(h:RS K H σm σ)(r:RM K H m v)(i:Nat):RS K H (σm.set i (some m)) (σ.set i (some v)):=by
 refine⟨by simp[h.1],λj x e=>?_⟩
 rw[Vs]at e;by_cases hij:i=j
 .subst hij;rw[if_pos rfl]at e;split at e
  .cases e;exact⟨v,by rw[Vs,if_pos rfl,if_pos (by rw[<-h.1];assumption)],r⟩
  .cases e
 .rw[if_neg hij]at e;obtain⟨u,l,w⟩:=h.2 j x e;exact⟨u,by rw[Vs,if_neg hij];exact l,w⟩
def Dn(K:X4)(H:Hp)(Q:VK):QM:=λm M=>∀v j,Kp H j->RM K j m v->RH K M j->Q v j
theorem Dn.on{K:X4}(k:Kp H H1)(h:Dn K H Q m M):Dn K H1 Q m M:=λv j l r u=>h v j (k.trans l) r u
def liE(K:X4)(t:TEm):TE:=λl H Q=>∃j M,RS K H j l/\RH K M H/\t j M (Dn K H Q)
def liA(K:X4)(t:TAm):TA:=λw H Q=>∃j M,RS K H j w/\RH K M H/\t j M (λy z=>∀u l,Kp H l->RMs K l y u->RH K z l->Q u l)
def MonE(t:TEm):Prop:=∀{j M} {Q l:QM},(∀m u,Q m u->l m u)->t j M Q->t j M l
def MonA(t:TAm):Prop:=∀{j M} {Q l:List MV->MH->Prop},(∀m u,Q m u->l m u)->t j M Q->t j M l
abbrev W1:=MV->MH->QM->Prop
abbrev W2:=MV->MV->MH->QM->Prop
abbrev WA:=List MV->MH->QM->Prop
def Mon1(w:W1):Prop:=∀{x M} {Q j:QM},(∀m l,Q m l->j m l)->w x M Q->w x M j
def Mon2(w:W2):Prop:=∀{x y M} {Q j:QM},(∀m l,Q m l->j m l)->w x y M Q->w x y M j
def MonW(w:WA):Prop:=∀{j M} {Q l:QM},(∀m u,Q m u->l m u)->w j M Q->w j M l
def li1(K:X4)(w:W1):V->Hp->VK->Prop:=λx H Q=>∃j M,RM K H j x/\RH K M H/\w j M (Dn K H Q)
def li2(K:X4)(w:W2):R2:=λx y H Q=>∃j l M,RM K H j x/\RM K H l y/\RH K M H/\w j l M (Dn K H Q)
def liW(K:X4)(w:WA):List V->Hp->VK->Prop:=λl H Q=>∃j M,RMs K H j l/\RH K M H/\w j M (Dn K H Q)
section
variable{K:X4}
theorem EE{ta tb:TEm}{w:W2}(q:MonE ta)(r:MonE tb)(p:Mon2 w){j:St}{H:Hp}{Q:VK}
  (h:liE K (λj M Q=>ta j M λx M1=>tb j M1 λy M2=>w x y M2 Q) j H Q):tOp (li2 K w) (liE K ta) (liE K tb) j H Q:=by
 obtain⟨l,M,d,e,h⟩:=h;refine⟨l,M,d,e,q (λx M1 L=>?_) h⟩;intro v T c N z;refine⟨l,M1,d.mono c,z,r (λy M2 O=>?_) L⟩;intro u U f P g;exact⟨x,y,M2,N.mono f,P,g,p (λm W R=>R.on (c.trans f)) O⟩
end
theorem PE.weak{t:TE}(h:PE X e t)(i:∀j H Q,t' j H Q->t j H Q):PE X e t':=λl s j H Q I q=>h l s j H Q I (i _ _ _ q)
theorem PT.weak{t:TT}(h:PT X e t)(i:∀j H Q,t' j H Q->t j H Q):PT X e t':=λl s j H Q I q=>h l s j H Q I (i _ _ _ q)
theorem PW.weak{t:TT}(h:PW X e t)(i:∀j H Q,t' j H Q->t j H Q):PW X e t':=λl u s j H Q I q=>h l u s j H Q I (i _ _ _ q)
theorem PA.weak{t:TA}(h:PA X e t)(i:∀j H Q,t' j H Q->t j H Q):PA X e t':=λl u s j H Q I q=>h l u s j H Q I (i _ _ _ q)
theorem PS.weak{t:TS}(h:PS X e t)(i:∀D j H,t' D j H->t D j H):PS X e t':=λl s j H D I q=>h l s j H D I (i _ _ _ q)
theorem PSs.weak{t:TS}(h:PSs X e t)(i:∀D j H,t' D j H->t D j H):PSs X e t':=λl s j H D I q=>h l s j H D I (i _ _ _ q)
noncomputable def intsM(k:Int->Int->Prop)(x y:MV):Prop:=match x,y with
 |.int i,.int j=>k i j
 |_,_=>False
theorem intsM.of{k:Int->Int->Prop}{x y:MV}(h:intsM k x y):∃i j,x=.int i/\y=.int j/\k i j:=by
 unfold intsM at h;split at h
 .exact⟨_,_,rfl,rfl,h⟩
 .exact h.elim
noncomputable def addM(x y:MV)(M:MH)(Q:QM):Prop:=match x,y with
 |.int i,.int j=>Q (.int (i+j)) M
 |.str i,.str j=>i.length+j.length<=sizeLine/\Q (.str (i++j)) M
 |.tup xs,.tup ys=>xs≠ []/\xs.length+ys.length<=sizeLine/\Q (.tup (xs++ys)) M
 |_,_=>False
def mulM(x y:MV)(M:MH)(Q:QM):Prop:=match x,y with
 |.int i,.int j=>CMul i j/\Q (.int (i*j)) M
 |.str z,.int i=>z.length<=16/\ -1000<=i/\i<=1000/\Q (.str (Txt.mul z i)) M
 |.tup l,.int k=>l≠ []/\1<=k/\l.length*k.toNat<=1000000/\Q (.tup (Xj k.toNat l).flatten) M
 |.ref a,.int k=>∃l,M a=some (.lst l)/\ -(2^63)<=k/\k<2^63/\l.length*k.toNat<=sizeLine/\∀p,M p=none->Q (.ref p) (updM M p (.lst (Xj k.toNat l).flatten))
 |_,_=>False
def wBin(op:Um)(x y:MV)(M:MH)(Q:QM):Prop:=match op with
 |.Add=>addM x y M Q
 |.Mult=>mulM x y M Q
 |.Sub=>intsM (λi j=>Q (.int (i - j)) M) x y
 |.FloorDiv=>intsM (λi j=>WU i j/\Q (.int (i/j)) M) x y
 |.Mod=>intsM (λi j=>0<j/\Q (.int (i%j)) M) x y
 |.Pow=>intsM (λi j=>CPow i j/\Q (.int (i^j.toNat)) M) x y
 |.BitAnd=>intsM (λi j=>Q (.int (CK i j)) M) x y
 |.BitXor=>intsM (λi j=>Q (.int (CL i j)) M) x y
 |_=>False
theorem _nW:Mon2 addM:=by
 intro x y M Q c j h;unfold addM at h ⊢;split at h
 all_goals first
  |exact j _ _ h
  |exact h.elim
  |exact⟨h.1,j _ _ h.2⟩
  |exact⟨h.1,h.2.1,j _ _ h.2.2⟩
  |(obtain⟨g,l,d,u,w,z⟩:=h
    exact⟨g,l,d,u,w,λp m=>j _ _ (z p m)⟩)
  |(obtain⟨l,u,w,z⟩:=h
    exact⟨l,u,w,λp m=>j _ _ (z p m)⟩)
theorem _nU:Mon2 mulM:=by
 intro x y M Q c j h;unfold mulM at h ⊢;split at h
 all_goals first
  |exact h.elim
  |exact⟨h.1,j _ _ h.2⟩
  |exact⟨h.1,h.2.1,h.2.2.1,j _ _ h.2.2.2⟩
  |(obtain⟨l,u,w,z,m,g⟩:=h
    exact⟨l,u,w,z,m,λp d=>j _ _ (g p d)⟩)
theorem JP(op:Um):Mon2 (wBin op):=by
 intro x y M Q u l h;cases op
 all_goals first
  |exact Y2 h
  |exact _nW l h
  |exact _nU l h
  |(obtain⟨i,j,rfl,rfl,h⟩:=intsM.of h
    exact l _ _ h)
  |(obtain⟨i,j,rfl,rfl,h⟩:=intsM.of h
    exact⟨h.1,l _ _ h.2⟩)
theorem RMs.rep{K:X4}(q:RMs K H xs vs):∀k:Nat,RMs K H (Xj k xs).flatten (Xj k vs).flatten
 |0=>.nil
 |k+1=>by
  rw[Z5,Z5,ZD,ZD];exact q.append (q.rep k)
section
variable{X:Cx}
set_option tactic.hygienic true in
theorem _nD:OpR X (Ym .Add) (li2 X.K addM):=by
 intro w s m H x y v u Q I g d h;obtain⟨U,W,M,c,f,j,h⟩:=h;unfold addM at h;split at h
 .obtain rfl:=c.inv;obtain rfl:=f.inv;exact TJ w s m H _ _ v u Q I g d ⟨_,_,rfl,rfl,h _ _ (Kp.refl _) (.int _) j⟩
 .obtain rfl:=c.inv;obtain rfl:=f.inv;exact _hG w s m H _ _ v u Q I g d ⟨_,_,rfl,rfl,h.1,h.2 _ _ (Kp.refl _) (.str _) j⟩
 .rename_i Y Z
  obtain⟨_,_,rfl,e,l⟩:=c.inv
  rename_i a L
  cases f with
  |tup P q=>
   rename_i b N
   obtain⟨R,T,r⟩:=h;refine _nC w s m H _ _ v u Q I g d ⟨_,_,L,N,rfl,rfl,SqT.of e,SqT.of P,λz=>R ?_,by rw[<-l.length,<-q.length];exact T,λz=>?_,λz p O=>?_⟩
   .subst z;cases l;rfl
   .subst z;cases q;rw[Vu]at r;exact r _ _ (Kp.refl _) (.tup e l) j
   .have k:=Kp.new O (.tup (L++N));exact r _ _ k (.tup _I ((l.append q).mono k)) (j.kept O _)
 .exact h.elim
set_option tactic.hygienic true in
theorem _nA:OpR X (Ym .Mult) (li2 X.K mulM):=by
 intro d s c H x y v u Q I f q h;obtain⟨Z,A,M,r,L,j,h⟩:=h;unfold mulM at h;split at h
 .obtain rfl:=r.inv;obtain rfl:=L.inv;exact TL d s c H _ _ v u Q I f q ⟨_,_,rfl,rfl,h.1,h.2 _ _ (Kp.refl _) (.int _) j⟩
 .obtain rfl:=r.inv;obtain rfl:=L.inv;exact _nz d s c H _ _ v u Q I f q ⟨_,_,rfl,rfl,h.1,h.2.1,h.2.2.1,h.2.2.2 _ _ (Kp.refl _) (.str _) j⟩
 .rename_i O k
  obtain rfl:=L.inv;obtain⟨_,_,rfl,N,l⟩:=r.inv
  rename_i a m
  obtain⟨P,R,T,U⟩:=h;refine _ny d s c H _ _ v u Q I f q ⟨_,_,m,rfl,rfl,SqT.of N,λz=>P ?_,R,by rw[<-l.length];exact T,λz=>?_,λz p g=>?_⟩
  .subst z;cases l;rfl
  .subst z;have e:(Xj (1:Int).toNat O).flatten=O:=by simp
   rw[e]at U;exact U _ _ (Kp.refl _) (.tup N l) j
  .have w:=Kp.new g (.tup (Xj k.toNat m).flatten);exact U _ _ w (.tup _I ((l.rep k.toNat).mono w)) (j.kept g _)
 .rename_i a k
  obtain rfl:=r.inv;obtain rfl:=L.inv;obtain⟨O,N,W,P,R,T⟩:=h;obtain⟨m,Y,l⟩:=j.lst N;refine _q5 d s c H _ _ v u Q I f q ⟨_,_,m,rfl,rfl,Y,W,P,by rw[<-l.length];exact R,λp g=>?_⟩
  have w:=Kp.new g (.lst (Xj k.toNat m).flatten);exact T p (j.free g) _ _ w (.ref p) (j.put w ((l.rep k.toNat).mono w))
 .exact h.elim
theorem _qa(op:Um):OpR X (Ym op) (li2 X.K (wBin op)):=by
 cases op with
 |Add=>exact _nD
 |Mult=>exact _nA
 |Sub=>
  intro l s w H x y v u Q I z m h;obtain⟨f,q,M,g,d,c,h⟩:=h;obtain⟨i,j,rfl,rfl,h⟩:=intsM.of h;obtain rfl:=g.inv;obtain rfl:=d.inv;exact TK l s w H _ _ v u Q I z m ⟨_,_,rfl,rfl,h _ _ (Kp.refl _) (.int _) c⟩
 |FloorDiv=>
  intro l s w H x y v u Q I z m h;obtain⟨f,q,M,g,d,c,h⟩:=h;obtain⟨i,j,rfl,rfl,h⟩:=intsM.of h;obtain rfl:=g.inv;obtain rfl:=d.inv;exact _lb l s w H _ _ v u Q I z m ⟨_,_,rfl,rfl,h.1,h.2 _ _ (Kp.refl _) (.int _) c⟩
 |Mod=>
  intro l s w H x y v u Q I z m h;obtain⟨f,q,M,g,d,c,h⟩:=h;obtain⟨i,j,rfl,rfl,h⟩:=intsM.of h;obtain rfl:=g.inv;obtain rfl:=d.inv;exact TM l s w H _ _ v u Q I z m ⟨_,_,rfl,rfl,h.1,h.2 _ _ (Kp.refl _) (.int _) c⟩
 |Pow=>
  intro l s w H x y v u Q I z m h;obtain⟨f,q,M,g,d,c,h⟩:=h;obtain⟨i,j,rfl,rfl,h⟩:=intsM.of h;obtain rfl:=g.inv;obtain rfl:=d.inv;exact TN l s w H _ _ v u Q I z m ⟨_,_,rfl,rfl,h.1,h.2 _ _ (Kp.refl _) (.int _) c⟩
 |BitAnd=>
  intro l s w H x y v u Q I z m h;obtain⟨f,q,M,g,d,c,h⟩:=h;obtain⟨i,j,rfl,rfl,h⟩:=intsM.of h;obtain rfl:=g.inv;obtain rfl:=d.inv;exact TQ l s w H _ _ v u Q I z m ⟨_,_,rfl,rfl,h _ _ (Kp.refl _) (.int _) c⟩
 |BitXor=>
  intro l s w H x y v u Q I z m h;obtain⟨f,q,M,g,d,c,h⟩:=h;obtain⟨i,j,rfl,rfl,h⟩:=intsM.of h;obtain rfl:=g.inv;obtain rfl:=d.inv;exact TR l s w H _ _ v u Q I z m ⟨_,_,rfl,rfl,h _ _ (Kp.refl _) (.int _) c⟩
 |_=>
  intro l s w H x y v u Q I z m h;obtain⟨_,_,_,_,_,_,h⟩:=h;exact Y2 h
end
noncomputable def eqS(x y:MV):Option Bool:=match x with
 |.int i=>(match y with|.int j=>some (decide (i=j))|.non=>some false|.str _=>some false|_=>none)
 |.str i=>(match y with|.str j=>some (decide (i=j))|.non=>some false|.int _=>some false|.bl _=>some false|_=>none)
 |.bl i=>(match y with|.bl j=>some (decide (i=j))|.non=>some false|.str _=>some false|_=>none)
 |.non=>(match y with|.non=>some true|.int _=>some false|.bl _=>some false|.str _=>some false|_=>none)
 |_=>none
theorem JQ{K:X4}(h:eqS x y=some b)(r:RM K H x u)(q:RM K H y v):scal u v=true/\decide (u=v)=b:=by
 cases r
 all_goals first
  |exact nomatch (show none=some b from h)
  |skip
 all_goals
  cases q
  all_goals first
   |exact nomatch (show none=some b from h)
   |(obtain rfl:=Y9 (show some false=some b from h);exact⟨rfl,rfl⟩)
   |(obtain rfl:=Y9 (show some true=some b from h);exact⟨rfl,rfl⟩)
   |(obtain rfl:=Y9 h;exact⟨rfl,decide_eq_decide.mpr ⟨V.int.inj,λe=>by rw[e]⟩⟩)
   |(obtain rfl:=Y9 h;exact⟨rfl,decide_eq_decide.mpr ⟨V.str.inj,λe=>by rw[e]⟩⟩)
   |(obtain rfl:=Y9 h;exact⟨rfl,decide_eq_decide.mpr ⟨V.bl.inj,λe=>by rw[e]⟩⟩)
noncomputable def LstM(M:MH)(x:MV)(xs:List MV):Prop:=x=.frl xs\/∃a,x=.ref a/\M a=some (.lst xs)
noncomputable def Yl:MV->Bool
 |.non=>true|.bl _=>true|.int _=>true|.str _=>true|_=>false
def Alike(M:MH):Nat->MV->MV->Prop
 |0,x,y=>Yl x=true/\x=y
 |n+1,x,y=>(Yl x=true/\x=y)\/(∃j l,x=.tup j/\y=.tup l/\j.length=l.length/\∀(i:Nat)u v,j[i]?=some u->l[i]?=some v->Alike M n u v)\/
  (∃j l,LstM M x j/\LstM M y l/\j.length=l.length/\∀(i:Nat)u v,j[i]?=some u->l[i]?=some v->Alike M n u v)\/
  ∃a b w z,x=.ref a/\y=.ref b/\M a=some (.dic w)/\M b=some (.dic z)/\w.length=z.length/\∀k u,(k,u)∈w->∃v,valM z k=some v/\Alike M n u v
noncomputable def toV:MV->V
 |.non=>.non|.bl b=>.bl b|.int i=>.int i|.str x=>.str x|_=>.non
def wEq(x y:MV)(M:MH)(k:Bool->Prop):Prop:=match eqS x y with
 |some b=>k b
 |none=>False\/(∃n≤60,Alike M n x y/\k true)\/(∃a b j,x=.ref a/\y=.ref b/\M a=some (.lst j)/\M b=some (.lst [])/\k j.isEmpty)\/False\/False
theorem Ud{K:X4}(f:Yl m=true)(r:RM K H m v):v=toV m/\ZK v=true:=by
 cases r<;>first|exact⟨rfl,rfl⟩|cases f
theorem V6{K:X4}:∀{m:List MV} {v:List V},m.all Yl=true->RMs K H m v->v=m.map toV/\v.all ZK=true
 |_,_,_,.nil=>⟨rfl,rfl⟩
 |_,_,f,.cons r t=>by
  rw[US,XX]at f;obtain⟨e,g⟩:=Ud f.1 r;obtain⟨j,l⟩:=V6 f.2 t;subst e j;exact⟨rfl,by rw[US,g,l];rfl⟩
def keyM:MV->Option Key
 |.int i=>some (.inl i)
 |.str x=>some (.inr x)
 |_=>none
theorem WZ{K:X4}{k:Key}(e:keyM m=some k)(r:RM K H m v):v=kV k:=by
 cases r<;>cases e<;>rfl
theorem VT{K:X4}{k:Key}:∀{m:List (Key×MV)} {v:List (Key×V)},RKs K H m v->(valM m k=none/\valV v k=none)\/∃x u,valM m k=some x/\valV v k=some u/\RM K H x u
 |_,_,.nil=>.inl ⟨rfl,rfl⟩
 |_,_,.cons (k:=j) (x:=x) (v:=u) r t=>by
  by_cases e:j=k
  .refine .inr ⟨x,u,?_,CP (p:=(j,u)) e,r⟩;unfold valM;rw[if_pos e]
  .have:=VT (k:=k) t;unfold valM;rw[if_neg e,CQ (p:=(j,u)) e];exact this
theorem JR{K:X4}{k:Key}:∀{m:List (Key×MV)} {v:List (Key×V)},RKs K H m v->(v.any λj=>decide (j.1=k))=(m.any λj=>decide (j.1=k))
 |_,_,.nil=>rfl
 |_,_,.cons r t=>by rw[ZE,ZE,JR t]
theorem EF{K:X4}{k:Key}(r:RM K H x u):∀{m:List (Key×MV)} {v:List (Key×V)},RKs K H m v->
  RKs K H (m.map λl=>if l.1=k then(l.1,x)else l) (v.map λl=>if l.1=k then(l.1,u)else l)
 |_,_,.nil=>.nil
 |_,_,.cons (k:=j) q t=>by
  rw[Xx,Xx];by_cases e:j=k
  .rw[if_pos e,if_pos e];exact .cons r (EF r t)
  .rw[if_neg e,if_neg e];exact .cons q (EF r t)
theorem JS{j:Type}{K:X4}:∀{m l:List (j×MV)} {v u:List (j×V)},RKs K H m v->RKs K H l u->RKs K H (m++l) (v++u)
 |_,_,_,_,.nil,s=>s
 |_,_,_,_,.cons r t,s=>.cons r (JS t s)
theorem JT{l:Type} [DecidableEq l] {k:l}:∀{m:List (l×MV)},¬k∈m.map (·.1)->(m.map λu=>if u.1=k then(u.1,x)else u)=m
 |[],_=>rfl
 |(j,y)::r,h=>by
  rw[Xx,if_neg (λe=>h (by simp[show j=k from e])),JT (λe=>h (by simp[e]))]
theorem JU{u:Type} [DecidableEq u] {k:u}:∀{m:List (u×MV)},(m.map (·.1)).Nodup->putM m k x=if(m.any λl=>decide (l.1=k))=true then m.map (λl=>if l.1=k then(l.1,x)else l)else m++[(k,x)]
 |[],_=>rfl
 |(j,y)::r,h=>by
  rw[Xx,Yp]at h;unfold putM;rw[ZE];by_cases e:j=k
  .subst e;rw[if_pos rfl,if_pos (by simp),Xx,if_pos rfl,JT h.1]
  .rw[if_neg e,JU h.2,show decide ((j,y).1=k)=false from decide_eq_false e,Ec,Xx,if_neg (show¬(j,y).1=k from e)];split<;>rfl
theorem JV{l:Type} [DecidableEq l] {k:l}:∀(m:List (l×MV)),((putM m k x).map (·.1))=if k∈m.map (·.1)then m.map (·.1)else m.map (·.1)++[k]
 |[]=>rfl
 |(j,y)::r=>by
  unfold putM;by_cases e:j=k
  .subst e;simp
  .rw[if_neg e,Xx,JV r,Xx];have u:k≠j:=λz=>e z.symm;by_cases m:k∈r.map (·.1)
   .rw[if_pos m,if_pos (Xk.mpr (.inr m))]
   .rw[if_neg m,if_neg (λz=>(Xk.mp z).elim u m)];rfl
theorem JW{K:X4}{k:Key}(r:RM K H x u)(j:(m.map (·.1)).Nodup)(h:RKs K H m v):
  RKs K H (putM m k x) (putK v k u)/\((putM m k x).map (·.1)).Nodup:=by
 refine⟨?_,?_⟩
 .rw[JU j];unfold putK;rw[JR h];split
  .exact EF r h
  .exact JS h (.cons r .nil)
 .rw[JV];split
  .exact j
  .exact Jo j (by assumption)
def wIn(x y:MV)(M:MH)(k:Bool->Prop):Prop:=match y with
 |.tup j=>Yl x=true/\j.all Yl=true/\k (inV (toV x) (j.map toV))
 |.frl j=>Yl x=true/\j.all Yl=true/\k (inV (toV x) (j.map toV))
 |.ref a=>(∃j,M a=some (.lst j)/\Yl x=true/\j.all Yl=true/\k (inV (toV x) (j.map toV)))\/∃l u,M a=some (.dic l)/\keyM x=some u/\k (valM l u).isSome
 |_=>False
noncomputable def UE:MV->Bool
 |.non=>true|_=>false
noncomputable def isBl(b:Bool):MV->Bool
 |.bl c=>decide (c=b)
 |_=>false
def wCmp(op:CmpOp)(x y:MV)(M:MH)(Q:QM):Prop:=match op with
 |.Lt=>∃i j,x=.int i/\y=.int j/\Q (.bl (decide (i<j))) M
 |.LtE=>(∃i j,x=.int i/\y=.int j/\Q (.bl (decide (i<=j))) M)\/∃i j,x=.str i/\y=.str j/\Q (.bl (!decide (j.cps.toList<i.cps.toList))) M
 |.Gt=>∃i j,x=.int i/\y=.int j/\Q (.bl (decide (j<i))) M
 |.GtE=>∃i j,x=.int i/\y=.int j/\Q (.bl (decide (j<=i))) M
 |.Eq=>wEq x y M λb=>Q (.bl b) M
 |.NotEq=>wEq x y M λb=>Q (.bl (!b)) M
 |.In=>wIn x y M λb=>Q (.bl b) M
 |.NotIn=>wIn x y M λb=>Q (.bl (!b)) M
 |.Is=>(y=.non/\Q (.bl (UE x)) M)\/∃b,y=.bl b/\Q (.bl (isBl b x)) M
 |.IsNot=>(y=.non/\Q (.bl (!UE x)) M)\/∃b,y=.bl b/\Q (.bl (!isBl b x)) M
set_option tactic.hygienic true in
theorem JX{k:Bool->Prop}(j:∀b,k b->k' b)(h:wEq x y M k):wEq x y M k':=by
 unfold wEq at h ⊢;split
 .rename_i b e;rw[e]at h;exact j _ h
 .rename_i e;rw[e]at h;refine h.imp id λh=>?_;rcases h with⟨n,l,u,w⟩|⟨a,b,z,l,u,w,m,g⟩|h|h
  .exact .inl ⟨n,l,u,j _ w⟩
  .exact .inr (.inl ⟨a,b,z,l,u,w,m,j _ g⟩)
  .exact h.elim
  .exact h.elim
theorem JY{k:Bool->Prop}(j:∀b,k b->k' b)(h:wIn x y M k):wIn x y M k':=by
 unfold wIn at h ⊢;split at h
 .exact⟨h.1,h.2.1,j _ h.2.2⟩
 .exact⟨h.1,h.2.1,j _ h.2.2⟩
 .rcases h with⟨m,l,u,w,g⟩|⟨z,d,l,u,w⟩
  .exact .inl ⟨m,l,u,w,j _ g⟩
  .exact .inr ⟨z,d,l,u,j _ w⟩
 .exact h.elim
theorem VU(op:CmpOp):Mon2 (wCmp op):=by
 intro x y M Q m l h;cases op
 .exact JX (k:=λb=>Q (.bl b) M) (k':=λb=>m (.bl b) M) (λb h=>l _ _ h) h
 .exact JX (k:=λb=>Q (.bl (!b)) M) (k':=λb=>m (.bl (!b)) M) (λb h=>l _ _ h) h
 .obtain⟨i,j,u,w,z⟩:=h;exact⟨i,j,u,w,l _ _ z⟩
 .rcases h with⟨i,j,u,w,z⟩|⟨i,j,u,w,z⟩
  .exact .inl ⟨i,j,u,w,l _ _ z⟩
  .exact .inr ⟨i,j,u,w,l _ _ z⟩
 .obtain⟨i,j,u,w,z⟩:=h;exact⟨i,j,u,w,l _ _ z⟩
 .obtain⟨i,j,u,w,z⟩:=h;exact⟨i,j,u,w,l _ _ z⟩
 .rcases h with h|⟨b,e,h⟩
  .exact .inl ⟨h.1,l _ _ h.2⟩
  .exact .inr ⟨b,e,l _ _ h⟩
 .rcases h with h|⟨b,e,h⟩
  .exact .inl ⟨h.1,l _ _ h.2⟩
  .exact .inr ⟨b,e,l _ _ h⟩
 .exact JY (k:=λb=>Q (.bl b) M) (k':=λb=>m (.bl b) M) (λb h=>l _ _ h) h
 .exact JY (k:=λb=>Q (.bl (!b)) M) (k':=λb=>m (.bl (!b)) M) (λb h=>l _ _ h) h
section
variable{X:Cx}
set_option tactic.hygienic true in
theorem JZ{K:X4}(r:RM K H m v):decide (v=.bl b)=isBl b m:=by
 cases r<;>first|rfl|(rename_i c;cases b<;>cases c<;>rfl)
theorem K0{K:X4}(r:RM K H m v):decide (v=.non)=UE m:=by cases r<;>rfl
theorem _sc{k:Key}(r:KV kvs vs)(h:valV kvs k=some v):∃u,YW vs k=some u/\RelV v u:=by
 have q:=r.val k;rw[h]at q;exact RelO.some_of q
theorem LstM.sq(j:RH X.K M H)(h:LstM M x xs)(r:RM X.K H x u):∃a vs,u=.ref a/\SqL X.K H a vs/\RMs X.K H xs vs:=by
 rcases h with rfl|⟨a,rfl,h⟩
 .obtain⟨_,_,rfl,l,w⟩:=r.inv;exact⟨_,_,rfl,l.sq,w⟩
 .obtain rfl:=r.inv;obtain⟨vs,e,q⟩:=j.lst h;exact⟨a,vs,rfl,SqL.of e,q⟩
theorem D3{xs:List V}{us:List X0}(r:Vals xs us){i:Nat}{u:X0}(h:us[i]?=some u):∃x,xs[i]?=some x/\RelV x u:=by
 induction r generalizing i with
 |nil=>cases h
 |cons q _ j=>
  cases i with
  |zero=>cases h;exact⟨_,rfl,q⟩
  |succ i=>exact j (i:=i) h
theorem _qo(r:KV kvs vs){k:Key}(h:(k,u)∈vs):∃x,(k,x)∈kvs/\RelV x u:=by
 induction r with
 |nil=>cases h
 | @cons p j _ _ q _ l=>
  obtain⟨w,y⟩:=p;obtain⟨d,c⟩:=j;rcases Xk.mp h with e|h
  .cases e;have z:w=k:=q.1;subst z;exact⟨y,Ya,q.2⟩
  .obtain⟨x,m,g⟩:=l h;exact⟨x,XM _ m,g⟩
theorem K1{K:X4}{k:Key}:∀{m:List (Key×MV)} {vs:List (Key×V)},RKs K H m vs->(k,v)∈vs->∃x,(k,x)∈m/\RM K H x v
 |_,_,.nil,h=>by cases h
 |_,_,.cons r t,h=>by
  rcases Xk.mp h with e|h
  .cases e;exact⟨_,Ya,r⟩
  .obtain⟨x,m,q⟩:=K1 t h;exact⟨x,XM _ m,q⟩
set_option tactic.hygienic true in
theorem Alike.inn{pq:List (Addr×Obj)}{s:X2}{σ:St}{H:Hp}{M:MH}(I:Inv X pq σ H s)(C:RH X.K M H){n:Nat}{A:Xz}(c:A.units<cLine)
  (G:∀{x y:MV} {u v:V} {l w:X0},Alike M n x y->RM X.K H x u->RM X.K H y v->RelV u l->RelV v w->AliP X.prog X.w A.in1 s l w)
  {x y:MV} {u v:V} {l w:X0} (h:Alike M (n+1) x y)(J:RM X.K H x u)(Q:RM X.K H y v)(S:RelV u l)(o:RelV v w):
  (Yl x=true/\x=y)\/∃a b,l=.ref a/\w=.ref b/\RcP X.prog X.w A s (.ref a) (.ref b)/\RnP X.prog X.w A s (.ref a) (.ref b):=by
 rw[Alike]at h;rcases h with h|⟨xs,ys,rfl,rfl,e,h⟩|⟨xs,ys,D,E,e,h⟩|⟨a,b,ka,kb,rfl,rfl,D,E,e,h⟩
 .exact .inl h
 .obtain⟨_,_,rfl,g1,q⟩:=J.inv;cases Q with
  |tup g2 r=>
   rename_i a vs b us
   obtain rfl:l=Xn a:=S;obtain rfl:w=Xn b:=o;obtain⟨m,L,N,_⟩:=I.tuple (SqT.of g1);obtain⟨g,O,P,_⟩:=I.tuple (SqT.of g2);have z:m.toArray.size=g.toArray.size:=by rw[XR,XR,<-L.length,<-O.length,<-q.length,<-r.length];exact e
   have d:∀p∈m.toArray.toList.zip g.toArray.toList,AliP X.prog X.w A.in1 s p.1 p.2:=by
    intro p hp;obtain⟨i,hi⟩:=List.mem_iff_getElem?.mp hp;rw[List.getElem?_zip_eq_some]at hi;obtain⟨x1,R,T⟩:=D3 L hi.1;obtain⟨x2,U,W⟩:=D3 O hi.2;obtain⟨Y,f,d3⟩:=q.get' R;obtain⟨F,Z,d4⟩:=r.get' U;exact G (h i Y F f Z) d3 d4 T W
   exact .inr ⟨_,_,rfl,rfl,_pl N P z c d,_nK N P z c d⟩
 .obtain⟨a,vs,rfl,g1,q⟩:=D.sq C J;obtain⟨b,us,rfl,g2,r⟩:=E.sq C Q;obtain rfl:l=Xn a:=S;obtain rfl:w=Xn b:=o;obtain⟨m,L,⟨o1,n1,N,P,_,t3⟩,_⟩:=I.list g1;obtain⟨g,O,⟨o2,n2,t4,t5,_,t6⟩,_⟩:=I.list g2;have z:m.toArray.size=g.toArray.size:=by rw[XR,XR,<-L.length,<-O.length,<-q.length,<-r.length];exact e
  have d:∀j (D:j<m.toArray.size)(E:j<g.toArray.size),AliP X.prog X.w A.in1 s m.toArray[j] g.toArray[j]:=by
   intro i l1 l2;obtain⟨x1,R,T⟩:=D3 L (i:=i) (u:=m.toArray[i]) (by simp[X8 (show i<m.length by simpa using l1)])
   obtain⟨x2,U,W⟩:=D3 O (i:=i) (u:=g.toArray[i]) (by simp[X8 (show i<g.length by simpa using l2)])
   obtain⟨Y,f,d3⟩:=q.get' R;obtain⟨F,Z,d4⟩:=r.get' U;exact G (h i Y F f Z) d3 d4 T W
  exact .inr ⟨_,_,rfl,rfl,_pm ⟨o1,N,P,n1,t3⟩ ⟨o2,t4,t5,n2,t6⟩ z c d,_nL ⟨o1,N,P,n1,t3⟩ ⟨o2,t4,t5,n2,t6⟩ z c d⟩
 .obtain rfl:=J.inv;obtain rfl:=Q.inv;obtain rfl:l=Xn a:=S;obtain rfl:w=Xn b:=o;obtain⟨va,ea,wa,_⟩:=C.dic D;obtain⟨vb,eb,wb,_⟩:=C.dic E;obtain⟨_,na,ua,pa,da⟩:=EA I.hok ea;obtain⟨_,nb,ub,pb,db⟩:=EA I.hok eb;have z:ua.length=ub.length:=by rw[<-Paired.length pa,<-wa.length,<-Paired.length pb,<-wb.length];exact e
  have d:∀p∈ua,∃y,YW ub p.1=some y/\AliP X.prog X.w A.in1 s p.2 y:=by
   rintro⟨k,u1⟩ hp;obtain⟨x1,R,T⟩:=_qo pa hp;obtain⟨Y,U,W⟩:=K1 wa R;obtain⟨F,f,Z⟩:=h k Y U;rcases VT (k:=k) wb with⟨B,z2⟩|⟨x',u2,B,z2,r3⟩
   .rw[f]at B;cases B
   .rw[f]at B;cases B;obtain⟨w',hw,rw'⟩:=_sc pb z2;exact⟨w',hw,G Z W r3 T rw'⟩
  exact .inr ⟨_,_,rfl,rfl,_pn na nb da db c z d,_nM na nb da db c z d⟩
theorem K3{K:X4}(f:Yl x=true)(j:RM K H x u)(l:RM K H x v)(y:RelV u u')(z:RelV v v'):AliP P w A s u' v':=by
 obtain⟨rfl,m⟩:=Ud f j;obtain⟨rfl,g⟩:=Ud f l;have h:=J9 (A:=A) (s:=s) y z m g;have e:eqV (toV x) (toV x)=true:=by cases x<;>first|(cases f;done)|simp[toV,eqV]
 rw[e]at h;exact .of_at h
theorem Alike.ok(I:Inv X pq σ H s)(d:RH X.K M H):∀(n:Nat){A:Xz} {x y:MV} {u v:V} {m g:X0},A.units+n<cLine->Alike M n x y->RM X.K H x u->RM X.K H y v->RelV u m->RelV v g->AliP X.prog X.w A s m g
 |0,A,x,y,u,v,m,g,hu,h,j,l,w,z=>by
  rw[Alike]at h;obtain⟨f,rfl⟩:=h;exact K3 f j l w z
 |n+1,A,x,y,u,v,m,g,hu,h,j,l,w,z=>by
  rcases Alike.inn I d (A:=A) (by lia) (λh j l w z=>Alike.ok I d n (show A.units+1+n<cLine by lia) h j l w z) h j l w z with⟨f,rfl⟩|⟨a,b,rfl,rfl,h,_⟩
  .exact K3 f j l w z
  .exact .refs h
theorem Alike.top(I:Inv X pq σ H s)(m:RH X.K M H)(h:Alike M n x y)(q:X.A.units+n<cLine)(d:eqS x y=none)(j:RM X.K H x u)(l:RM X.K H y v)(w:RelV u u')(z:RelV v v'):
  RcP X.prog X.w X.A s u' v'/\RnP X.prog X.w X.A s u' v':=by
 have g:¬(Yl x=true/\x=y):=by
  rintro⟨f,rfl⟩;cases x<;>first|(cases f;done)|(cases d;done)
 cases n with
 |zero=>rw[Alike]at h;exact(g h).elim
 |succ n=>
  rcases Alike.inn I m (A:=X.A) (by lia) (λh j l w z=>Alike.ok I m n (show X.A.units+1+n<cLine by lia) h j l w z) h j l w z with f|⟨a,b,rfl,rfl,h,c⟩
  .exact(g f).elim
  .exact⟨h,c⟩
set_option tactic.hygienic true in
theorem VW(hu:X.A.units+70<cLine)(op:CmpOp):OpR X (Y1 op) (li2 X.K (wCmp op)):=by
 intro q s r H x y v u Q I w z h;obtain⟨E,F,M,m,g,L,h⟩:=h;have l:∀b,Dn X.K H Q (.bl b) M->Q (.bl b) H:=λb h=>h _ _ (Kp.refl _) (.bl b) L;have A:X.A.units+1<cLine:=by lia
 have hu64:X.A.units+64<cLine:=by lia
 have huI:X.A.in1.units+64<cLine:=by show X.A.units+1+64<cLine;lia
 have B:X.A.units<cLine:=by lia
 cases op with
 |Lt=>obtain⟨i,j,rfl,rfl,h⟩:=h;obtain rfl:=m.inv;obtain rfl:=g.inv;exact TX q s r H _ _ v u Q I w z ⟨_,_,rfl,rfl,l _ h⟩
 |LtE=>
  rcases h with⟨i,j,rfl,rfl,h⟩|⟨i,j,rfl,rfl,h⟩
  .obtain rfl:=m.inv;obtain rfl:=g.inv;exact TY q s r H _ _ v u Q I w z ⟨_,_,rfl,rfl,l _ h⟩
  .obtain rfl:=m.inv;obtain rfl:=g.inv;obtain⟨t1,rfl⟩:=w;obtain⟨t2,rfl⟩:=z;exact PySem.P.le_str ⟨.bl _,H,I,rfl,l _ h⟩
 |Gt=>obtain⟨i,j,rfl,rfl,h⟩:=h;obtain rfl:=m.inv;obtain rfl:=g.inv;exact TZ q s r H _ _ v u Q I w z ⟨_,_,rfl,rfl,l _ h⟩
 |GtE=>obtain⟨i,j,rfl,rfl,h⟩:=h;obtain rfl:=m.inv;obtain rfl:=g.inv;exact _sa q s r H _ _ v u Q I w z ⟨_,_,rfl,rfl,l _ h⟩
 |Is=>
  rcases h with⟨rfl,h⟩|⟨b,rfl,h⟩
  .obtain rfl:=g.inv;exact _q9 q s r H _ _ v u Q I w z ⟨rfl,by rw[K0 m];exact l _ h⟩
  .obtain rfl:=g.inv;exact _nB q s r H _ _ v u Q I w z ⟨b,rfl,by rw[JZ m];exact l _ h⟩
 |IsNot=>
  rcases h with⟨rfl,h⟩|⟨b,rfl,h⟩
  .obtain rfl:=g.inv;exact _nx q s r H _ _ v u Q I w z ⟨rfl,by rw[K0 m];exact l _ h⟩
  .obtain rfl:=g.inv;exact _l9 q s r H _ _ v u Q I w z ⟨b,rfl,by rw[JZ m];exact l _ h⟩
 |Eq=>
  have h:wEq E F M λb=>Dn X.K H Q (.bl b) M:=h;unfold wEq at h;split at h
  .rename_i b e
   obtain⟨d,c⟩:=JQ e m g;exact TV q s r H _ _ v u Q I w z ⟨d,by rw[c];exact l _ h⟩
  .rcases h with h|h
   .exact h.elim
   rcases h with⟨n,p,U,W⟩|⟨a,b,C,rfl,rfl,W,G,J⟩|h|h
   .exact(U.top I L (by lia) (by assumption) m g w z).1 _ _ ⟨.bl true,H,I,rfl,l _ W⟩
   .obtain rfl:=m.inv;obtain rfl:=g.inv;obtain⟨T,d,f⟩:=L.lst W;obtain⟨us,c,S⟩:=L.lst G;obtain rfl:=S.inv;refine _lc B q s r H _ _ v u Q I w z ⟨_,_,T,rfl,rfl,SqL.of d,SqL.of c,?_⟩;have:T.isEmpty=C.isEmpty:=by cases f<;>rfl
    rw[this];exact l _ J
   .exact h.elim
   .exact h.elim
 |NotEq=>
  have h:wEq E F M λb=>Dn X.K H Q (.bl (!b)) M:=h;unfold wEq at h;split at h
  .rename_i b e
   obtain⟨d,c⟩:=JQ e m g;exact TW q s r H _ _ v u Q I w z ⟨d,by rw[c];exact l _ h⟩
  .rcases h with h|h
   .exact h.elim
   rcases h with⟨n,p,U,W⟩|⟨a,b,C,rfl,rfl,W,G,J⟩|h|h
   .exact(U.top I L (by lia) (by assumption) m g w z).2 _ _ ⟨.bl false,H,I,rfl,l _ W⟩
   .obtain rfl:=m.inv;obtain rfl:=g.inv;obtain⟨T,d,f⟩:=L.lst W;obtain⟨us,c,S⟩:=L.lst G;obtain rfl:=S.inv;refine _la B q s r H _ _ v u Q I w z ⟨_,_,T,rfl,rfl,SqL.of d,SqL.of c,?_⟩;have:T.isEmpty=C.isEmpty:=by cases f<;>rfl
    rw[this];exact l _ J
   .exact h.elim
   .exact h.elim
 |In=>
  have h:wIn E F M λb=>Dn X.K H Q (.bl b) M:=h;unfold wIn at h;split at h
  .obtain⟨_,_,rfl,p,f⟩:=g.inv;obtain⟨N,O,h⟩:=h;obtain⟨d,P⟩:=Ud N m;obtain⟨c,R⟩:=V6 O f;exact Ew q s r H _ _ v u Q I w z ⟨_,_,rfl,.inr (SqT.of p),P,R,by rw[d,c];exact l _ h⟩
  .obtain⟨_,_,rfl,p,f⟩:=g.inv;obtain⟨N,O,h⟩:=h;obtain⟨d,P⟩:=Ud N m;obtain⟨c,R⟩:=V6 O f;exact Ew q s r H _ _ v u Q I w z ⟨_,_,rfl,.inl p.sq,P,R,by rw[d,c];exact l _ h⟩
  .obtain rfl:=g.inv;rcases h with⟨C,p,N,O,h⟩|⟨o,D,p,U,h⟩
   .obtain⟨T,e,f⟩:=L.lst p;obtain⟨d,P⟩:=Ud N m;obtain⟨c,R⟩:=V6 O f;exact Ew q s r H _ _ v u Q I w z ⟨_,_,rfl,.inl (SqL.of e),P,R,by rw[d,c];exact l _ h⟩
   .obtain⟨T,e,f,_⟩:=L.dic p;have:=WZ U m;subst this;obtain rfl:u=Xn _:=z;refine d_in A I (DGet.k (k:=D) e) w λs3 I3=>⟨.bl _,H,I3,rfl,?_⟩;rcases VT (k:=D) f with⟨Y,Z⟩|⟨x',u',Y,Z,_⟩
    .rw[Z];rw[Y]at h;exact l _ h
    .rw[Z];rw[Y]at h;exact l _ h
  .exact h.elim
 |NotIn=>
  have h:wIn E F M λb=>Dn X.K H Q (.bl (!b)) M:=h;unfold wIn at h;split at h
  .obtain⟨_,_,rfl,p,f⟩:=g.inv;obtain⟨N,O,h⟩:=h;obtain⟨d,P⟩:=Ud N m;obtain⟨c,R⟩:=V6 O f;exact Ex q s r H _ _ v u Q I w z ⟨_,_,rfl,.inr (SqT.of p),P,R,by rw[d,c];exact l _ h⟩
  .obtain⟨_,_,rfl,p,f⟩:=g.inv;obtain⟨N,O,h⟩:=h;obtain⟨d,P⟩:=Ud N m;obtain⟨c,R⟩:=V6 O f;exact Ex q s r H _ _ v u Q I w z ⟨_,_,rfl,.inl p.sq,P,R,by rw[d,c];exact l _ h⟩
  .obtain rfl:=g.inv;rcases h with⟨C,p,N,O,h⟩|⟨o,D,p,U,h⟩
   .obtain⟨T,e,f⟩:=L.lst p;obtain⟨d,P⟩:=Ud N m;obtain⟨c,R⟩:=V6 O f;exact Ex q s r H _ _ v u Q I w z ⟨_,_,rfl,.inl (SqL.of e),P,R,by rw[d,c];exact l _ h⟩
   .obtain⟨T,e,f,_⟩:=L.dic p;have:=WZ U m;subst this;obtain rfl:u=Xn _:=z;refine _oA A I (DGet.k (k:=D) e) w λs3 I3=>⟨.bl _,H,I3,rfl,?_⟩;rcases VT (k:=D) f with⟨Y,Z⟩|⟨x',u',Y,Z,_⟩
    .rw[Z];rw[Y]at h;exact l _ h
    .rw[Z];rw[Y]at h;exact l _ h
  .exact h.elim
end
def wIx(x y:MV)(M:MH)(Q:QM):Prop:=match x with
 |.tup l=>∃i v,y=.int i/\atI l i=some v/\Q v M
 |.frl l=>∃i v,y=.int i/\atI l i=some v/\Q v M
 |.str z=>∃i c,y=.int i/\z.length<=sizeLine/\atI z.cps.toList i=some c/\Q (.str ⟨#[c]⟩) M
 |.ref a=>(∃l i v,M a=some (.lst l)/\y=.int i/\atI l i=some v/\Q v M)\/(∃j u v,M a=some (.dic j)/\keyM y=some u/\valM j u=some v/\Q v M)\/∃o j u v,M a=some (.fdic o j)/\keyM y=some u/\valM j u=some v/\Q v M
 |_=>False
theorem K4:Mon2 wIx:=by
 intro x y M Q c m h;unfold wIx at h ⊢;split at h
 .obtain⟨i,v,j,l,u⟩:=h;exact⟨i,v,j,l,m _ _ u⟩
 .obtain⟨i,v,j,l,u⟩:=h;exact⟨i,v,j,l,m _ _ u⟩
 .obtain⟨i,v,j,l,u,w⟩:=h;exact⟨i,v,j,l,u,m _ _ w⟩
 .rcases h with⟨d,i,v,j,l,u,w⟩|⟨z,g,v,j,l,u,w⟩|⟨o,z,g,v,j,l,u,w⟩
  .exact .inl ⟨d,i,v,j,l,u,m _ _ w⟩
  .exact .inr (.inl ⟨z,g,v,j,l,u,m _ _ w⟩)
  .exact .inr (.inr ⟨o,z,g,v,j,l,u,m _ _ w⟩)
 .exact h.elim
theorem RMs.atI{K:X4}(r:RMs K H m v)(e:atI m i=some x):∃u,atI v i=some u/\RM K H x u:=by
 unfold L2.atI at e ⊢;rw[<-r.length];cases q:ixN m.length i with
 |none=>rw[q]at e;cases e
 |some j=>rw[q]at e;exact r.get e
section
variable{X:Cx}
theorem K5(z:X.A.units+1<cLine):IxR X (λx y H Q=>∃a v,x=.ref a/\DGet H a y (some v)/\Q v H):=by
 intro j l p s e H x y v u Q I m d h c;obtain⟨a,f,rfl,g,q⟩:=h;obtain rfl:v=Xn a:=m;exact tail_any (_gs I g) PySem.F.slot_dict_getitem.lookup (_jZ z I g d λL N r w=>⟨f,H,r,w,q⟩) c
theorem _qw(F:X.A.units+1<cLine):IxR X (li2 X.K wIx):=by
 intro j l O s P H x y v u Q I R T h U;obtain⟨S,n,M,Z,W,z,h⟩:=h;unfold wIx at h;split at h
 .obtain⟨i,A,rfl,m,w⟩:=h;obtain rfl:=W.inv;obtain⟨_,_,rfl,d,f⟩:=Z.inv;obtain⟨q,e,r⟩:=f.atI m;exact _qu j l O s P H _ _ v u Q I R T ⟨_,_,_,q,rfl,rfl,SqT.of d,e,w _ _ (Kp.refl _) r z⟩ U
 .obtain⟨i,A,rfl,m,w⟩:=h;obtain rfl:=W.inv;obtain⟨_,_,rfl,d,f⟩:=Z.inv;obtain⟨q,e,r⟩:=f.atI m;exact J7 j l O s P H _ _ v u Q I R T ⟨_,_,_,q,rfl,rfl,d.sq,e,w _ _ (Kp.refl _) r z⟩ U
 .obtain⟨i,c,rfl,m,w,p⟩:=h;obtain rfl:=Z.inv;obtain rfl:=W.inv;exact _qv j l O s P H _ _ v u Q I R T ⟨_,_,c,rfl,rfl,m,w,p _ _ (Kp.refl _) (.str _) z⟩ U
 .obtain rfl:=Z.inv;rcases h with⟨b,i,A,d,rfl,w,p⟩|⟨C,L,A,d,m,w,p⟩|⟨o,C,L,A,d,m,w,p⟩
  .obtain rfl:=W.inv;obtain⟨B,e,f⟩:=z.lst d;obtain⟨q,G,r⟩:=f.atI w;exact J7 j l O s P H _ _ v u Q I R T ⟨_,_,_,q,rfl,rfl,SqL.of e,G,p _ _ (Kp.refl _) r z⟩ U
  .obtain⟨B,e,f,_⟩:=z.dic d;have D:=WZ m W;rcases VT (k:=L) f with⟨N,Y⟩|⟨J,q,N,Y,E⟩
   .rw[N]at w;cases w
   .rw[N]at w;cases w;have g:=DGet.k (k:=L) e;rw[Y]at g;subst D;exact K5 F j l O s P H _ _ v u Q I R T ⟨_,q,rfl,g,p _ _ (Kp.refl _) E z⟩ U
  .obtain⟨B,e,f,_⟩:=z.fdic d;have D:=WZ m W;rcases VT (k:=L) f with⟨N,Y⟩|⟨J,q,N,Y,E⟩
   .rw[N]at w;cases w
   .rw[N]at w;cases w;have g:DGet H _ (kV L) (valV B L):=.inl ⟨B,L,.inr ⟨o,e⟩,rfl,rfl⟩;rw[Y]at g;subst D;exact K5 F j l O s P H _ _ v u Q I R T ⟨_,q,rfl,g,p _ _ (Kp.refl _) E z⟩ U
 .exact h.elim
end
noncomputable def cutM(xs:List MV)(lo j:Option Int):List MV:=(xs.drop (HT.sIx xs.length 0 lo)).take (HT.sIx xs.length xs.length j - HT.sIx xs.length 0 lo)
theorem RMs.cut{K:X4}(r:RMs K H m v)(lo j:Option Int):RMs K H (cutM m lo j) (cutV v lo j):=by
 unfold cutM cutV;rw[<-r.length];exact(r.drop _).take _
abbrev WS:=MV->Option Int->Option Int->MH->QM->Prop
def wSl:WS:=λx lo l M Q=>match x with
 |.tup j=>Q (.tup (cutM j lo l)) M
 |.frl j=>∀p,M p=none->Q (.ref p) (updM M p (.lst (cutM j lo l)))
 |.ref a=>∃j,M a=some (.lst j)/\∀p,M p=none->Q (.ref p) (updM M p (.lst (cutM j lo l)))
 |_=>False
theorem K6{x:MV}{lo u:Option Int}{M:MH}{Q w:QM}(j:∀m M',Q m M'->w m M')(h:wSl x lo u M Q):wSl x lo u M w:=by
 unfold wSl at h ⊢;split at h
 .exact j _ _ h
 .exact λp l=>j _ _ (h p l)
 .obtain⟨y,z,g⟩:=h;exact⟨y,z,λp l=>j _ _ (g p l)⟩
 .exact h.elim
def liS(K:X4)(w:WS):V->Option Int->Option Int->Hp->VK->Prop:=λx lo l H Q=>∃j M,RM K H j x/\RH K M H/\w j lo l M (Dn K H Q)
section
variable{X:Cx}
set_option tactic.hygienic true in
theorem _pd:SlR X (liS X.K wSl):=by
 intro g s d H x v c f lo j q Q I r L N O h;obtain⟨R,M,P,w,h⟩:=h;unfold wSl at h;split at h
 .rename_i z
  obtain⟨_,_,rfl,y,l⟩:=P.inv
  rename_i m
  by_cases hw:HT.sIx z.length 0 lo=0/\HT.sIx z.length z.length j=z.length
  .have e:cutM z lo j=z:=by unfold cutM;rw[hw.1,hw.2,List.drop_zero,Nat.sub_zero,DX]
   rw[e]at h;refine _mV g s d H _ v c f lo j q Q I r L N O ⟨_,_,rfl,SqT.of y,by rw[<-l.length];exact hw.1,by rw[<-l.length];exact hw.2,?_⟩
   exact h _ _ (Kp.refl _) (.tup y l) w
  refine _pc g s d H _ v c f lo j q Q I r L N O ⟨_,_,rfl,SqT.of y,by rw[<-l.length];exact hw,λp u=>?_⟩
  have k:=Kp.new u (.tup (cutV m lo j));exact h _ _ k (.tup _I ((l.cut lo j).mono k)) (w.kept u _)
 .obtain⟨_,_,rfl,y,l⟩:=P.inv
  rename_i m
  refine J8 g s d H _ v c f lo j q Q I r L N O ⟨_,_,rfl,y.sq,λp u=>?_⟩;have k:=Kp.new u (.lst (cutV m lo j));exact h p (w.free u) _ _ k (.ref p) (w.put k ((l.cut lo j).mono k))
 .obtain rfl:=P.inv;obtain⟨T,y,h⟩:=h;obtain⟨m,e,l⟩:=w.lst y;refine J8 g s d H _ v c f lo j q Q I r L N O ⟨_,_,rfl,SqL.of e,λp u=>?_⟩;have k:=Kp.new u (.lst (cutV m lo j));exact h p (w.free u) _ _ k (.ref p) (w.put k ((l.cut lo j).mono k))
 .exact h.elim
end
def tyM(M:MH):MV->Option Ty7
 |.non=>some .none|.bl _=>some .bool|.int _=>some .int|.str _=>some .str|.tup _=>some .tuple
 |.ref a=>match M a with|some (.lst _)=>some .list|some (.dic _)=>some .dict|_=>none
 |_=>none
noncomputable def isTy:Ty7->Ty7->Bool
 |.bool,.int=>true
 |a,b=>decide (a=b)
theorem EG(K:X4)(T c:Ty7)(j:c≠.none):UU K (.type T.name) (.type c.name)=some (isTy T c):=by
 cases T<;>cases c<;>first|exact absurd rfl j|with_unfolding_all rfl
theorem K7{K:X4}(j:RH K M H)(r:RM K H m v)(e:tyM M m=some T):TyOf K H v (.type T.name):=by
 cases r with
 |non=>cases e;exact .non
 |bl b=>cases e;exact .bl b
 |int i=>cases e;exact .int i
 |str x=>cases e;exact .str x
 |tup h _=>cases e;exact .tup h
 |frl _ _=>cases e
 |ty _=>cases e
 |ref a=>
  unfold tyM at e;dsimp only at e;cases q:M a with
  |none=>rw[q]at e;cases e
  |some o=>
   rw[q]at e;cases o with
   |lst w=>cases e;obtain⟨l,h,_⟩:=j.lst q;exact .lst h
   |dic u=>cases e;obtain⟨l,h,_⟩:=j.dic q;exact .dK h
   |ins _ _=>cases e
   |fdic _ _=>cases e
inductive BI where|len|isinst|max|min|sum|abs|int|list|tuple|dict|sorted|dictL|all
  deriving DecidableEq
noncomputable def bLen(vs:List MV)(M:MH)(Q:QM):Prop:=match vs with
 |[.tup j]=>Q (.int j.length) M
 |[.frl j]=>Q (.int j.length) M
 |[.str z]=>z.length<=sizeLine/\Q (.int z.length) M
 |[.ref a]=>(∃j,M a=some (.lst j)/\Q (.int j.length) M)\/∃l,M a=some (.dic l)/\Q (.int l.length) M
 |_=>False
def bIsi(vs:List MV)(M:MH)(Q:QM):Prop:=match vs with
 |[x,.ty c]=>∃T,tyM M x=some T/\c≠.none/\Q (.bl (isTy T c)) M
 |[x,.tup [.ty c,.ty d]]=>∃T,tyM M x=some T/\c≠.none/\d≠.none/\Q (.bl (isTy T c||isTy T d)) M
 |_=>False
noncomputable def bMax(vs:List MV)(M:MH)(Q:QM):Prop:=match vs with
 |[.int i,.int j]=>Q (.int (if j>i then j else i)) M
 |_=>False
noncomputable def bMin(vs:List MV)(M:MH)(Q:QM):Prop:=match vs with
 |[.int i,.int j]=>Q (.int (if j<i then j else i)) M
 |_=>False
noncomputable def bInt(vs:List MV)(M:MH)(Q:QM):Prop:=match vs with
 |[.bl k]=>Q (.int (if k then 1 else 0)) M
 |_=>False
def bLst(vs:List MV)(M:MH)(Q:QM):Prop:=match vs with
 |[.tup j]=>∀p,M p=none->Q (.ref p) (updM M p (.lst j))
 |[.ref a]=>∃j,M a=some (.lst j)/\∀p,M p=none->Q (.ref p) (updM M p (.lst j))
 |_=>False
noncomputable def bTup(vs:List MV)(M:MH)(Q:QM):Prop:=match vs with
 |[.ref a]=>∃j,M a=some (.lst j)/\Q (.tup j) M
 |_=>False
noncomputable def prM(p:Key×MV):MV:=.tup [match p.1 with|.inl i=>.int i|.inr x=>.str x,p.2]
def YK(ps:List (Key×MV)):List (Key×MV):=ps.foldl (λc z=>putM c z.1 z.2) []
def bDic(vs:List MV)(M:MH)(Q:QM):Prop:=match vs with
 |[.ref a]=>∃j,M a=some (.dic j)/\∀p,M p=none->Q (.ref p) (updM M p (.dic j))
 |[.tup xs]=>∃l:List (Key×MV),xs=l.map prM/\∀p,M p=none->Q (.ref p) (updM M p (.dic (YK l)))
 |_=>False
def bDcl(vs:List MV)(M:MH)(Q:QM):Prop:=match vs with
 |[.ref a]=>∃j:List (Key×MV),M a=some (.lst (j.map prM))/\∀p,M p=none->Q (.ref p) (updM M p (.dic (YK j)))
 |_=>False
set_option tactic.hygienic true in
theorem K8{K:X4}:∀{ps:List (Key×MV)} {vs:List V},RMs K H (ps.map prM) vs->∃j:List (Key×V),ED H j vs/\RKs K H ps j:=by
 intro ps
 induction ps with
 |nil=>intro vs h;cases h;exact⟨[],.nil,.nil⟩
 |cons p r l=>
  obtain⟨k,x⟩:=p;intro vs h;have h:RMs K H (prM (k,x)::r.map prM) vs:=h;cases h with
  |cons a u=>
   obtain⟨j,w,y⟩:=l u;obtain⟨_,_,rfl,e,t⟩:=a.inv;cases t with
   |cons z m=>
    cases m with
    |cons g d=>
     cases d
     rename_i f c
     refine⟨(k,c)::j,.cons ⟨_,rfl,?_⟩ w,.cons g y⟩;rw[e];cases k<;>cases z<;>rfl
theorem EH{K:X4}:∀{ps:List (Key×MV)} {j:List (Key×V)} {c:List (Key×MV)} {l:List (Key×V)},RKs K H ps j->RKs K H c l->(c.map (·.1)).Nodup->
  RKs K H (ps.foldl (λc z=>putM c z.1 z.2) c) (j.foldl (λc z=>putK c z.1 z.2) l)/\((ps.foldl (λc z=>putM c z.1 z.2) c).map (·.1)).Nodup
 |_,_,_,_,.nil,h,nd=>⟨h,nd⟩
 |_,_,_,_,.cons r t,h,nd=>by
  obtain⟨a,b⟩:=JW r nd h;have z:=EH t a b;exact z
noncomputable def bAll(vs:List MV)(M:MH)(Q:QM):Prop:=match vs with
 |[.ref a]=>∃bs:List Bool,M a=some (.lst (bs.map MV.bl))/\Q (.bl (bs.all id)) M
 |_=>False
theorem RMs.bls_of{K:X4}{H:Hp}{bs:List Bool}{vs:List V}(h:RMs K H (bs.map MV.bl) vs):vs=bs.map V.bl:=h.map_of λ_ _ x=>by cases x;rfl
def wBi(f:BI)(vs:List MV)(M:MH)(Q:QM):Prop:=match f with
 |.len=>bLen vs M Q
 |.isinst=>bIsi vs M Q
 |.max=>bMax vs M Q
 |.min=>bMin vs M Q
 |.sum=>False
 |.abs=>False
 |.int=>bInt vs M Q
 |.list=>bLst vs M Q
 |.tuple=>bTup vs M Q
 |.dict=>bDic vs M Q
 |.sorted=>False
 |.dictL=>bDcl vs M Q
 |.all=>bAll vs M Q
theorem _nV:MonW bLen:=by
 intro y M Q z j h;unfold bLen at h ⊢;split at h
 .exact j _ _ h
 .exact j _ _ h
 .exact⟨h.1,j _ _ h.2⟩
 .rcases h with⟨l,u,w⟩|⟨l,u,w⟩
  .exact .inl ⟨l,u,j _ _ w⟩
  .exact .inr ⟨l,u,j _ _ w⟩
 .exact h.elim
theorem K9(f:BI):MonW (wBi f):=by
 intro j M Q y w h;cases f
 .exact _nV w h
 .have h:bIsi j M Q:=h;show bIsi j M y;unfold bIsi at h ⊢;split at h
  .obtain⟨T,l,u,g⟩:=h;exact⟨T,l,u,w _ _ g⟩
  .obtain⟨T,l,u,g,d⟩:=h;exact⟨T,l,u,g,w _ _ d⟩
  .exact h.elim
 .have h:bMax j M Q:=h;show bMax j M y;unfold bMax at h ⊢;split at h
  .exact w _ _ h
  .exact h.elim
 .have h:bMin j M Q:=h;show bMin j M y;unfold bMin at h ⊢;split at h
  .exact w _ _ h
  .exact h.elim
 .exact Y2 h
 .exact Y2 h
 .have h:bInt j M Q:=h;show bInt j M y;unfold bInt at h ⊢;split at h
  .exact w _ _ h
  .exact h.elim
 .have h:bLst j M Q:=h;show bLst j M y;unfold bLst at h ⊢;split at h
  .exact λp z=>w _ _ (h p z)
  .obtain⟨m,l,u⟩:=h;exact⟨m,l,λp z=>w _ _ (u p z)⟩
  .exact h.elim
 .have h:bTup j M Q:=h;show bTup j M y;unfold bTup at h ⊢;split at h
  .obtain⟨m,l,u⟩:=h;exact⟨m,l,w _ _ u⟩
  .exact h.elim
 .have h:bDic j M Q:=h;show bDic j M y;unfold bDic at h ⊢;split at h
  .obtain⟨m,l,u⟩:=h;exact⟨m,l,λp z=>w _ _ (u p z)⟩
  .obtain⟨m,l,u⟩:=h;exact⟨m,l,λp z=>w _ _ (u p z)⟩
  .exact h.elim
 .exact Y2 h
 .have h:bDcl j M Q:=h;show bDcl j M y;unfold bDcl at h ⊢;split at h
  .obtain⟨c,l,u⟩:=h;exact⟨c,l,λp z=>w _ _ (u p z)⟩
  .exact h.elim
 .have h:bAll j M Q:=h;show bAll j M y;unfold bAll at h ⊢;split at h
  .obtain⟨bs,l,u⟩:=h;exact⟨bs,l,w _ _ u⟩
  .exact h.elim
noncomputable def BI.val:BI->X0
 |.len=>.builtin "len"|.isinst=>.builtin "isinstance"|.max=>.builtin "max"|.min=>.builtin "min"|.sum=>.builtin "sum"|.abs=>.builtin "abs"
 |.int=>.type "int"|.list=>.type "list"|.tuple=>.type "tuple"|.dict=>.type "dict"|.sorted=>.builtin "sorted"|.dictL=>.type "dict"|.all=>.builtin "all"
section
variable{X:Cx}
theorem RMs.one{K:X4}(r:RMs K H [m] vs):∃v,vs=[v]/\RM K H m v:=by
 obtain⟨_,_,rfl,a,b⟩:=r.inv;cases b;exact⟨_,rfl,a⟩
theorem RMs.two{K:X4}(r:RMs K H [m,n] vs):∃v w,vs=[v,w]/\RM K H m v/\RM K H n w:=by
 obtain⟨_,_,rfl,a,b⟩:=r.inv;obtain⟨w,rfl,c⟩:=b.one;exact⟨_,_,rfl,a,c⟩
theorem _fz:Yw X (.type "dict") (fun xs H Q=>∃a j,xs=[.ref a]/\H a=some (.dK j)/\∀p,H p=none->Q (.ref p) (upd H p (.dK j))):=by
 intro m s g H xs d Q I r h;obtain⟨a,j,rfl,l,q⟩:=h;obtain⟨u,rfl,w⟩:=_n r;cases w;exact _lC I (.inl l) λp c y z=>⟨.ref p,_,z,rfl,q p y⟩
theorem _oH(P:X.calm=true)(f:BI):Yw X f.val (liW X.K (wBi f)):=by
 intro y s m H R g Q I r h;obtain⟨L,M,c,j,h⟩:=h;cases f with
 |len=>
  have h:bLen L M (Dn X.K H Q):=h;unfold bLen at h;split at h
  .obtain⟨v,rfl,a⟩:=c.one;obtain⟨_,_,rfl,l,u⟩:=a.inv;exact Ey y s m H _ g Q I r ⟨_,_,rfl,.inr (SqT.of l),by rw[<-u.length];exact h _ _ (Kp.refl _) (.int _) j⟩
  .obtain⟨v,rfl,a⟩:=c.one;obtain⟨_,_,rfl,l,u⟩:=a.inv;exact Ey y s m H _ g Q I r ⟨_,_,rfl,.inl l.sq,by rw[<-u.length];exact h _ _ (Kp.refl _) (.int _) j⟩
  .obtain⟨v,rfl,a⟩:=c.one;obtain rfl:=a.inv;exact _fx y s m H _ g Q I r ⟨_,rfl,h.1,h.2 _ _ (Kp.refl _) (.int _) j⟩
  .obtain⟨v,rfl,a⟩:=c.one;obtain rfl:=a.inv;rcases h with⟨R,l,h⟩|⟨U,l,h⟩
   .obtain⟨N,e,u⟩:=j.lst l;exact Ey y s m H _ g Q I r ⟨_,_,rfl,.inl (SqL.of e),by rw[<-u.length];exact h _ _ (Kp.refl _) (.int _) j⟩
   .obtain⟨N,e,u,_⟩:=j.dic l;exact _k9 y s m H _ g Q I r ⟨_,_,rfl,e,by rw[<-u.length];exact h _ _ (Kp.refl _) (.int _) j⟩
  .exact h.elim
 |isinst=>
  have h:bIsi L M (Dn X.K H Q):=h;unfold bIsi at h;split at h
  .obtain⟨v,w,rfl,a,b⟩:=c.two;obtain rfl:=b.inv;obtain⟨T,l,O,W⟩:=h;exact _gx y s m H _ g Q I r ⟨_,_,_,_,rfl,K7 j a l,EG _ _ _ O,W _ _ (Kp.refl _) (.bl _) j⟩
  .obtain⟨v,w,rfl,a,b⟩:=c.two;obtain⟨T,l,O,W,B⟩:=h;obtain⟨_,_,rfl,C,D⟩:=b.inv;cases D with
   |cons u E=>
    cases E with
    |cons F G=>
     cases G;cases u;cases F;exact _fy y s m H _ g Q I r ⟨_,_,_,_,_,_,_,rfl,C,K7 j a l,EG _ _ _ O,EG _ _ _ W,B _ _ (Kp.refl _) (.bl _) j⟩
  .exact h.elim
 |max=>
  have h:bMax L M (Dn X.K H Q):=h;unfold bMax at h;split at h
  .obtain⟨v,w,rfl,a,b⟩:=c.two;obtain rfl:=a.inv;obtain rfl:=b.inv;exact _k7 P y s m H _ g Q I r ⟨_,_,rfl,h _ _ (Kp.refl _) (.int _) j⟩
  .exact h.elim
 |min=>
  have h:bMin L M (Dn X.K H Q):=h;unfold bMin at h;split at h
  .obtain⟨v,w,rfl,a,b⟩:=c.two;obtain rfl:=a.inv;obtain rfl:=b.inv;exact _k6 P y s m H _ g Q I r ⟨_,_,rfl,h _ _ (Kp.refl _) (.int _) j⟩
  .exact h.elim
 |sum=>exact Y2 h
 |abs=>exact Y2 h
 |int=>
  have h:bInt L M (Dn X.K H Q):=h;unfold bInt at h;split at h
  .obtain⟨v,rfl,a⟩:=c.one;obtain rfl:=a.inv;exact _ka y s m H _ g Q I r (.inr ⟨_,rfl,h _ _ (Kp.refl _) (.int _) j⟩)
  .exact h.elim
 |list=>
  have h:bLst L M (Dn X.K H Q):=h;unfold bLst at h;split at h
  .obtain⟨v,rfl,a⟩:=c.one;obtain⟨_,_,rfl,l,u⟩:=a.inv;refine Jb y s m H _ g Q I r ⟨_,_,rfl,.inr (SqT.of l),λp d=>?_⟩;have k:=λz=>Kp.new d (.lst z);exact h p (j.free d) _ _ (k _) (.ref p) (j.put (k _) (u.mono (k _)))
  .obtain⟨v,rfl,a⟩:=c.one;obtain rfl:=a.inv;obtain⟨R,l,h⟩:=h;obtain⟨N,e,u⟩:=j.lst l;refine Jb y s m H _ g Q I r ⟨_,_,rfl,.inl (SqL.of e),λp d=>?_⟩;have k:=Kp.new d (.lst N);exact h p (j.free d) _ _ k (.ref p) (j.put k (u.mono k))
  .exact h.elim
 |tuple=>
  have h:bTup L M (Dn X.K H Q):=h;unfold bTup at h;split at h
  .obtain⟨v,rfl,a⟩:=c.one;obtain rfl:=a.inv;obtain⟨R,l,h⟩:=h;obtain⟨N,e,u⟩:=j.lst l;refine _eg y s m H _ g Q I r ⟨_,_,rfl,.inl ⟨SqL.of e,λp d=>?_⟩⟩;have k:=Kp.new d (.tup N);exact h _ _ k (.tup _I (u.mono k)) (j.kept d _)
  .exact h.elim
 |dict=>
  have h:bDic L M (Dn X.K H Q):=h;unfold bDic at h;split at h
  .obtain⟨v,rfl,a⟩:=c.one;obtain rfl:=a.inv;obtain⟨U,l,h⟩:=h;obtain⟨N,e,u,J⟩:=j.dic l;refine _fz y s m H _ g Q I r ⟨_,_,rfl,e,λp d=>?_⟩;have k:=Kp.new d (.dK N);exact h p (j.free d) _ _ k (.ref p) (j.put k ⟨u.mono k,J⟩)
  .obtain⟨v,rfl,a⟩:=c.one;obtain⟨S,rfl,O⟩:=h;obtain⟨_,_,rfl,e,u⟩:=a.inv;obtain⟨q,pv,Y⟩:=K8 u;refine _gy P y s m H _ g Q I r ⟨_,q,_,rfl,e,pv,λp d=>?_⟩;have k:=Kp.new d (.dK (ZM q));obtain⟨Z,A⟩:=EH Y (.nil:RKs X.K H [] []) (by simp)
   exact O p (j.free d) _ _ k (.ref p) (j.put k ⟨Z.mono k,A⟩)
  .exact h.elim
 |sorted=>exact Y2 h
 |dictL=>
  have h:bDcl L M (Dn X.K H Q):=h;unfold bDcl at h;split at h
  .obtain⟨v,rfl,a⟩:=c.one;obtain rfl:=a.inv;obtain⟨S,l,O⟩:=h;obtain⟨N,e,u⟩:=j.lst l;obtain⟨q,pv,Y⟩:=K8 u;refine _ia P y s m H _ g Q I r ⟨_,q,N,rfl,e,pv,λp d=>?_⟩;have k:=Kp.new d (.dK (ZM q));obtain⟨Z,A⟩:=EH Y (.nil:RKs X.K H [] []) (by simp)
   exact O p (j.free d) _ _ k (.ref p) (j.put k ⟨Z.mono k,A⟩)
  .exact h.elim
 |all=>
  have h:bAll L M (Dn X.K H Q):=h;unfold bAll at h;split at h
  .obtain⟨v,rfl,a⟩:=c.one;obtain rfl:=a.inv;obtain⟨bs,l,O⟩:=h;obtain⟨N,e,u⟩:=j.lst l;have:=u.bls_of;subst this;exact _kb P y s m H _ g Q I r ⟨_,bs,rfl,SqL.of e,O _ _ (Kp.refl _) (.bl _) j⟩
  .exact h.elim
end
theorem RMs.strs{K:X4}:∀j:List Str,RMs K H (j.map MV.str) (j.map V.str)
 |[]=>.nil
 |n::r=>.cons (.str n) (RMs.strs r)
theorem RMs.strs_of{K:X4}{H:Hp}{j:List Str}{vs:List V}(h:RMs K H (j.map MV.str) vs):vs=j.map V.str:=h.map_of λ_ _ x=>by cases x;rfl
theorem Ka{K:X4}(f:Nat->Int):∀l:List Nat,RMs K H (l.map λi=>MV.int (f i)) (l.map λi=>V.int (f i))
 |[]=>.nil
 |_::r=>.cons (.int _) (Ka f r)
theorem _iH{K:X4}(n:Nat):RMs K H ((Xt n).map λi=>MV.int (i:Nat)) ((Xt n).map λi=>V.int (i:Nat)):=Ka (λi=>(i:Int)) _
inductive B2 where|ssrt|lset|tset|lrng
  deriving DecidableEq
noncomputable def B2.out:B2->String
 |.ssrt=>"sorted"
 |.lset=>"len"
 |.tset=>"len"
 |.lrng=>"list"
noncomputable def B2.inn:B2->String
 |.ssrt=>"set"
 |.lset=>"set"
 |.tset=>"set"
 |.lrng=>"range"
noncomputable def B2.outV:B2->X0
 |.ssrt=>.builtin "sorted"
 |.lset=>.builtin "len"
 |.tset=>.builtin "len"
 |.lrng=>.type "list"
def wB2(f:B2)(v:MV)(M:MH)(Q:QM):Prop:=match f with
 |.ssrt=>∃(a:Addr) (j N:List Str),v=.ref a/\M a=some (.lst (j.map MV.str))/\j.length+1<scanBound/\(∀z∈j,z∈N)/\N.length<64/\
   ∀p (l:List Str),M p=none->l.Nodup->(∀y,y∈l↔y∈j)->sortedS l=true->Q (.ref p) (updM M p (.lst (l.map MV.str)))
 |.lset=>False
 |.tset=>False
 |.lrng=>∃n:Nat,v=.int n/\n<=1000000/\∀p,M p=none->Q (.ref p) (updM M p (.lst ((Xt n).map λi=>MV.int (i:Nat))))
theorem Kb(f:B2):Mon1 (wB2 f):=by
 intro v M Q O w h;cases f with
 |ssrt=>
  obtain⟨a,y,N,j,l,u,z,m,g⟩:=h;exact⟨a,y,N,j,l,u,z,m,λp d c q r e=>w _ _ (g p d c q r e)⟩
 |lset=>exact Y2 h
 |tset=>exact Y2 h
 |lrng=>
  obtain⟨n,j,l,u⟩:=h;exact⟨n,j,l,λp L=>w _ _ (u p L)⟩
section
variable{X:Cx}
theorem _oI(g:X.calm=true)(f:B2):WX X f.outV (.type f.inn) (li1 X.K (wB2 f)):=by
 intro d s c H x u Q I r h;obtain⟨m,M,q,j,h⟩:=h;cases f with
 |ssrt=>
  obtain⟨a,L,N,rfl,w,y,O,P,R⟩:=h;obtain rfl:=q.inv;obtain⟨Z,e,T⟩:=j.lst w;have:=T.strs_of;subst this;refine _k4 g d s c H _ u Q I r ⟨_,L,N,rfl,SqL.of e,y,O,P,λp z l U W Y=>?_⟩;have k:=Kp.new l (.lst (z.map V.str));exact R p z (j.free l) U W Y _ _ k (.ref p) (j.put k (RMs.strs z))
 |lset=>exact Y2 h
 |tset=>exact Y2 h
 |lrng=>
  obtain⟨n,rfl,w,y⟩:=h;obtain rfl:=q.inv;refine _k8 g d s c H _ u Q I r ⟨n,rfl,w,λp l=>?_⟩;have k:=Kp.new l (.lst ((Xt n).map λi=>V.int (i:Nat)));exact y p (j.free l) _ _ k (.ref p) (j.put k (_iH n))
end
inductive MT where|append|extend|reverse
  deriving DecidableEq
def wMt(m:MT)(a:Addr)(vs:List MV)(M:MH)(Q:QM):Prop:=∃j,M a=some (.lst j)/\match m,vs with
 |.append,[y]=>j.length<sizeLine/\Q .non (updM M a (.lst (j++[y])))
 |.extend,[.ref b]=>∃l,M b=some (.lst l)/\j.length+l.length<=sizeLine/\Q .non (updM M a (.lst (j++l)))
 |.reverse,[]=>Q .non (updM M a (.lst j.reverse))
 |_,_=>False
def wMl(m:MT)(x:MV)(vs:List MV)(M:MH)(Q:QM):Prop:=match x with
 |.ref a=>wMt m a vs M Q
 |_=>False
noncomputable def MT.isL:MT->Bool
 |_=>true
noncomputable def MT.ty:MT->String
 |_=>"list"
noncomputable def mtOk(m:MT)(x:MV)(M:MH):Prop:=match m with
 |_=>∃a j,x=.ref a/\M a=some (.lst j)
def wMts(m:MT)(x:MV)(vs:List MV)(M:MH)(Q:QM):Prop:=match m with
 |m=>wMl m x vs M Q
theorem Kc(h:m.isL=true):wMts m x vs M Q=wMl m x vs M Q:=by cases m<;>first|rfl|cases h
theorem _qk(j:∀m M',Q m M'->Q' m M')(h:wMl m a vs M Q):wMl m a vs M Q':=by
 cases a<;>try exact h.elim
 obtain⟨l,u,h⟩:=h;refine⟨l,u,?_⟩;split at h
 .exact⟨h.1,j _ _ h.2⟩
 .obtain⟨w,a,b,c⟩:=h;exact⟨w,a,b,j _ _ c⟩
 .exact j _ _ h
 .exact h.elim
theorem EI{m:MT}{a:MV}{vs:List MV}{M:MH}{Q j:QM}(l:∀m M',Q m M'->j m M')(h:wMts m a vs M Q):wMts m a vs M j:=by
 cases e:m.isL
 .cases m<;>cases e
 .rw[Kc e]at h ⊢;exact _qk l h
noncomputable def MT.id:MT->String
 |.append=>"list.append"|.extend=>"list.extend"|.reverse=>"list.reverse"
def liM(K:X4)(w:MV->List MV->MH->QM->Prop):V->List V->Hp->VK->Prop:=λx u H Q=>∃j l M,RM K H j x/\RMs K H l u/\RH K M H/\w j l M (Dn K H Q)
section
variable{X:Cx}
theorem _nR(m:MT):MtR X m.id (liM X.K (wMl m)):=by
 intro y s z H x T v g Q I d f h;obtain⟨U,W,M,N,q,l,h⟩:=h;cases N<;>try exact h.elim
 obtain⟨Y,O,h⟩:=h;obtain⟨r,e,u⟩:=l.lst O;have j:∀o,Kp H (upd H _ o):=λo=>Kp.upd e rfl o;split at h
 .obtain⟨w,rfl,p⟩:=q.one;exact Je y s z H _ _ v g Q I d f ⟨_,r,w,rfl,rfl,e,by rw[<-u.length];exact h.1,h.2 _ _ (j _) .non (l.put (j _) ((u.append (.cons p .nil)).mono (j _)))⟩
 .obtain⟨w,rfl,p⟩:=q.one;obtain rfl:=p.inv;obtain⟨Z,a,b,c⟩:=h;obtain⟨P,R,L⟩:=l.lst a;exact _j0 y s z H _ _ v g Q I d f ⟨_,_,r,P,rfl,rfl,e,R,by rw[<-u.length,<-L.length];exact b,c _ _ (j _) .non (l.put (j _) ((u.append L).mono (j _)))⟩
 .obtain rfl:=q.inv;exact _hJ y s z H _ _ v g Q I d f ⟨_,r,rfl,rfl,e,h _ _ (j _) .non (l.put (j _) (u.rev.mono (j _)))⟩
 .exact h.elim
theorem Kd(r:X.A.units+1<cLine)(m:MT):MtR X m.id (liM X.K (wMts m)):=by
 intro j s l H x u v w Q I y z h;obtain⟨g,d,M,c,f,q,h⟩:=h;cases e:m.isL
 .cases m<;>cases e
 .rw[Kc e]at h;exact _nR m j s l H x u v w Q I y z ⟨g,d,M,c,f,q,h⟩
end
def wPut(o i v:MV)(M:MH)(Q:MH->Prop):Prop:=match o with
 |.ref a=>(∃u k j,M a=some (.lst u)/\i=.int k/\ixN u.length k=some j/\Q (updM M a (.lst (u.set j v))))\/∃l w,M a=some (.dic l)/\keyM i=some w/\l.length<sizeLine/\Q (updM M a (.dic (putM l w v)))
 |_=>False
theorem Ke{o i v:MV}{M:MH}{Q m:MH->Prop}(g:∀M',Q M'->m M')(h:wPut o i v M Q):wPut o i v M m:=by
 cases o<;>try exact h.elim
 rcases h with⟨d,k,j,l,u,w,y⟩|⟨z,c,l,u,w,y⟩
 .exact .inl ⟨d,k,j,l,u,w,g _ y⟩
 .exact .inr ⟨z,c,l,u,w,g _ y⟩
def DnH(K:X4)(H:Hp)(Q:Hp->Prop):MH->Prop:=λM=>∀j,Kp H j->RH K M j->Q j
def Kf(K:X4):TSet:=λo i v H Q=>∃j l mv M,RM K H j o/\RM K H l i/\RM K H mv v/\RH K M H/\wPut j l mv M (DnH K H Q)
section
variable{X:Cx}
theorem _mX(O:X.A.units+1<cLine):PSet X (Kf X.K):=by
 intro P s R H o i v f T u Q I q r p h;obtain⟨D,E,mv,M,U,L,N,w,h⟩:=h;cases U<;>try exact h.elim
 rcases h with⟨F,k,j,z,rfl,m,g⟩|⟨W,d,z,Y,m,g⟩
 .obtain rfl:=L.inv;obtain⟨y,e,l⟩:=w.lst z;have k:=Kp.upd e rfl (.lst (y.set j v));exact _kK P s R H _ _ v f T u Q I q r p ⟨_,y,_,j,rfl,rfl,e,by rw[<-l.length];exact m,g _ k (w.put k ((l.set N j).mono k))⟩
 .obtain⟨y,e,l,Z⟩:=w.dic z;have A:=WZ Y L;subst A;obtain rfl:f=Xn _:=q;have k:=Kp.upd e rfl (.dK (putK y d v));obtain⟨B,c⟩:=JW (k:=d) N Z l;exact _jY O I (DPut.k (k:=d) e (by rw[<-l.length];exact m)) r p λG C=>⟨_,C,g _ k (w.put k ⟨B.mono k,c⟩)⟩
end
end L2
namespace L2
set_option genInjectivity false
set_option genCtorIdx false
open PySem PySem.Spec PyProof.Rows
mutual
inductive ITg where|nm (i:Nat)|tup (ts:ITgs)
inductive ITgs where|nil|cons (t:ITg)(ts:ITgs)
end
mutual
inductive IE where
 |var (i:Nat)
 |int (i:Int)|str (x:Str)|bl (b:Bool)|non
 |glb (x:Str)(i:Int)
 |ty (c:Ty7)
 |bin (op:Um)(a b:IE)
 |neg (a:IE)
 |not (a:IE)
 |cmp (op:CmpOp)(a b:IE)
 |chn (op op':CmpOp)(a b c:IE)
 |and (a b:IE)
 |or (a b:IE)
 |ife (c a b:IE)
 |tup (es:IEs)
 |lst (es:IEs)
 |dic
 |ix (a b:IE)
 |sl (a:IE)(lo hi:IO)
 |call (j:Nat)(e:IE)(es:IEs)
 |bi (f:BI)(e:IE)(es:IEs)
 |b2 (f:B2)(e:IE)
 |mt (m:MT)(o:IE)(es:IEs)
 |comp (own:List Str)(fr:List Nat)(src:ISr)(tg:ITg)(test:IO)(elt:IE)
 |fld (c:Str)(o:IE)(f:Str)
 |mcall (j:Nat)(c m:Str)(o:IE)(es:IEs)
 |make (j:Nat)(c:Str)(e:IE)(es:IEs)
 |disp (ps:IPs)
 |mxd (e:IE)
 |st3 (e:IE)
inductive IPs where|nil|cons (k v:IE)(r:IPs)
inductive IEs where|nil|cons (e:IE)(es:IEs)
inductive IO where|none|some (e:IE)
inductive ISr where|seq (e:IE)|rng (e:IE)
end
def wSt3(v:MV)(M:MH)(Q:QM):Prop:=∃(a:Addr) (j:List MV),v=.ref a/\M a=some (.lst j)/\∀p,M p=none->Q (.ref p) (updM M p (.lst (st3 j)))
theorem _nS(j:∀v M,Q v M->Q' v M)(h:wSt3 v M Q):wSt3 v M Q':=by
 obtain⟨a,l,u,w,y⟩:=h;exact⟨a,l,u,w,λp z=>j _ _ (y p z)⟩
noncomputable def wMxd(v:MV)(M:MH)(Q:QM):Prop:=∃(a:Addr) (j:List Int),v=.ref a/\M a=some (.lst (j.map MV.int))/\∀m,(j=[]/\m=0\/m∈j/\∀i∈j,i<=m)->Q (.int m) M
theorem _nT(j:∀v M,Q v M->Q' v M)(h:wMxd v M Q):wMxd v M Q':=by
 obtain⟨a,l,u,w,y⟩:=h;exact⟨a,l,u,w,λm z=>j _ _ (y m z)⟩
inductive Src where|tup (xs:List MV)|lst (a:Addr)(xs:List MV)|rng (lo:Int)(n:Nat)|str (x:Str)
noncomputable def Src.items:Src->List MV
 |.tup xs=>xs
 |.lst _ xs=>xs
 |.rng lo n=>(Xt n).map λi=>.int (lo+(i:Nat))
 |.str x=>x.cps.toList.map λc=>.str ⟨#[c]⟩
def Src.ok(M:MH):Src->Prop
 |.lst a xs=>M a=some (.lst xs)
 |_=>True
def Src.okF(M:MH):Src->Prop
 |.lst a xs=>M a=some (.lst xs)
 |_=>True
def Src.okT(M:MH):Src->Prop
 |_=>True
def Src.thaw(M:MH):Src->MH
 |_=>M
noncomputable def Src.len:Src->Nat
 |.tup xs=>xs.length
 |.lst _ xs=>xs.length
 |.rng _ n=>n
 |.str x=>x.cps.size
theorem Src.items_len(S:Src):S.items.length=S.len:=by cases S<;>simp[Src.items,Src.len]
abbrev SpM:=List MV->MH->QM->Prop
abbrev TSm:=Sm->MH->(Src->MH->Prop)->Prop
mutual
def wTg:ITg->MV->Sm->(Sm->Prop)->Prop
 |.nm i,v,σ,Q=>Q (σ.set i (some v))
 |.tup ts,v,σ,Q=>∃xs,v=.tup xs/\wTgs ts xs σ Q
def wTgs:ITgs->List MV->Sm->(Sm->Prop)->Prop
 |.nil,xs,σ,Q=>xs=[]/\Q σ
 |.cons t ts,xs,σ,Q=>∃v r,xs=v::r/\wTg t v σ λj=>wTgs ts r j Q
end
noncomputable def sCm(own:List Str)(fr:List Nat)(j:Sm):Sm:=own.map (λ_=>none)++fr.map (λi=>j.getD i none)
noncomputable def onV(o:Option (Option MV))(k:MV->Prop):Prop:=match o with
 |some (some v)=>k v
 |_=>False
theorem _qd{k:MV->Prop}:onV o k=∃v,o=some (some v)/\k v:=by
 refine propext ⟨λh=>?_,fun⟨v,e,h⟩=>by subst e;exact h⟩
 match o,h with
 |some (some v),h=>exact⟨v,rfl,h⟩
noncomputable def onB(x:MV)(k:Bool->Prop):Prop:=match x with
 |.bl c=>k c
 |_=>False
theorem VX{k:Bool->Prop}:onB x k=∃c,x=.bl c/\k c:=by
 refine propext ⟨λh=>?_,fun⟨v,e,h⟩=>by subst e;exact h⟩
 cases x<;>first|exact⟨_,rfl,h⟩|exact h.elim
noncomputable def onF(o:Option (Str×SpM))(k:SpM->Prop):Prop:=match o with
 |some p=>k p.2
 |none=>False
theorem _qe{k:SpM->Prop}:onF o k=∃f sp,o=some (f,sp)/\k sp:=by
 refine propext ⟨λh=>?_,fun⟨f,v,e,h⟩=>by subst e;exact h⟩
 match o,h with
 |some (f,sp),h=>exact⟨f,sp,rfl,h⟩
mutual
def wE(Φ:List (Str×SpM)):IE->TEm
 |.var i,σ,M,Q=>onV σ[i]? λv=>Q v M
 |.int i,_,M,Q=>Q (.int i) M
 |.str x,_,M,Q=>Q (.str x) M
 |.bl b,_,M,Q=>Q (.bl b) M
 |.non,_,M,Q=>Q .non M
 |.glb _ i,_,M,Q=>Q (.int i) M
 |.ty c,_,M,Q=>Q (.ty c) M
 |.bin op a b,σ,M,Q=>wE Φ a σ M λx M1=>wE Φ b σ M1 λy M2=>wBin op x y M2 Q
 |.neg a,σ,M,Q=>wE Φ a σ M λx M1=>∃i,x=.int i/\Q (.int (-i)) M1
 |.not a,σ,M,Q=>wE Φ a σ M λx M1=>onB x λb=>Q (.bl (!b)) M1
 |.cmp op a b,σ,M,Q=>wE Φ a σ M λx M1=>wE Φ b σ M1 λy M2=>wCmp op x y M2 Q
 |.chn op op' a b c,σ,M,Q=>wE Φ a σ M λx M1=>wE Φ b σ M1 λy M2=>wCmp op x y M2 λz g=>onB z λk=>(if k=true then wE Φ c σ g λw q=>wCmp op' y w q Q else Q (.bl false) g)
 |.and a b,σ,M,Q=>wE Φ a σ M λx M1=>onB x λc=>(if c=true then wE Φ b σ M1 Q else Q (.bl false) M1)
 |.or a b,σ,M,Q=>wE Φ a σ M λx M1=>onB x λc=>(if c=true then Q (.bl true) M1 else wE Φ b σ M1 Q)
 |.ife c a b,σ,M,Q=>wE Φ c σ M λx M1=>onB x λk=>(if k=true then wE Φ a σ M1 Q else wE Φ b σ M1 Q)
 |.tup es,σ,M,Q=>wEs Φ es σ M λvs M1=>vs.length<=sizeLine/\Q (.tup vs) M1
 |.lst es,σ,M,Q=>wEs Φ es σ M λvs M1=>vs.length<=sizeLine/\∀p,M1 p=none->Q (.ref p) (updM M1 p (.lst vs))
 |.dic,_,M,Q=>∀p,M p=none->Q (.ref p) (updM M p (.dic []))
 |.ix a b,σ,M,Q=>wE Φ a σ M λx M1=>wE Φ b σ M1 λy M2=>wIx x y M2 Q
 |.sl a lo hi,σ,M,Q=>wE Φ a σ M λx M1=>wO Φ lo σ M1 λl M2=>wO Φ hi σ M2 λh g=>wSl x l h g Q
 |.call j e es,σ,M,Q=>wE Φ e σ M λv M1=>wEs Φ es σ M1 λvs M2=>onF Φ[j]? λsp=>sp (v::vs) M2 Q
 |.bi f e es,σ,M,Q=>wE Φ e σ M λv M1=>wEs Φ es σ M1 λvs M2=>wBi f (v::vs) M2 Q
 |.b2 f e,σ,M,Q=>wE Φ e σ M λv M1=>wB2 f v M1 Q
 |.mxd e,σ,M,Q=>wE Φ e σ M λv M1=>wMxd v M1 Q
 |.st3 e,σ,M,Q=>wE Φ e σ M λv M1=>wSt3 v M1 Q
 |.mt m o es,σ,M,Q=>wE Φ o σ M λx M1=>mtOk m x M1/\wEs Φ es σ M1 λvs M2=>wMts m x vs M2 Q
 |.comp own fr src tg test elt,σ,M,Q=>wSr Φ src σ M λS M1=>S.len<sizeLine/\∀D,M1 D=none->∃J:Nat->List MV->MH->Prop,J 0 [] (updM M1 D (.lst []))/\
   (∀i ys M2,J i ys M2->M2 D=some (.lst ys)/\ys.length<=i/\S.ok M2)/\
   (∀i x ys M2,S.items[i]?=some x->J i ys M2->wTg tg x (sCm own fr σ) λd=>wI Φ test d M2 λb q=>
    if b=true then wE Φ elt d q λy L=>L D=some (.lst ys)/\J (i+1) (ys++[y]) (updM L D (.lst (ys++[y])))else J (i+1) ys q)/\
   ∀ys M2,J S.len ys M2->Q (.ref D) (S.thaw M2)
 |.fld c o f,σ,M,Q=>wE Φ o σ M λx M1=>∃a fs v,x=.ref a/\M1 a=some (.ins c fs)/\valM fs f=some v/\Q v M1
 |.mcall j c m o es,σ,M,Q=>wE Φ o σ M λx M1=>∃a fs,x=.ref a/\M1 a=some (.ins c fs)/\valM fs m=none/\wEs Φ es σ M1 λvs M2=>∃f sp,Φ[j]?=some (f,sp)/\sp (.ref a::vs) M2 Q
 |.make j c e es,σ,M,Q=>wE Φ e σ M λv M1=>wEs Φ es σ M1 λvs M2=>∃f sp,Φ[j]?=some (f,sp)/\∀p,M2 p=none->sp (.ref p::v::vs) (updM M2 p (.ins c [])) λu g=>u=.non/\Q (.ref p) g
 |.disp ps,σ,M,Q=>∀p,M p=none->wPs Φ ps σ (updM M p (.dic [])) λl M2=>M2 p=some (.dic [])/\l.length<=15/\Q (.ref p) (updM M2 p (.dic (YK l)))
def wPs(Φ:List (Str×SpM)):IPs->Sm->MH->(List (Key×MV)->MH->Prop)->Prop
 |.nil,_,M,Q=>Q [] M
 |.cons k v r,σ,M,Q=>wE Φ k σ M λx M1=>∃N,keyM x=some N/\wE Φ v σ M1 λy M2=>wPs Φ r σ M2 λl g=>Q ((N,y)::l) g
def wEs(Φ:List (Str×SpM)):IEs->TAm
 |.nil,_,M,Q=>Q [] M
 |.cons e es,σ,M,Q=>wE Φ e σ M λv M1=>wEs Φ es σ M1 λvs M2=>Q (v::vs) M2
def wO(Φ:List (Str×SpM)):IO->Sm->MH->(Option Int->MH->Prop)->Prop
 |.none,_,M,Q=>Q none M
 |.some e,σ,M,Q=>wE Φ e σ M λv M1=>∃i,v=.int i/\Q (some i) M1
def wI(Φ:List (Str×SpM)):IO->Sm->MH->(Bool->MH->Prop)->Prop
 |.none,_,M,Q=>Q true M
 |.some e,σ,M,Q=>wE Φ e σ M λv M1=>∃b,v=.bl b/\Q b M1
def wSr(Φ:List (Str×SpM)):ISr->TSm
 |.seq e,σ,M,Q=>wE Φ e σ M λv M1=>(∃xs,(v=.tup xs\/v=.frl xs)/\Q (.tup xs) M1)\/(∃a xs,v=.ref a/\M1 a=some (.lst xs)/\Q (.lst a xs) M1)\/False\/∃z,v=.str z/\Q (.str z) M1
 |.rng e,σ,M,Q=>wE Φ e σ M λv M1=>∃j,v=.int j/\ -(2^62)<=j/\j<2^62/\Q (.rng 0 j.toNat) M1
end
section
variable{Φ:List (Str×SpM)}{σ:Sm}{M:MH}{Q:QM}
theorem Kg{i:Nat}:wE Φ (.var i) σ M Q=∃v,σ[i]?=some (some v)/\Q v M:=_qd
theorem EJ{a:IE}:wE Φ (.not a) σ M Q=wE Φ a σ M λx M1=>∃b,x=.bl b/\Q (.bl (!b)) M1:=congrArg (wE Φ a σ M) (funext λ_=>funext λ_=>VX)
theorem Kh:wE Φ (.chn op op' a b c) σ M Q=wE Φ a σ M λx M1=>wE Φ b σ M1 λy M2=>wCmp op x y M2 λz j=>∃k,z=.bl k/\(if k=true then wE Φ c σ j λw l=>wCmp op' y w l Q else Q (.bl false) j):=congrArg (wE Φ a σ M) (funext λ_=>funext λ_=>congrArg (wE Φ b σ _) (funext λ_=>funext λ_=>congrArg (wCmp op _ _ _) (funext λ_=>funext λ_=>VX)))
theorem EK{a b:IE}:wE Φ (.and a b) σ M Q=wE Φ a σ M λx M1=>∃c,x=.bl c/\(if c=true then wE Φ b σ M1 Q else Q (.bl false) M1):=congrArg (wE Φ a σ M) (funext λ_=>funext λ_=>VX)
theorem x_or{a b:IE}:wE Φ (.or a b) σ M Q=wE Φ a σ M λx M1=>∃c,x=.bl c/\(if c=true then Q (.bl true) M1 else wE Φ b σ M1 Q):=congrArg (wE Φ a σ M) (funext λ_=>funext λ_=>VX)
theorem Ki{a b c:IE}:wE Φ (.ife c a b) σ M Q=wE Φ c σ M λx M1=>∃k,x=.bl k/\(if k=true then wE Φ a σ M1 Q else wE Φ b σ M1 Q):=congrArg (wE Φ c σ M) (funext λ_=>funext λ_=>VX)
theorem Kj{j:Nat}{e:IE}{es:IEs}:wE Φ (.call j e es) σ M Q=wE Φ e σ M λv M1=>wEs Φ es σ M1 λvs M2=>∃f sp,Φ[j]?=some (f,sp)/\sp (v::vs) M2 Q:=congrArg (wE Φ e σ M) (funext λ_=>funext λ_=>congrArg (wEs Φ es σ _) (funext λ_=>funext λ_=>_qe))
end
mutual
theorem V7:∀(t:ITg){v:MV} {j:Sm} {Q l:Sm->Prop},(∀j,Q j->l j)->wTg t v j Q->wTg t v j l
 |.nm i,v,j,Q,l,hq,h=>by exact hq _ h
 |.tup ts,v,j,Q,l,hq,h=>by
  obtain⟨xs,e,h⟩:=h;exact⟨xs,e,mon_tgs ts hq h⟩
theorem mon_tgs:∀(t:ITgs){v:List MV} {j:Sm} {Q l:Sm->Prop},(∀j,Q j->l j)->wTgs t v j Q->wTgs t v j l
 |.nil,v,j,Q,l,hq,h=>by exact⟨h.1,hq _ h.2⟩
 |.cons t ts,v,j,Q,l,hq,h=>by
  obtain⟨x,r,e,h⟩:=h;exact⟨x,r,e,V7 t (λu h'=>mon_tgs ts hq h') h⟩
end
theorem YL{c:Prop} [Decidable c] {A B j l:Prop}(u:A->j)(w:B->l)(h:if c then A else B):if c then j else l:=by
 split at h
 .rw[if_pos (by assumption)];exact u h
 .rw[if_neg (by assumption)];exact w h
mutual
theorem Xa{Φ:List (Str×SpM)}(u:∀(j:Nat)f sp,Φ[j]?=some (f,sp)->MonW sp):∀e:IE,MonE (wE Φ e)
 |.var i,g,M,Q,d,hq,h=>by rw[Kg]at h ⊢;obtain⟨v,e,h⟩:=h;exact⟨v,e,hq _ _ h⟩
 |.int _,g,M,Q,d,hq,h=>by exact hq _ _ h
 |.str _,g,M,Q,d,hq,h=>by exact hq _ _ h
 |.bl _,g,M,Q,d,hq,h=>by exact hq _ _ h
 |.non,g,M,Q,d,hq,h=>by exact hq _ _ h
 |.glb _ _,g,M,Q,d,hq,h=>by exact hq _ _ h
 |.ty _,g,M,Q,d,hq,h=>by exact hq _ _ h
 |.bin op a b,g,M,Q,d,hq,h=>by
  exact Xa u a (λx M1 h1=>Xa u b (λy M2 h2=>JP op hq h2) h1) h
 |.neg a,g,M,Q,d,hq,h=>by
  exact Xa u a (λx M1 ⟨i,e,h1⟩=>⟨i,e,hq _ _ h1⟩) h
 |.not a,g,M,Q,d,hq,h=>by
  rw[EJ]at h ⊢;exact Xa u a (λx M1 ⟨i,e,h1⟩=>⟨i,e,hq _ _ h1⟩) h
 |.cmp op a b,g,M,Q,d,hq,h=>by
  exact Xa u a (λx M1 h1=>Xa u b (λy M2 h2=>VU op hq h2) h1) h
 |.chn op op' a b c,g,M,Q,d,hq,h=>by
  rw[Kh]at h ⊢;exact Xa u a (λx M1 h1=>Xa u b (λy M2 h2=>VU op (λz O ⟨k,e,h3⟩=>⟨k,e,YL (Xa u c λw C h4=>VU op' hq h4) (hq _ _) h3⟩) h2) h1) h
 |.and a b,g,M,Q,d,hq,h=>by
  rw[EK]at h ⊢;exact Xa u a (λx M1 ⟨c,e,h1⟩=>⟨c,e,YL (Xa u b hq) (hq _ _) h1⟩) h
 |.or a b,g,M,Q,d,hq,h=>by
  rw[x_or]at h ⊢;exact Xa u a (λx M1 ⟨c,e,h1⟩=>⟨c,e,YL (hq _ _) (Xa u b hq) h1⟩) h
 |.ife c a b,g,M,Q,d,hq,h=>by
  rw[Ki]at h ⊢;exact Xa u c (λx M1 ⟨k,e,h1⟩=>⟨k,e,YL (Xa u a hq) (Xa u b hq) h1⟩) h
 |.tup es,g,M,Q,d,hq,h=>by
  exact mon_es u es (λvs M1 ⟨e,h1⟩=>⟨e,hq _ _ h1⟩) h
 |.lst es,g,M,Q,d,hq,h=>by
  exact mon_es u es (λvs M1 ⟨e,h1⟩=>⟨e,λp q=>hq _ _ (h1 p q)⟩) h
 |.dic,g,M,Q,d,hq,h=>by
  exact λp q=>hq _ _ (h p q)
 |.ix a b,g,M,Q,d,hq,h=>by
  exact Xa u a (λx M1 h1=>Xa u b (λy M2 h2=>K4 hq h2) h1) h
 |.sl a lo hi,g,M,Q,d,hq,h=>by
  exact Xa u a (λx M1 h1=>mon_o u lo (λy M2 h2=>mon_o u hi (λz O h3=>K6 hq h3) h2) h1) h
 |.call j e es,g,M,Q,d,hq,h=>by
  rw[Kj]at h ⊢;exact Xa u e (λx M1 h1=>mon_es u es (λy M2 ⟨f,sp,e,h2⟩=>⟨f,sp,e,u _ _ _ e hq h2⟩) h1) h
 |.bi f e es,g,M,Q,d,hq,h=>by
  exact Xa u e (λx M1 h1=>mon_es u es (λy M2 h2=>K9 f hq h2) h1) h
 |.b2 f e,g,M,Q,d,hq,h=>by
  exact Xa u e (λx M1 h1=>Kb f hq h1) h
 |.mxd e,g,M,Q,d,hq,h=>by
  exact Xa u e (λx M1 h1=>_nT hq h1) h
 |.st3 e,g,M,Q,d,hq,h=>by
  exact Xa u e (λx M1 h1=>_nS hq h1) h
 |.mt m o es,g,M,Q,d,hq,h=>by
  exact Xa u o (λx M1 ⟨P,h1⟩=>⟨P,mon_es u es (λy M2 h2=>EI hq h2) h1⟩) h
 |.comp own fr src tg test elt,g,M,Q,d,hq,h=>by
  exact mon_sr u src (λS M1 ⟨R,h1⟩=>⟨R,λD T=>by
   obtain⟨J,U,W,Y,Z⟩:=h1 D T;exact⟨J,U,W,Y,λys M2 A=>hq _ _ (Z ys M2 A)⟩⟩) h
 |.fld c o f,g,M,Q,d,hq,h=>by
  exact Xa u o (λx M1 ⟨a,fs,v,e,L,N,h1⟩=>⟨a,fs,v,e,L,N,hq _ _ h1⟩) h
 |.mcall j c m o es,g,M,Q,d,hq,h=>by
  exact Xa u o (λx M1 ⟨a,fs,e,L,N,h1⟩=>⟨a,fs,e,L,N,mon_es u es (λy M2 ⟨f,sp,e,h2⟩=>⟨f,sp,e,u _ _ _ e hq h2⟩) h1⟩) h
 |.make j c e es,g,M,Q,d,hq,h=>by
  exact Xa u e (λx M1 h1=>mon_es u es (λy M2 ⟨f,sp,e,h2⟩=>⟨f,sp,e,λp q=>u _ _ _ e (λm M' z=>⟨z.1,hq _ _ z.2⟩) (h2 p q)⟩) h1) h
 |.disp ps,g,M,Q,d,hq,h=>by
  exact λp q=>mon_ps u ps (λl M2 ⟨e,L,h1⟩=>⟨e,L,hq _ _ h1⟩) (h p q)
theorem mon_ps(u:∀(j:Nat)f sp,Φ[j]?=some (f,sp)->MonW sp):∀(e:IPs){g M} {Q d:List (Key×MV)->MH->Prop},(∀m M',Q m M'->d m M')->wPs Φ e g M Q->wPs Φ e g M d
 |.nil,g,M,Q,d,hq,h=>by exact hq _ _ h
 |.cons k v r,g,M,Q,d,hq,h=>by
  exact Xa u k (λx M1 ⟨B,e,h1⟩=>⟨B,e,Xa u v (λy M2 h2=>mon_ps u r (λl O h3=>hq _ _ h3) h2) h1⟩) h
theorem mon_es{Φ:List (Str×SpM)}(u:∀(j:Nat)f sp,Φ[j]?=some (f,sp)->MonW sp):∀e:IEs,MonA (wEs Φ e)
 |.nil,g,M,Q,d,hq,h=>by exact hq _ _ h
 |.cons e es,g,M,Q,d,hq,h=>by
  exact Xa u e (λx M1 h1=>mon_es u es (λy M2 h2=>hq _ _ h2) h1) h
theorem mon_o{Φ:List (Str×SpM)}(u:∀(j:Nat)f sp,Φ[j]?=some (f,sp)->MonW sp):∀(e:IO){g M} {Q d:Option Int->MH->Prop},(∀m M',Q m M'->d m M')->wO Φ e g M Q->wO Φ e g M d
 |.none,g,M,Q,d,hq,h=>by exact hq _ _ h
 |.some e,g,M,Q,d,hq,h=>by
  exact Xa u e (λx M1 ⟨i,e,h1⟩=>⟨i,e,hq _ _ h1⟩) h
theorem mon_i(u:∀(j:Nat)f sp,Φ[j]?=some (f,sp)->MonW sp):∀(e:IO){g M} {Q d:Bool->MH->Prop},(∀m M',Q m M'->d m M')->wI Φ e g M Q->wI Φ e g M d
 |.none,g,M,Q,d,hq,h=>by exact hq _ _ h
 |.some e,g,M,Q,d,hq,h=>by
  exact Xa u e (λx M1 ⟨i,e,h1⟩=>⟨i,e,hq _ _ h1⟩) h
theorem mon_sr{Φ:List (Str×SpM)}(u:∀(j:Nat)f sp,Φ[j]?=some (f,sp)->MonW sp):∀(e:ISr){g M} {Q d:Src->MH->Prop},(∀m M',Q m M'->d m M')->wSr Φ e g M Q->wSr Φ e g M d
 |.seq e,g,M,Q,d,hq,h=>by
  exact Xa u e (λx M1 h1=>by
   rcases h1 with⟨xs,e,h1⟩|⟨a,xs,e,L,h1⟩|h1|⟨z,e,h1⟩
   .exact .inl ⟨xs,e,hq _ _ h1⟩
   .exact .inr (.inl ⟨a,xs,e,L,hq _ _ h1⟩)
   .exact h1.elim
   .exact .inr (.inr (.inr ⟨z,e,hq _ _ h1⟩))) h
 |.rng e,g,M,Q,d,hq,h=>by
  exact Xa u e (λx M1 ⟨j,e,a,b,h1⟩=>⟨j,e,a,b,hq _ _ h1⟩) h
end
end L2
namespace L2
open PySem PySem.Spec PyProof.Rows
structure GI where
 bl:List Str
 gl:List (Str×Int)
 fns:List Str
 mts:List (Nat×Str×Str):=[]
 mks:List (Nat×Str):=[]
 cls:List (Str×Str):=[]
noncomputable def visB(j:Scope)(x:Str):Bool:=match j.names.lookup x with
 |some .local=>true|some .cell=>true|some .free=>true|_=>false
noncomputable def locB(j:Scope)(x:Str):Bool:=match j.names.lookup x with
 |some .local=>true|some .cell=>true|_=>false
noncomputable def glB(j:Scope)(x:Str):Bool:=decide (j.names.lookup x=some .globalImplicit)&& !(x==("__debug__":Str))&&decide (x≠"__name__")
noncomputable def VY(scope j:Scope):Scope:={scope with names:=scope.names.map fun(n,k)=>if(k==.free&&j.kind==.function&&j.names.lookup n==some .cell)then(n,.cell)else(n,k)}
noncomputable def BI.name:BI->String
 |.len=>"len"|.isinst=>"isinstance"|.max=>"max"|.min=>"min"|.sum=>"sum"|.abs=>"abs"|.int=>"int"|.list=>"list"|.tuple=>"tuple"|.dict=>"dict"|.sorted=>"sorted"|.dictL=>"dict"|.all=>"all"
noncomputable def MT.name:MT->String
 |.append=>"append"|.extend=>"extend"|.reverse=>"reverse"
noncomputable def A3:Expr->Bool
 |.Slice ..=>false|_=>true
noncomputable def A4:Expr->Bool
 |.Set ..=>false|_=>true
noncomputable def tok:IE->Bool
 |.ife ..=>false
 |.not a=>tok a
 |.and a b=>tok a&&tok b
 |.or a b=>tok a&&tok b
 |_=>true
noncomputable def YU:Expr->Option Str|.Name x _=>some x|_=>none
noncomputable def V8:Expr->Option Const|.Constant c _ _=>some c|_=>none
noncomputable def D4:Expr->Option (Expr×Um×Expr)|.BinOp l o r _=>some (l,o,r)|_=>none
noncomputable def asUn:Expr->Option (UnaryOp×Expr)|.UnaryOp o x _=>some (o,x)|_=>none
noncomputable def A5:Expr->Option (Expr×List CmpOp×List Expr)|.Compare l o r _=>some (l,o,r)|_=>none
noncomputable def A6:Expr->Option (BoolOp×List Expr×Pos)|.BoolOp o vs p=>some (o,vs,p)|_=>none
noncomputable def asIf:Expr->Option (Expr×Expr×Expr)|.IfExp t x y _=>some (t,x,y)|_=>none
noncomputable def VZ:Expr->Option (List Expr)|.Tuple xs _ _=>some xs|_=>none
noncomputable def D5:Expr->Option (List Expr)|.List xs _=>some xs|_=>none
noncomputable def EL:Expr->Option (List (Option Expr)×List Expr)|.Dict ks vs _=>some (ks,vs)|_=>none
noncomputable def W0:Expr->Option (Expr×Expr)|.Subscript x y _=>some (x,y)|_=>none
noncomputable def asSl:Expr->Option (Option Expr×Option Expr×Option Expr)|.Slice l u s _=>some (l,u,s)|_=>none
noncomputable def Zo:Expr->Option (Expr×List Expr×List Z1×Pos)|.Call f xs ks p=>some (f,xs,ks,p)|_=>none
noncomputable def V9:Expr->Option (Expr×Str×Pos)|.Attribute o n p=>some (o,n,p)|_=>none
noncomputable def asLC:Expr->Option (Expr×List Comprehension×Scope)|.ListComp e gs sc _=>some (e,gs,sc)|_=>none
noncomputable def the1{j:Type}:List j->Option j|[x]=>some x|_=>none
noncomputable def the2{j:Type}:List j->Option (j×j)|[x,y]=>some (x,y)|_=>none
noncomputable def hd1{j:Type}:List j->Option (j×List j)|x::r=>some (x,r)|_=>none
noncomputable def hd2{j:Type}:List j->Option (j×j×List j)|x::y::r=>some (x,y,r)|_=>none
noncomputable def non0{j:Type}:List j->Bool|[]=>true|_=>false
theorem nos{j:Type}{x:j}{C:Prop}(h:none=some x):C:=nomatch h
theorem nob{C:Prop}(h:false=true):C:=nomatch h
theorem Xg{j:Type}{o:Option j}{p:j->Bool}(h:o.any p=true):∃x,o=some x/\p x=true:=by
 cases o with
 |none=>cases h
 |some x=>exact⟨x,rfl,h⟩
section
variable{e:Expr}
theorem _8{x:Str}(h:YU e=some x):∃p,e=.Name x p:=by revert h;cases e<;>first|exact nos|(intro h;cases h;exact⟨_,rfl⟩)
theorem A7{x:Const}(h:V8 e=some x):∃k p,e=.Constant x k p:=by revert h;cases e<;>first|exact nos|(intro h;cases h;exact⟨_,_,rfl⟩)
theorem Kk{x:Expr×Um×Expr}(h:D4 e=some x):∃p,e=.BinOp x.1 x.2.1 x.2.2 p:=by revert h;cases e<;>first|exact nos|(intro h;cases h;exact⟨_,rfl⟩)
theorem EM{x:UnaryOp×Expr}(h:asUn e=some x):∃p,e=.UnaryOp x.1 x.2 p:=by revert h;cases e<;>first|exact nos|(intro h;cases h;exact⟨_,rfl⟩)
theorem EN{x:Expr×List CmpOp×List Expr}(h:A5 e=some x):∃p,e=.Compare x.1 x.2.1 x.2.2 p:=by revert h;cases e<;>first|exact nos|(intro h;cases h;exact⟨_,rfl⟩)
theorem EO{x:BoolOp×List Expr×Pos}(h:A6 e=some x):e=.BoolOp x.1 x.2.1 x.2.2:=by revert h;cases e<;>first|exact nos|(intro h;cases h;rfl)
theorem Kl{x:Expr×Expr×Expr}(h:asIf e=some x):∃p,e=.IfExp x.1 x.2.1 x.2.2 p:=by revert h;cases e<;>first|exact nos|(intro h;cases h;exact⟨_,rfl⟩)
theorem D6{x:List Expr}(h:VZ e=some x):∃k p,e=.Tuple x k p:=by revert h;cases e<;>first|exact nos|(intro h;cases h;exact⟨_,_,rfl⟩)
theorem Km{x:List Expr}(h:D5 e=some x):∃p,e=.List x p:=by revert h;cases e<;>first|exact nos|(intro h;cases h;exact⟨_,rfl⟩)
theorem _lM{x:List (Option Expr)×List Expr}(h:EL e=some x):∃p,e=.Dict x.1 x.2 p:=by revert h;cases e<;>first|exact nos|(intro h;cases h;exact⟨_,rfl⟩)
theorem D7{x:Expr×Expr}(h:W0 e=some x):∃p,e=.Subscript x.1 x.2 p:=by revert h;cases e<;>first|exact nos|(intro h;cases h;exact⟨_,rfl⟩)
theorem _oP{x:Option Expr×Option Expr×Option Expr}(h:asSl e=some x):∃p,e=.Slice x.1 x.2.1 x.2.2 p:=by revert h;cases e<;>first|exact nos|(intro h;cases h;exact⟨_,rfl⟩)
theorem Ue{x:Expr×List Expr×List Z1×Pos}(h:Zo e=some x):e=.Call x.1 x.2.1 x.2.2.1 x.2.2.2:=by revert h;cases e<;>first|exact nos|(intro h;cases h;rfl)
theorem A8{x:Expr×Str×Pos}(h:V9 e=some x):e=.Attribute x.1 x.2.1 x.2.2:=by revert h;cases e<;>first|exact nos|(intro h;cases h;rfl)
theorem Ko{x:Expr×List Comprehension×Scope}(h:asLC e=some x):∃p,e=.ListComp x.1 x.2.1 x.2.2 p:=by revert h;cases e<;>first|exact nos|(intro h;cases h;exact⟨_,rfl⟩)
theorem _p{j:Type}{l:List j}{x:j}(h:the1 l=some x):l=[x]:=by
 match l,h with
 |[_],h=>cases h;rfl
theorem Kq{j:Type}{l:List j}{x:j×j}(h:the2 l=some x):l=[x.1,x.2]:=by
 match l,h with
 |[_,_],h=>cases h;rfl
theorem Uf{j:Type}{l:List j}{x:j×List j}(h:hd1 l=some x):l=x.1::x.2:=by
 match l,h with
 |_::_,h=>cases h;rfl
theorem Kr{j:Type}{l:List j}{x:j×j×List j}(h:hd2 l=some x):l=x.1::x.2.1::x.2.2:=by
 match l,h with
 |_::_::_,h=>cases h;rfl
theorem Yy{j:Type}{l:List j}(h:non0 l=true):l=[]:=by
 match l,h with
 |[],_=>rfl
end
def Yz(e:Expr):Bool:=(YU e).isSome||(V8 e).isSome||(D4 e).isSome||(asUn e).isSome||(A5 e).isSome||(A6 e).isSome||(asIf e).isSome||(VZ e).isSome||(D5 e).isSome||(EL e).isSome||(W0 e).isSome||(Zo e).isSome||(asLC e).isSome||(V9 e).isSome
mutual
def Z9(j:Scope)(N:List Str)(lim:Nat)(all:Bool):ITg->Expr->Bool
 |.nm i,e=>(YU e).any λx=>decide (N[i]?=some x)&&decide (i<lim)&&(if all then locB j x else decide (j.names.lookup x=some .local))
 |.tup ts,e=>(VZ e).any λes=>chkTgs j N lim all ts es
def chkTgs(j:Scope)(N:List Str)(lim:Nat)(all:Bool):ITgs->List Expr->Bool
 |.nil,l=>non0 l
 |.cons t ts,l=>(hd1 l).any λq=>Z9 j N lim all t q.1&&chkTgs j N lim all ts q.2
end
mutual
def chkE(G:GI):IE->Scope->List Str->Expr->Bool
 |.var i,sc,N,e=>(YU e).any fun x=>decide (N[i]?=some x)&&visB sc x&& !(x==("__debug__":Str))&& !(x==("__classdict__":Str))
 |.int i,_,_,e=>(V8 e).any λc=>decide (c=.int i)
 |.str x,_,_,e=>(V8 e).any λc=>decide (c=.str x)
 |.bl b,_,_,e=>(V8 e).any λc=>decide (c=.bool b)
 |.non,_,_,e=>(V8 e).any λc=>decide (c=.none)
 |.glb x i,sc,_,e=>(YU e).any λy=>decide (x=y)&&decide (G.gl.lookup x=some i)&&glB sc x
 |.ty c,sc,_,e=>(YU e).any λy=>decide (y=(c.name:Str))&&decide (c≠.none)&&G.bl.contains y&&glB sc y
 |.bin op a b,sc,N,e=>(D4 e).any λq=>decide (op=q.2.1)&&chkE G a sc N q.1&&chkE G b sc N q.2.2
 |.neg a,sc,N,e=>(asUn e).any λq=>decide (q.1=.USub)&&chkE G a sc N q.2
 |.not a,sc,N,e=>(asUn e).any λq=>decide (q.1=.Not)&&chkE G a sc N q.2
 |.cmp op a b,sc,N,e=>(A5 e).any λq=>(the1 q.2.1).any λo=>(the1 q.2.2).any λr=>decide (op=o)&&chkE G a sc N q.1&&chkE G b sc N r&& !behindInMarks op r
 |.chn op op' a b c,sc,N,e=>(A5 e).any λq=>(the2 q.2.1).any λo=>(the2 q.2.2).any λr=>decide (op=o.1)&&decide (op'=o.2)&&chkE G a sc N q.1&&chkE G b sc N r.1&&chkE G c sc N r.2&& !lastMarks [op,op'] [r.1,r.2]
 |.and a b,sc,N,e=>(A6 e).any λq=>(hd2 q.2.1).any λv=>decide (q.1=.And)&&chkE G a sc N v.1&&chkE G b sc N (if non0 v.2.2 then v.2.1 else .BoolOp .And (v.2.1::v.2.2) q.2.2)
 |.or a b,sc,N,e=>(A6 e).any λq=>(hd2 q.2.1).any λv=>decide (q.1=.Or)&&chkE G a sc N v.1&&chkE G b sc N (if non0 v.2.2 then v.2.1 else .BoolOp .Or (v.2.1::v.2.2) q.2.2)
 |.ife c a b,sc,N,e=>(asIf e).any λq=>tok c&&chkE G c sc N q.1&&chkE G a sc N q.2.1&&chkE G b sc N q.2.2
 |.tup es,sc,N,e=>(VZ e).any λxs=>chkEs G es sc N xs
 |.lst es,sc,N,e=>(D5 e).any λxs=>chkEs G es sc N xs
 |.dic,_,_,_=>false
 |.ix a b,sc,N,e=>(W0 e).any λq=>chkE G a sc N q.1&&chkE G b sc N q.2&&A3 q.2
 |.sl a lo hi,sc,N,e=>(W0 e).any λq=>(asSl q.2).any λs=>chkE G a sc N q.1&&chkO G lo sc N s.1&&chkO G hi sc N s.2.1&& !s.2.2.isSome
 |.call j f es,sc,N,e=>(Zo e).any λq=>(YU q.1).any λg=>(hd1 q.2.1).any λx=>non0 q.2.2.1&&decide (G.fns[j]?=some g)&&glB sc g&&chkE G f sc N x.1&&chkEs G es sc N x.2
 |.bi f a es,sc,N,e=>(Zo e).any λq=>(YU q.1).any λg=>(hd1 q.2.1).any λx=>non0 q.2.2.1&&decide (g=(f.name:Str))&&G.bl.contains g&&glB sc g&&chkE G a sc N x.1&&chkEs G es sc N x.2
 |.b2 f a,sc,N,e=>(Zo e).any λq=>(YU q.1).any λg=>(the1 q.2.1).any λy=>(Zo y).any λr=>(YU r.1).any λk=>(the1 r.2.1).any λx=>non0 q.2.2.1&&non0 r.2.2.1&&decide (g=(f.out:Str))&&decide (k=(f.inn:Str))&&G.bl.contains g&&G.bl.contains k&&glB sc g&&glB sc k&&chkE G a sc N x
 |.st3 a,_,_,_=>false
 |.mxd a,_,_,_=>false
 |.mt m o es,sc,N,e=>(Zo e).any λq=>(V9 q.1).any λa=>non0 q.2.2.1&&decide (a.2.1=(m.name:Str))&&(a.2.2.endLine==q.2.2.2.line)&&chkE G o sc N a.1&&chkEs G es sc N q.2.1&&decide (q.2.1.length<20)
 |.comp own fr src tg test elt,sc,N,e=>(asLC e).any λq=>(the1 q.2.1).any λg=>VQ sc q.2.2 N own fr&&A4 g.iter&&decide (nC own fr N).Nodup&&chkSr G src sc N g.iter&&Z9 (VY q.2.2 sc) (nC own fr N) own.length false tg g.target&&
   chkI G test (VY q.2.2 sc) (nC own fr N) g.ifs&&chkE G elt (VY q.2.2 sc) (nC own fr N) q.1&&decide (g.is_async=0)
 |.fld c o f,sc,N,e=>(V9 e).any λa=>decide (a.2.1=f)&&G.cls.contains (c,f)&&chkE G o sc N a.1
 |.mcall j c m o es,sc,N,e=>(Zo e).any λq=>(V9 q.1).any λa=>non0 q.2.2.1&&decide (a.2.1=m)&&G.mts.contains (j,c,m)&&chkE G o sc N a.1&&chkEs G es sc N q.2.1&&(a.2.2.endLine==q.2.2.2.line)&&decide (q.2.1.length<20)
 |.make j c a es,sc,N,e=>(Zo e).any λq=>(YU q.1).any λg=>(hd1 q.2.1).any λx=>non0 q.2.2.1&&decide (g=c)&&G.mks.contains (j,c)&&glB sc g&&chkE G a sc N x.1&&chkEs G es sc N x.2
 |.disp ps,_,_,_=>false
def A9(G:GI):IPs->Scope->List Str->List (Option Expr)->List Expr->Bool
 |.nil,_,_,l,r=>non0 l&&non0 r
 |.cons k v ps,sc,N,l,r=>(hd1 l).any λq=>(hd1 r).any λs=>q.1.any λx=>chkE G k sc N x&&chkE G v sc N s.1&&A9 G ps sc N q.2 s.2
def chkEs(G:GI):IEs->Scope->List Str->List Expr->Bool
 |.nil,_,_,l=>non0 l
 |.cons e es,sc,N,l=>(hd1 l).any λq=>chkE G e sc N q.1&&chkEs G es sc N q.2
def chkO(G:GI):IO->Scope->List Str->Option Expr->Bool
 |.none,_,_,o=>!o.isSome
 |.some e,sc,N,o=>o.any λx=>chkE G e sc N x
def chkI(G:GI):IO->Scope->List Str->List Expr->Bool
 |.none,_,_,l=>non0 l
 |.some e,sc,N,l=>(the1 l).any λx=>tok e&&chkE G e sc N x
def chkSr(G:GI):ISr->Scope->List Str->Expr->Bool
 |.seq a,sc,N,e=>chkE G a sc N e
 |.rng a,sc,N,e=>(Zo e).any fun q=>(YU q.1).any fun f=>(the1 q.2.1).any fun x=>non0 q.2.2.1&&decide (f=("range":Str))&&G.bl.contains f&&glB sc f&&chkE G a sc N x
end
def liSp(K:X4)(sp:SpM):Sp:=λl H Q _=>∃j M,RMs K H j l/\RH K M H/\sp j M (Dn K H Q)
structure Cok (X:Cx)(G:GI)(Φ:List (Str×SpM)):Prop where
 room:X.A.units+70<cLine
 calm:X.calm=true
 nox:X.xe=λ_ _=>False
 blk:X.env.blockKind=.function
 nd:X.N.Nodup
 bls:∀x,G.bl.contains x=true->X.mg x=none
 gls:∀x i,G.gl.lookup x=some i->∃tk,X.mg x=some (.int i tk)
 fnn:∀(j:Nat)f,G.fns[j]?=some f->∃sp,Φ[j]?=some (f,sp)
 mon:∀(j:Nat)f sp,Φ[j]?=some (f,sp)->MonW sp
 fns:∀(j:Nat)f sp,G.fns[j]?=some f->Φ[j]?=some (f,sp)->∃k fa fd ps,Room k X.A/\FnOk X.prog X.w X.K X.mg X.base CX0 k fa fd ps (liSp X.K sp)/\X.mg f=some (.ref fa)/\YI X.K (.ref fa)=true/\Binds X.K fd ps []
 mts:∀(j:Nat)c m,G.mts.contains (j,c,m)=true->∃f sp,Φ[j]?=some (f,sp)/\∃k C fa fd ps,Room k X.A/\FnOk X.prog X.w X.K X.mg X.base CX0 k fa fd ps (liSp X.K sp)/\Xy X.K Xp c=some (some (.ref C))/\Cls X.K C/\Meth X.K C m fa/\Binds X.K fd ps []
 mks:∀(j:Nat)c,G.mks.contains (j,c)=true->∃f sp,Φ[j]?=some (f,sp)/\∃k C fa fd ps,Room (k+1) X.A/\FnOk X.prog X.w X.K X.mg X.base CX0 k fa fd ps (liSp X.K sp)/\Xy X.K Xp c=some (some (.ref C))/\X.mg c=some (.ref C)/\Mk X.K C fa/\Binds X.K fd ps []
 cls:∀c f,G.cls.contains (c,f)=true->∃C,Xy X.K Xp c=some (some (.ref C))/\Cls X.K C/\NoAttr X.K C f
section
variable{X:Cx}{G:GI}{Φ:List (Str×SpM)}
theorem _p5{j:Scope}{x:Str}(h:visB j x=true):Vis j x:=by
 unfold visB at h;unfold Vis;cases e:j.names.lookup x with
 |none=>rw[e]at h;cases h
 |some k=>rw[e]at h;cases k<;>first|exact .inl rfl|exact .inr (.inl rfl)|exact .inr (.inr rfl)|cases h
theorem D9{j:Scope}{x:Str}(h:locB j x=true):Loc j x:=by
 unfold locB at h;unfold Loc;cases e:j.names.lookup x with
 |none=>rw[e]at h;cases h
 |some k=>rw[e]at h;cases k<;>first|exact .inl rfl|exact .inr rfl|cases h
theorem UF{x:Str}(h:glB X.env.scope x=true):Gl X x/\(x==("__debug__":Str))=false/\x≠"__name__":=by
 unfold glB at h;simp only[XX,decide_eq_true_eq,Bool.not_eq_true']at h;exact⟨h.1.1,h.1.2,h.2⟩
theorem _oK(f:BI):YB (f.name:Str)=some f.val:=by cases f<;>(show YB _=some _;decide+kernel)
theorem _oJ{c:Ty7}(h:c≠.none):YB (c.name:Str)=some (.type c.name):=by cases c<;>first|exact absurd rfl h|decide+kernel
theorem boot_range:YB ("range":Str)=some (.type "range"):=by decide+kernel
theorem _i8:∀{j:IE} {z:Scope} {N:List Str} {e:Expr},chkE G j z N e=true->Yz e=true:=by
 intro j z N e h;have go:∀{m:Type} {o:Option m} {p:m->Bool},o.any p=true->(∀x,o=some x->Yz e=true)->Yz e=true:=λh g=>let⟨x,e,_⟩:=Xg h;g x e
 have d:∀x,YU e=some x->Yz e=true:=λx h=>by obtain⟨p,rfl⟩:=_8 h;rfl
 have c:∀x,V8 e=some x->Yz e=true:=λx h=>by obtain⟨k,p,rfl⟩:=A7 h;rfl
 have f:∀x,D4 e=some x->Yz e=true:=λx h=>by obtain⟨p,rfl⟩:=Kk h;rfl
 have q:∀x,asUn e=some x->Yz e=true:=λx h=>by obtain⟨p,rfl⟩:=EM h;rfl
 have r:∀x,A5 e=some x->Yz e=true:=λx h=>by obtain⟨p,rfl⟩:=EN h;rfl
 have L:∀x,A6 e=some x->Yz e=true:=λx h=>by obtain rfl:=EO h;rfl
 have O:∀x,asIf e=some x->Yz e=true:=λx h=>by obtain⟨p,rfl⟩:=Kl h;rfl
 have P:∀x,VZ e=some x->Yz e=true:=λx h=>by obtain⟨k,p,rfl⟩:=D6 h;rfl
 have R:∀x,D5 e=some x->Yz e=true:=λx h=>by obtain⟨p,rfl⟩:=Km h;rfl
 have T:∀x,EL e=some x->Yz e=true:=λx h=>by obtain⟨p,rfl⟩:=_lM h;rfl
 have l:∀x,W0 e=some x->Yz e=true:=λx h=>by obtain⟨p,rfl⟩:=D7 h;rfl
 have u:∀x,Zo e=some x->Yz e=true:=λx h=>by obtain rfl:=Ue h;rfl
 have w:∀x,asLC e=some x->Yz e=true:=λx h=>by obtain⟨p,rfl⟩:=Ko h;rfl
 have y:∀x,V9 e=some x->Yz e=true:=λx h=>by obtain rfl:=A8 h;rfl
 cases j<;>first|exact nob h|exact go h d|exact go h c|exact go h f|exact go h q|exact go h r|exact go h L|exact go h O|exact go h P|exact go h R|exact go h T|exact go h l|exact go h u|exact go h w|exact go h y
theorem YA:∀{j:IE} {l:Scope} {N:List Str} {e:Expr} {es:List Expr} {env:Env},chkE G j l N e=true->XA (e::es) env=(false,eval e env)::XA es env:=by
 intro j l N e es env h;cases e<;>first|rfl|cases _i8 h
theorem Ug:∀{j:IEs} {l:Scope} {N:List Str} {es:List Expr} {env:Env} {pos:Pos},chkEs G j l N es=true->(XA es env).all (λx=>!x.1)=true
 |.nil,l,N,es,_,_,h=>by
  cases Yy h
  rfl
 |.cons e es,l,N,xs,env,pos,h=>by
  replace h:=Xg h;obtain⟨q,w,u⟩:=h;cases Uf w;rw[XX]at u;rw[YA u.1,US];exact Ug (pos:=pos) u.2
theorem _lf:∀{j:IE} {l:Scope} {N:List Str} {x:Str} {u p:Pos} {ks:List Z1},chkE G j l N (.Call (.Name x u) [] ks p)=true->False:=by
 intro j l N x u p ks h;revert h;cases j<;>exact nob
set_option tactic.hygienic true in
theorem Aa{l:IE}{u:Scope}{N:List Str}{o:Expr}{nm:Str}{env:Env}(h:chkE G l u N o=true):Uo o nm env (eval o env)=eval o env:=by
 cases o<;>try rfl
 rename_i w j z y
 cases w<;>try rfl
 cases j with
 |cons a r=>rfl
 |nil=>exact(_lf h).elim
theorem UG{pos:Pos}{l:List (Bool×Sem X0)}(h:l.all (λx=>!x.1)=true):(XZ pos l).all (λx=>!x.1)=true/\(XZ pos l).any (·.1)=false:=by
 induction l with
 |nil=>exact⟨rfl,rfl⟩
 |cons a r w=>
  rw[US,XX]at h;obtain⟨j,u⟩:=w h.2;have e:a.1=false:=by simpa using h.1
  unfold XZ at j u ⊢;rw[Xx,US,ZE,j,u];obtain⟨b,t⟩:=a;cases e;exact⟨rfl,rfl⟩
end
def tCW2(own:List Str)(fr:List Nat)(g:TG)(tt:TT)(te:TE)(z:St)(e:Hp)(Q:VK)(J:It)(D:Addr):Prop:=∃W:Nat->Nat->List V->Hp->Prop,
 (∃m,W 0 m [] (upd e D (.lst [])))/\∀i m d l,W i m d l->
  ((J.stop i l/\Q (.ref D) l)\/(J.go i l/\∃N:List V->Hp->Prop,(∀u c,N u c->∃f,f<m/\W (i+1) f u c)/\∀x q,J.yld i l x q->g x (sC own fr z) q λj L=>Keep (sC own fr z) j/\tt j L λb r=>
   if b=true then te j r λy p=>∃w,p D=some (.lst w)/\w.length<sizeLine/\N (w++[y]) (upd p D (.lst (w++[y])))else N d r))
def EQ(own:List Str)(fr:List Nat)(u:TI)(g:TG)(tt:TT)(te:TE):TE:=λj H Q=>u j H λJ l=>∀D,l D=none->tCW2 own fr g tt te j l Q J D
section
variable{X:Cx}{pq:List (Addr×Obj)}{σ:St}{H1:Hp}{s2:X2}{tg elt iter:Expr}{ifs:List Expr}{scope:Scope}{pos:Pos}{own:List Str}{fr:List Nat}{g:TG}{tt:TT}{te:TE}
theorem Ks{J:It}{j:List Addr}{it:Addr}{S:Nat->Heap->Prop}{RR:X0->Addr->Result->X2->Prop}{Q:VK}{E:X0->X2->Prop}(hc:X.calm=true)(ok:CompOk X.env.scope scope X.N fr)
  (hg:∀C j f L,PG (cxC X scope own fr C j f L) tg g)(ht:∀C j f L,PTs (cxC X scope own fr C j f L) ifs tt)(he:∀C j f L,PE (cxC X scope own fr C j f L) elt te)
  (I2:Inv X pq σ H1 s2)(T:Turn X.prog X.w X.K tg J j it S)(st:S 0 s2.heap)(Z:∀b∈j,FpOk X pq H1 b)
  (h:∀D,H1 D=none->tCW2 own fr g tt te σ H1 Q J D)
  (hRR:∀D C w s',Inv X pq σ w s'->(∃m,s'.heap.Ns C m)->w C=none->C≠X.env.locals->X.s₀.heap.objs.size<=C->(∀x c,X.env.cells.lookup x=some c->c≠C)->(∀p∈X.pn++pq,p.1≠C)->Q (.ref D) w->RR (.ref D) C (.ok .next) s'):
  X3 (X6 X.prog X.w) X.A (newList []) (λacc f=>X3 (X6 X.prog X.w) X.A (newFunctionEnv scope X.env.globals (clOf X.env.cells scope.names []) [] X.env.qual none .none (some X.env)) (λB R=>
   YQ (X6 X.prog X.w) X.A (.compStart (.ListComp elt [⟨tg,iter,ifs,0⟩] scope pos) 0 (.ref it) acc {B with scope:=relabel scope X.env}) (RR acc B.locals) R) E f) E s2:=by
 have hD:H1 s2.heap.objs.size=none:=I2.hok.fresh (Xe _);obtain⟨W,⟨m0,w0⟩,step⟩:=h _ hD;refine U0 (wpAny_newFunctionEnv ok.nocell (by intro y hy;simp at hy) (λh4 H s=>?_) ok.kind)
 dsimp only at H s ⊢;have a:Inv X pq σ (upd H1 s2.heap.objs.size (.lst [])) {s2 with heap:=s2.heap.push {cls:=.type "list",dict:=none,data:=.seq ([]:List X0).toArray},toks:=s2.toks}:=
  I2.laid (λb u e=>Xr _ e) (Xe _) ⟨YS _,[],0,.nil,XS _ rfl⟩
 have fpo:∀b∈j,∃o,s2.heap.get? b=some o:=λb l=>let⟨o,e,_⟩:=T.obj 0 _ st b l;⟨o,e⟩
 have fpD:∀b∈j,b≠s2.heap.objs.size:=λb l=>let⟨o,e⟩:=fpo b l;XB (Xv e)
 have hf3:∀b∈j,FpOk X pq (upd H1 s2.heap.objs.size (.lst [])) b:=λb l=>⟨by rw[XN (fpD b l)];exact(Z b l).1,(Z b l).2⟩
 generalize hs3:({s2 with heap:=s2.heap.push {cls:=.type "list",dict:=none,data:=.seq ([]:List X0).toArray},toks:=s2.toks}:X2)=s3 at*;have e3:s2.heap.push {cls:=.type "list",dict:=none,data:=.seq ([]:List X0).toArray}=s3.heap:=by rw[<-hs3]
 rw[e3]at H s ⊢;have kp:∀b o,s3.heap.get? b=some o->h4.get? b=some o:=λb o e=>(s.2 b (XB (Xv e))).trans (Xr _ e);have F:∀b∈j,∃o,s3.heap.get? b=some o:=λb l=>let⟨o,e⟩:=fpo b l;⟨o,by rw[<-e3];exact Xr _ e⟩
 have I4:=_i2 (own:=own) (scope:=scope) (fr:=fr) (tk:=s2.toks+0) ok a rfl hf3 F H kp;have st4:S 0 h4:=T.keep _ _ _ st λb l o e=>kp b o (by rw[<-e3];exact Xr _ e)
 have fpC:∀b∈j,b≠s3.heap.objs.size:=λb l=>let⟨o,e⟩:=F b l;XB (Xv e)
 have U:∀{w:Hp},(∀b∈j,w b=none)->∀b∈j,FpOk (cxC X scope own fr s3.heap.objs.size j s3 (upd H1 s2.heap.objs.size (.lst []))) pq w b:=λhn b l=>by
  refine⟨hn b l,fpC b l,λz=>?_,.inl l,λx c e=>?_,(Z b l).2.2.2.2.2⟩
  .rcases Xk.mp (a.stkSub b z)with z|z
   .exact(Z b l).2.1 z
   .exact(Z b l).2.2.1 z
  .exact(Z b l).2.2.2.2.1 x c ((WV _ _ _ _ _ e).elim (λz=>by simp at z) id)
 have G:YQ (X6 X.prog X.w) X.A (.compLoop (.ListComp elt [⟨tg,iter,ifs,0⟩] scope pos) 0 (.ref it) (.ref s2.heap.objs.size) (compEnvC scope (clOf X.env.cells scope.names []) s3.heap.objs.size X.env))
   (RR (.ref s2.heap.objs.size) s3.heap.objs.size) {s3 with heap:=h4,toks:=s2.toks+0}:=by
  refine _fj (λn s'=>∃i A w,Inv (cxC X scope own fr s3.heap.objs.size j s3 (upd H1 s2.heap.objs.size (.lst []))) pq (sC own fr σ) w s'/\S i s'.heap/\(∀b∈j,w b=none)/\W i n A w) ?_ m0
   ⟨0,[],_,I4,st4,λb l=>(hf3 b l).1,w0⟩
  rintro n s5 ⟨i,A,H5,I5,st5,fr5,w5⟩;have way:=step i n A H5 w5;rcases way with⟨stop,q⟩|⟨go,N,hN,turn⟩
  .refine thn (T.done (cxC X scope own fr s3.heap.objs.size j s3 (upd H1 s2.heap.objs.size (.lst []))) rfl rfl rfl hc i pq s5 _ H5 _ I5 (U fr5) st5 stop) λr s6 ⟨hr,I6⟩=>?_;subst hr;have J6:Inv X pq σ H5 s6:=a.call' I6.os I6.base I6.hok I6.bare λb l=>⟨(Z b l).2.2.2.1,(Z b l).2.1,(Z b l).2.2.2.2.1,(Z b l).2.2.2.2.2⟩;obtain⟨m6,ns6,_⟩:=I6.loc;refine hRR _ _ H5 s6 J6 ⟨m6,ns6⟩ I6.free (UW a.lt) a.sz (λx c e=>?_) (λp hp=>?_) q
   .obtain⟨v,z⟩:=a.cell x c e;exact XB z.lt
   .exact XB (Xv (a.pin p hp).1)
  .refine thn (T.item (cxC X scope own fr s3.heap.objs.size j s3 (upd H1 s2.heap.objs.size (.lst []))) rfl rfl rfl hc i pq s5 _ H5 _ I5 (U fr5) st5 go) λr s6 ⟨u,hr,h6⟩=>?_;subst hr;refine thn h6 λ_ s7 ⟨x,H7,I7,r7,y7,st7,fr7⟩=>?_;have I7':=I7.pinned (U fr7) (T.obj _ _ st7);refine thn (hg _ _ _ _ _ s7 _ H7 x u _ I7' r7 (turn x H7 y7)) λ_ s8 ⟨O,H8,I8,kp8,q8⟩=>?_;have again:∀{Y:Hp} {P:X2},Inv (cxC X scope own fr s3.heap.objs.size j s3 (upd H1 s2.heap.objs.size (.lst []))) (pq++VM j s7.heap) O Y P->∀{ys'},(∃m',m'<n/\W (i+1) m' ys' Y)->
     ∃m,m<n/\∃i A w,Inv (cxC X scope own fr s3.heap.objs.size j s3 (upd H1 s2.heap.objs.size (.lst []))) pq (sC own fr σ) w P/\S i P.heap/\(∀b∈j,w b=none)/\W i m A w:=fun{Y P} I {ys'} ⟨m',hm,w9⟩=>by
    refine⟨m',hm,i+1,ys',Y,(I.unpinned).weak kp8.1 kp8.2,T.keep _ _ _ st7 λb l o e=>(I.pin (b,o) (YC _ (YC _ (CO l e)))).1,λb l=>?_,w9⟩;obtain⟨o,e,d⟩:=T.obj _ _ st7 b l;exact(I.pin (b,o) (YC _ (YC _ (CO l e)))).2.1
   have fin:∀{ok:Bool} {P:X2} {Y:Hp},Inv (cxC X scope own fr s3.heap.objs.size j s3 (upd H1 s2.heap.objs.size (.lst []))) (pq++VM j s7.heap) O Y P->
     (if ok=true then te O Y λy H6=>∃zs,H6 s2.heap.objs.size=some (.lst zs)/\zs.length<sizeLine/\N (zs++[y]) (upd H6 s2.heap.objs.size (.lst (zs++[y])))else N A Y)->
     (if ok=true then X3 (X6 X.prog X.w) X.A (eval elt (compEnvC scope (clOf X.env.cells scope.names []) s3.heap.objs.size X.env)) (λx R=>
      X3 (X6 X.prog X.w) X.A (call (.builtin "list.append") [.ref s2.heap.objs.size,x]) (fun _ M=>∃m,m<n/\∃i A w,Inv (cxC X scope own fr s3.heap.objs.size j s3 (upd H1 s2.heap.objs.size (.lst []))) pq (sC own fr σ) w M/\S i M.heap/\(∀b∈j,w b=none)/\W i m A w) (fun _ _=>False) R) (fun _ _=>False) P
      else∃m,m<n/\∃i A w,Inv (cxC X scope own fr s3.heap.objs.size j s3 (upd H1 s2.heap.objs.size (.lst []))) pq (sC own fr σ) w P/\S i P.heap/\(∀b∈j,w b=none)/\W i m A w):=fun{ok P Y} I q9=>by
    cases ok with
    |false=>
     rw[if_neg XD]at q9 ⊢;exact again I (hN _ _ q9)
    |true=>
     rw[if_pos rfl]at q9 ⊢;refine thn (he _ _ _ _ _ P O Y _ I q9) λv s10 ⟨y,H10,I10,r10,zs,hl10,hz5,w10⟩=>?_;refine thn (Je (X:=cxC X scope own fr s3.heap.objs.size j s3 (upd H1 s2.heap.objs.size (.lst []))) _ s10 O H10 (.ref s2.heap.objs.size) [y] (.ref s2.heap.objs.size) [v] (λ_ w=>w=upd H10 s2.heap.objs.size (.lst (zs++[y]))) I10 rfl (.cons r10 .nil) ⟨_,zs,y,rfl,rfl,hl10,hz5,rfl⟩) λ_ s11 ⟨_,H11,I11,_,e11⟩=>?_;subst e11;exact again I11 (hN _ _ w10)
   rcases ht s3.heap.objs.size j s3 (upd H1 s2.heap.objs.size (.lst []))with⟨e,et⟩|⟨c,e,hcT⟩
   .subst e et;exact wpAny_tests_nil (fin (ok:=true) I8 q8)
   .subst e;exact wpAny_tests_one (thn (hcT _ s8 O H8 _ I8 q8) λb P ⟨Y,I,q9⟩=>fin I q9)
 subst hs3;exact codeAny_compStart_list G (T.self _ 0 _ _ _ st4 G)
theorem _l5(own:List Str)(fr:List Nat){c:TI}(hx:∀e s,¬X.xe e s)(f:X.calm=true)(ok:VQ X.env.scope scope X.N own fr=true)(r:PI X tg iter c)
  (p:∀C w j l,PG (cxC X scope own fr C w j l) tg g)(L:∀C w j l,PTs (cxC X scope own fr C w j l) ifs tt)(N:∀C w j l,PE (cxC X scope own fr C w j l) elt te)
  (O:∀x,BU iter X.env x=pure x:=by intro _;rfl):
  PE X (.ListComp elt [⟨tg,iter,ifs,0⟩] scope pos) (EQ own fr c g tt te):=by
 have u:=VR ok;intro pq s σ H Q I h;rw[eval_ListComp];refine wpAny_comprehension_free (use:=none) (cl:=clOf X.env.cells scope.names []) rfl O (Jp λy P U=>I.ok.has y.1 (u.has y P U)) u.kind u.names (thn (r pq s σ H _ I h) λv s1 W=>thn W λY s2 Z=>?_);obtain⟨it,w,tn,J,H2,e,A,T,z,B,R⟩:=Z;subst e;refine Ks (RR:=λd C=>compPost (X6 X.prog X.w) X.A X.xe none (EP X pq σ Q) d C) (Q:=Q) f u p L N A T z B R ?_;rintro D C E F G ⟨m,M⟩ S i n a c5 q;refine⟨m,M,λh' sb=>⟨.ref D,E,?_,rfl,q⟩⟩;exact G.turned (t':=F.toks) (λb o hb e=>(sb.2 b hb).trans e) S i (.inr n) a c5
theorem _fV(own:List Str)(fr:List Nat){i:Nat}{y:Str}{c d:Pos}{F:TI}(S:X.N.Nodup)(n:X.N[i]?=some y)(p:Loc X.env.scope y)(hx:∀e s,¬X.xe e s)(hc:X.calm=true)(ok:VQ X.env.scope scope X.N own fr=true)(L:PI X tg iter F)
  (hg:∀C f j l,PG (cxC X scope own fr C f j l) tg g)(ht:∀C f j l,PTs (cxC X scope own fr C f j l) ifs tt)(he:∀C f j l,PE (cxC X scope own fr C f j l) elt te)
  (N:Zy (.ListComp elt [⟨tg,iter,ifs,0⟩] scope pos) (some (.Name y c)) d.line X.env=pure true:=by rfl)(hs:∀x,BU iter X.env x=pure x:=by intro _;rfl)
  (hf:X.fn y=true\/X.env.scope.names.lookup y=some .local:=by first|exact .inl rfl|exact .inr rfl|assumption):
  PS X (.Assign [.Name y c] (.ListComp elt [⟨tg,iter,ifs,0⟩] scope pos) d) (tAsg (EQ own fr F g tt te) (CN i)):=by
 have w:=VR ok;intro pq s σ H D I h;rw[exec_Assign_Name_used _ _ _ _ N];refine X1 (wpAny_standAt (X1 ?_));show X3 _ X.A (do let _<- comprehension (.ListComp elt [⟨tg,iter,ifs,0⟩] scope pos) scope X.env _ (newList []) false (eval iter X.env) (some (assign (.Name y c) X.env))) _ _ s
 refine X1 (Zw (wpAny_comprehension_free (use:=some (assign (.Name y c) X.env)) (cl:=clOf X.env.cells scope.names []) (Q:=λ_ r=>SP X pq D .next r) rfl hs (Jp λy p hk=>I.ok.has y.1 (w.has y p hk)) w.kind w.names
  (thn (L pq s σ H _ I h) λv s1 h1=>thn h1 λitv s2 h2=>?_)) (λ_ r hq=>X7 (X7 hq)) λ_ _ e=>e)
 obtain⟨it,f,tn,J,H2,e,I2,T,O,f2,R⟩:=h2;subst e;refine Ks (RR:=λP C=>compPost (X6 X.prog X.w) X.A X.xe (some (assign (.Name y c) X.env)) (λ_ r=>SP X pq D .next r) P C) (Q:=λv U=>D.nx (σ.set i (some v)) U) hc w hg ht he I2 T O f2 R ?_;rintro E C U r I' ⟨m,ns⟩ c1 G c3 M c5 q;show X3 _ X.A (assign (.Name y c) X.env (.ref E)) _ _ _;refine wpAny_assign_Name (Iz I' S n p (v:=.ref E) (u:=.ref E) rfl (λW Y Z=>?_) hf);obtain⟨a,Z,ha⟩:=Z;have A:C≠a:=by
  rcases ha with z|z
  .rw[z];exact G
  .exact λe=>M _ _ z e.symm
 refine⟨m,ns.sameBut Z A,λh' B=>⟨_,U,?_,q⟩⟩;exact Y.turned (t':=W.toks) (λb o hb e=>(B.2 b hb).trans e) c1 G (.inr c3) M c5
end
theorem hide{G:Prop}(h:∀j:Prop,(G->j)->j):G:=h G id
section
variable{G:GI}{sc:Scope}{N:List Str}{e:Expr}
theorem Xf{a b:Bool}(h:(a&&b)=true):a=true/\b=true:=by rwa [XX]at h
theorem XO{p:Prop} [Decidable p] (h:decide p=true):p:=of_decide_eq_true h
theorem not_of{b:Bool}(h:(!b)=true):b=false:=by cases b with|false=>rfl|true=>cases h
theorem _o6{i:Nat}(h:chkE G (.var i) sc N e=true):∃x p,e=.Name x p/\N[i]?=some x/\visB sc x=true/\(x==("__debug__":Str))=false/\(x==("__classdict__":Str))=false:=by
 refine hide λ_ k=>?_;replace h:=Xg h;obtain⟨x,j,h⟩:=h;obtain⟨p,rfl⟩:=_8 j;replace h:=Xf h;obtain⟨h,l⟩:=h;replace h:=Xf h;obtain⟨h,u⟩:=h;replace h:=Xf h;obtain⟨w,y⟩:=h;exact k ⟨x,p,rfl,XO w,y,not_of u,not_of l⟩
theorem _oe{i:Int}(h:chkE G (.int i) sc N e=true):∃k p,e=.Constant (.int i) k p:=by
 replace h:=Xg h;obtain⟨x,j,h⟩:=h;obtain⟨k,p,rfl⟩:=A7 j;exact⟨k,p,by rw[XO h]⟩
theorem _o8{i:Str}(h:chkE G (.str i) sc N e=true):∃k p,e=.Constant (.str i) k p:=by
 replace h:=Xg h;obtain⟨x,j,h⟩:=h;obtain⟨k,p,rfl⟩:=A7 j;exact⟨k,p,by rw[XO h]⟩
theorem _qD{i:Bool}(h:chkE G (.bl i) sc N e=true):∃k p,e=.Constant (.bool i) k p:=by
 replace h:=Xg h;obtain⟨x,j,h⟩:=h;obtain⟨k,p,rfl⟩:=A7 j;exact⟨k,p,by rw[XO h]⟩
theorem _ob(h:chkE G .non sc N e=true):∃k p,e=.Constant .none k p:=by
 replace h:=Xg h;obtain⟨x,j,h⟩:=h;obtain⟨k,p,rfl⟩:=A7 j;exact⟨k,p,by rw[XO h]⟩
theorem _og{x:Str}{i:Int}(h:chkE G (.glb x i) sc N e=true):∃p,e=.Name x p/\G.gl.lookup x=some i/\glB sc x=true:=by
 refine hide λ_ k=>?_;replace h:=Xg h;obtain⟨y,j,h⟩:=h;obtain⟨p,rfl⟩:=_8 j;replace h:=Xf h;obtain⟨h,l⟩:=h;replace h:=Xf h;obtain⟨u,w⟩:=h;obtain rfl:=XO u;exact k ⟨p,rfl,XO w,l⟩
theorem _qy{c:Ty7}(h:chkE G (.ty c) sc N e=true):∃p,e=.Name (c.name:Str) p/\c≠.none/\G.bl.contains (c.name:Str)=true/\glB sc (c.name:Str)=true:=by
 refine hide λ_ k=>?_;replace h:=Xg h;obtain⟨y,j,h⟩:=h;obtain⟨p,rfl⟩:=_8 j;replace h:=Xf h;obtain⟨h,l⟩:=h;replace h:=Xf h;obtain⟨h,u⟩:=h;replace h:=Xf h;obtain⟨w,z⟩:=h;obtain rfl:=XO w;exact k ⟨p,rfl,XO z,u,l⟩
theorem _ok{op:Um}{a b:IE}(h:chkE G (.bin op a b) sc N e=true):∃l r p,e=.BinOp l op r p/\chkE G a sc N l=true/\chkE G b sc N r=true:=by
 refine hide λ_ k=>?_;replace h:=Xg h;obtain⟨⟨l,o,r⟩,j,h⟩:=h;obtain⟨p,rfl⟩:=Kk j;replace h:=Xf h;obtain⟨h,u⟩:=h;replace h:=Xf h;obtain⟨w,y⟩:=h;obtain rfl:=XO w;exact k ⟨l,r,p,rfl,y,u⟩
theorem _oc{a:IE}(h:chkE G (.neg a) sc N e=true):∃l p,e=.UnaryOp .USub l p/\chkE G a sc N l=true:=by
 refine hide λ_ k=>?_;replace h:=Xg h;obtain⟨⟨o,l⟩,j,h⟩:=h;obtain⟨p,rfl⟩:=EM j;replace h:=Xf h;obtain⟨u,w⟩:=h;obtain rfl:=XO u;exact k ⟨l,p,rfl,w⟩
theorem _oa{a:IE}(h:chkE G (.not a) sc N e=true):∃l p,e=.UnaryOp .Not l p/\chkE G a sc N l=true:=by
 refine hide λ_ k=>?_;replace h:=Xg h;obtain⟨⟨o,l⟩,j,h⟩:=h;obtain⟨p,rfl⟩:=EM j;replace h:=Xf h;obtain⟨u,w⟩:=h;obtain rfl:=XO u;exact k ⟨l,p,rfl,w⟩
theorem _oi{op:CmpOp}{a b:IE}(h:chkE G (.cmp op a b) sc N e=true):∃l r p,e=.Compare l [op] [r] p/\chkE G a sc N l=true/\chkE G b sc N r=true/\behindInMarks op r=false:=by
 refine hide λ_ k=>?_;replace h:=Xg h;obtain⟨⟨l,os,d⟩,j,h⟩:=h;obtain⟨p,rfl⟩:=EN j;replace h:=Xg h;obtain⟨o,u,h⟩:=h;replace h:=Xg h;obtain⟨r,w,h⟩:=h;obtain rfl:=_p u;obtain rfl:=_p w;replace h:=Xf h;obtain⟨h,y⟩:=h;replace h:=Xf h;obtain⟨h,z⟩:=h;replace h:=Xf h;obtain⟨m,g⟩:=h;obtain rfl:=XO m;exact k ⟨l,r,p,rfl,g,z,not_of y⟩
theorem _oj{op j:CmpOp}{a b c:IE}(h:chkE G (.chn op j a b c) sc N e=true):∃l m r p,e=.Compare l [op,j] [m,r] p/\chkE G a sc N l=true/\chkE G b sc N m=true/\chkE G c sc N r=true/\lastMarks [op,j] [m,r]=false:=by
 refine hide λ_ k=>?_;replace h:=Xg h;obtain⟨⟨l,os,O⟩,u,h⟩:=h;obtain⟨p,rfl⟩:=EN u;replace h:=Xg h;obtain⟨⟨o,P⟩,w,h⟩:=h;replace h:=Xg h;obtain⟨⟨m,r⟩,y,h⟩:=h;obtain rfl:=Kq w;obtain rfl:=Kq y;replace h:=Xf h;obtain⟨h,z⟩:=h;replace h:=Xf h;obtain⟨h,g⟩:=h;replace h:=Xf h;obtain⟨h,d⟩:=h;replace h:=Xf h;obtain⟨h,f⟩:=h;replace h:=Xf h;obtain⟨q,L⟩:=h;obtain rfl:=XO q;obtain rfl:=XO L;exact k ⟨l,m,r,p,rfl,f,d,g,not_of z⟩
theorem _ol{a b:IE}(h:chkE G (.and a b) sc N e=true):∃l r rest p,e=.BoolOp .And (l::r::rest) p/\chkE G a sc N l=true/\((rest=[]/\chkE G b sc N r=true)\/chkE G b sc N (.BoolOp .And (r::rest) p)=true):=by
 replace h:=Xg h;obtain⟨⟨o,z,p⟩,w,h⟩:=h;obtain rfl:=EO w;replace h:=Xg h;obtain⟨⟨l,r,rest⟩,j,h⟩:=h;obtain rfl:=Kr j;replace h:=Xf h;obtain⟨h,u⟩:=h;replace h:=Xf h;obtain⟨j,y⟩:=h;obtain rfl:=XO j;refine⟨l,r,rest,p,rfl,y,?_⟩;cases rest with
 |nil=>exact .inl ⟨rfl,u⟩
 |cons _ _=>exact .inr u
theorem _qA{a b:IE}(h:chkE G (.or a b) sc N e=true):∃l r rest p,e=.BoolOp .Or (l::r::rest) p/\chkE G a sc N l=true/\((rest=[]/\chkE G b sc N r=true)\/chkE G b sc N (.BoolOp .Or (r::rest) p)=true):=by
 replace h:=Xg h;obtain⟨⟨o,z,p⟩,w,h⟩:=h;obtain rfl:=EO w;replace h:=Xg h;obtain⟨⟨l,r,rest⟩,j,h⟩:=h;obtain rfl:=Kr j;replace h:=Xf h;obtain⟨h,u⟩:=h;replace h:=Xf h;obtain⟨j,y⟩:=h;obtain rfl:=XO j;refine⟨l,r,rest,p,rfl,y,?_⟩;cases rest with
 |nil=>exact .inl ⟨rfl,u⟩
 |cons _ _=>exact .inr u
theorem _of{a b c:IE}(h:chkE G (.ife c a b) sc N e=true):∃t x y p,e=.IfExp t x y p/\tok c=true/\chkE G c sc N t=true/\chkE G a sc N x=true/\chkE G b sc N y=true:=by
 refine hide λ_ k=>?_;replace h:=Xg h;obtain⟨⟨t,x,y⟩,j,h⟩:=h;obtain⟨p,rfl⟩:=Kl j;replace h:=Xf h;obtain⟨h,l⟩:=h;replace h:=Xf h;obtain⟨h,u⟩:=h;replace h:=Xf h;obtain⟨w,z⟩:=h;exact k ⟨t,x,y,p,rfl,w,z,u,l⟩
theorem _o7{es:IEs}(h:chkE G (.tup es) sc N e=true):∃xs k p,e=.Tuple xs k p/\chkEs G es sc N xs=true:=by
 replace h:=Xg h;obtain⟨xs,j,h⟩:=h;obtain⟨k,p,rfl⟩:=D6 j;exact⟨xs,k,p,rfl,h⟩
theorem _od{es:IEs}(h:chkE G (.lst es) sc N e=true):∃xs p,e=.List xs p/\chkEs G es sc N xs=true:=by
 replace h:=Xg h;obtain⟨xs,j,h⟩:=h;obtain⟨p,rfl⟩:=Km j;exact⟨xs,p,rfl,h⟩
theorem _qC{a b:IE}(h:chkE G (.ix a b) sc N e=true):∃x y p,e=.Subscript x y p/\chkE G a sc N x=true/\chkE G b sc N y=true/\A3 y=true:=by
 refine hide λ_ k=>?_;replace h:=Xg h;obtain⟨⟨x,y⟩,j,h⟩:=h;obtain⟨p,rfl⟩:=D7 j;replace h:=Xf h;obtain⟨h,l⟩:=h;replace h:=Xf h;obtain⟨u,w⟩:=h;exact k ⟨x,y,p,rfl,u,w,l⟩
theorem _qz{a:IE}{lo w:IO}(h:chkE G (.sl a lo w) sc N e=true):∃x l u p j,e=.Subscript x (.Slice l u none j) p/\chkE G a sc N x=true/\chkO G lo sc N l=true/\chkO G w sc N u=true:=by
 replace h:=Xg h;obtain⟨⟨x,y⟩,z,h⟩:=h;obtain⟨p,rfl⟩:=D7 z;replace h:=Xg h;obtain⟨⟨l,u,st⟩,m,h⟩:=h;obtain⟨j,rfl⟩:=_oP m;replace h:=Xf h;obtain⟨h,g⟩:=h;replace h:=Xf h;obtain⟨h,d⟩:=h;replace h:=Xf h;obtain⟨c,f⟩:=h;cases st with
 |some _=>cases g
 |none=>exact⟨x,l,u,p,j,rfl,c,f,d⟩
theorem _lr{j:Nat}{a:IE}{es:IEs}(h:chkE G (.call j a es) sc N e=true):∃f p x xs u,e=.Call (.Name f p) (x::xs) [] u/\G.fns[j]?=some f/\glB sc f=true/\chkE G a sc N x=true/\chkEs G es sc N xs=true:=by
 refine hide λ_ k=>?_;replace h:=Xg h;obtain⟨⟨f,l,L,u⟩,w,h⟩:=h;obtain rfl:=Ue w;replace h:=Xg h;obtain⟨g,y,h⟩:=h;obtain⟨p,rfl⟩:=_8 y;replace h:=Xg h;obtain⟨⟨x,xs⟩,z,h⟩:=h;obtain rfl:=Uf z;replace h:=Xf h;obtain⟨h,m⟩:=h;replace h:=Xf h;obtain⟨h,d⟩:=h;replace h:=Xf h;obtain⟨h,c⟩:=h;replace h:=Xf h;obtain⟨q,r⟩:=h;obtain rfl:=Yy q;exact k ⟨g,p,x,xs,u,rfl,XO r,c,d,m⟩
theorem _qE{f:BI}{a:IE}{es:IEs}(h:chkE G (.bi f a es) sc N e=true):∃p x xs j,e=.Call (.Name (f.name:Str) p) (x::xs) [] j/\G.bl.contains (f.name:Str)=true/\glB sc (f.name:Str)=true/\chkE G a sc N x=true/\chkEs G es sc N xs=true:=by
 refine hide λ_ k=>?_;replace h:=Xg h;obtain⟨⟨L,l,O,j⟩,u,h⟩:=h;obtain rfl:=Ue u;replace h:=Xg h;obtain⟨g,w,h⟩:=h;obtain⟨p,rfl⟩:=_8 w;replace h:=Xg h;obtain⟨⟨x,xs⟩,y,h⟩:=h;obtain rfl:=Uf y;replace h:=Xf h;obtain⟨h,z⟩:=h;replace h:=Xf h;obtain⟨h,m⟩:=h;replace h:=Xf h;obtain⟨h,d⟩:=h;replace h:=Xf h;obtain⟨h,c⟩:=h;replace h:=Xf h;obtain⟨q,r⟩:=h;obtain rfl:=Yy q;obtain rfl:=XO r;exact k ⟨p,x,xs,j,rfl,c,d,m,z⟩
theorem _qF{f:B2}{a:IE}(h:chkE G (.b2 f a) sc N e=true):∃p p' x u j,e=.Call (.Name (f.out:Str) p) [.Call (.Name (f.inn:Str) p') [x] [] j] [] u/\G.bl.contains (f.out:Str)=true/\G.bl.contains (f.inn:Str)=true/\glB sc (f.out:Str)=true/\glB sc (f.inn:Str)=true/\chkE G a sc N x=true:=by
 refine hide λ_ k=>?_;replace h:=Xg h;obtain⟨⟨B,l,C,u⟩,w,h⟩:=h;obtain rfl:=Ue w;replace h:=Xg h;obtain⟨g,z,h⟩:=h;obtain⟨p,rfl⟩:=_8 z;replace h:=Xg h;obtain⟨y,m,h⟩:=h;obtain rfl:=_p m;replace h:=Xg h;obtain⟨⟨d,D,c,j⟩,q,h⟩:=h;obtain rfl:=Ue q;replace h:=Xg h;obtain⟨k,r,h⟩:=h;obtain⟨p',rfl⟩:=_8 r;replace h:=Xg h;obtain⟨x,L,h⟩:=h;obtain rfl:=_p L;simp only[XX]at h;obtain⟨⟨⟨⟨⟨⟨⟨⟨O,P⟩,R⟩,T⟩,U⟩,W⟩,Y⟩,Z⟩,A⟩:=h;obtain rfl:=Yy O;obtain rfl:=Yy P;obtain rfl:=XO R;obtain rfl:=XO T;exact k ⟨p,p',x,u,j,rfl,U,W,Y,Z,A⟩
theorem _qB{m:MT}{o:IE}{es:IEs}(h:chkE G (.mt m o es) sc N e=true):∃l u j w,e=.Call (.Attribute l (m.name:Str) u) j [] w/\(u.endLine==w.line)=true/\chkE G o sc N l=true/\chkEs G es sc N j=true/\j.length<20:=by
 refine hide λ_ k=>?_;replace h:=Xg h;obtain⟨⟨p,j,L,w⟩,y,h⟩:=h;obtain rfl:=Ue y;replace h:=Xg h;obtain⟨⟨l,O,u⟩,z,h⟩:=h;obtain rfl:=A8 z;replace h:=Xf h;obtain⟨h,g⟩:=h;replace h:=Xf h;obtain⟨h,d⟩:=h;replace h:=Xf h;obtain⟨h,c⟩:=h;replace h:=Xf h;obtain⟨h,f⟩:=h;replace h:=Xf h;obtain⟨q,r⟩:=h;obtain rfl:=Yy q;obtain rfl:=XO r;exact k ⟨l,u,j,w,rfl,f,c,d,XO g⟩
theorem Kt{own:List Str}{fr:List Nat}{u:ISr}{tg:ITg}{l:IO}{elt:IE}(h:chkE G (.comp own fr u tg l elt) sc N e=true):∃x t it j scope p,e=.ListComp x [⟨t,it,j,0⟩] scope p/\VQ sc scope N own fr=true/\A4 it=true/\
  (nC own fr N).Nodup/\chkSr G u sc N it=true/\Z9 (VY scope sc) (nC own fr N) own.length false tg t=true/\chkI G l (VY scope sc) (nC own fr N) j=true/\chkE G elt (VY scope sc) (nC own fr N) x=true:=by
 replace h:=Xg h;obtain⟨⟨x,r,scope⟩,y,h⟩:=h;obtain⟨p,rfl⟩:=Ko y;replace h:=Xg h;obtain⟨⟨t,it,j,k⟩,w,h⟩:=h;obtain rfl:=_p w;replace h:=Xf h;obtain⟨h,z⟩:=h;replace h:=Xf h;obtain⟨h,m⟩:=h;replace h:=Xf h;obtain⟨h,g⟩:=h;replace h:=Xf h;obtain⟨h,d⟩:=h;replace h:=Xf h;obtain⟨h,c⟩:=h;replace h:=Xf h;obtain⟨h,f⟩:=h;replace h:=Xf h;obtain⟨w,q⟩:=h;obtain rfl:=XO z;exact⟨x,t,it,j,scope,p,rfl,w,q,XO f,c,d,g,m⟩
theorem _oh{c f:Str}{o:IE}(h:chkE G (.fld c o f) sc N e=true):∃j p,e=.Attribute j f p/\G.cls.contains (c,f)=true/\chkE G o sc N j=true:=by
 refine hide λ_ k=>?_;replace h:=Xg h;obtain⟨⟨j,z,p⟩,l,h⟩:=h;obtain rfl:=A8 l;replace h:=Xf h;obtain⟨h,u⟩:=h;replace h:=Xf h;obtain⟨w,y⟩:=h;obtain rfl:=XO w;exact k ⟨j,p,rfl,y,u⟩
theorem _jo{j:Nat}{c m:Str}{o:IE}{es:IEs}(h:chkE G (.mcall j c m o es) sc N e=true):∃u w l y,e=.Call (.Attribute u m w) l [] y/\G.mts.contains (j,c,m)=true/\chkE G o sc N u=true/\chkEs G es sc N l=true/\(w.endLine==y.line)=true/\l.length<20:=by
 refine hide λ_ k=>?_;replace h:=Xg h;obtain⟨⟨P,l,R,y⟩,z,h⟩:=h;obtain rfl:=Ue z;replace h:=Xg h;obtain⟨⟨u,T,w⟩,g,h⟩:=h;obtain rfl:=A8 g;simp only[XX]at h;obtain⟨⟨⟨⟨⟨⟨d,f⟩,q⟩,r⟩,p⟩,L⟩,O⟩:=h;obtain rfl:=Yy d;obtain rfl:=XO f;exact k ⟨u,w,l,y,rfl,q,r,p,L,XO O⟩
theorem _lq{j:Nat}{c:Str}{a:IE}{es:IEs}(h:chkE G (.make j c a es) sc N e=true):∃p x xs u,e=.Call (.Name c p) (x::xs) [] u/\G.mks.contains (j,c)=true/\glB sc c=true/\chkE G a sc N x=true/\chkEs G es sc N xs=true:=by
 refine hide λ_ k=>?_;replace h:=Xg h;obtain⟨⟨O,l,P,u⟩,w,h⟩:=h;obtain rfl:=Ue w;replace h:=Xg h;obtain⟨g,y,h⟩:=h;obtain⟨p,rfl⟩:=_8 y;replace h:=Xg h;obtain⟨⟨x,xs⟩,z,h⟩:=h;obtain rfl:=Uf z;simp only[XX]at h;obtain⟨⟨⟨⟨⟨m,d⟩,f⟩,q⟩,r⟩,L⟩:=h;obtain rfl:=Yy m;obtain rfl:=XO d;exact k ⟨p,x,xs,u,rfl,f,q,r,L⟩
theorem _hT{ks:List (Option Expr)}{vs:List Expr}(h:A9 G .nil sc N ks vs=true):ks=[]/\vs=[]:=by
 replace h:=Xf h;exact⟨Yy h.1,Yy h.2⟩
theorem _gn{k v:IE}{ps:IPs}{ks:List (Option Expr)}{vs:List Expr}(h:A9 G (.cons k v ps) sc N ks vs=true):∃x j y l,ks=some x::j/\vs=y::l/\chkE G k sc N x=true/\chkE G v sc N y=true/\A9 G ps sc N j l=true:=by
 refine hide λ_ k=>?_;replace h:=Xg h;obtain⟨⟨o,j⟩,w,h⟩:=h;replace h:=Xg h;obtain⟨⟨y,l⟩,z,h⟩:=h;replace h:=Xg h;obtain⟨x,u,h⟩:=h;replace h:=Xf h;obtain⟨h,m⟩:=h;replace h:=Xf h;obtain⟨g,d⟩:=h;dsimp only at u;subst u;exact k ⟨x,j,y,l,Uf w,Uf z,g,d,m⟩
theorem ER{l:List Expr}(h:chkEs G .nil sc N l=true):l=[]:=by
 exact Yy h
theorem ES{a:IE}{es:IEs}{l:List Expr}(h:chkEs G (.cons a es) sc N l=true):∃x xs,l=x::xs/\chkE G a sc N x=true/\chkEs G es sc N xs=true:=by
 replace h:=Xg h;obtain⟨⟨x,xs⟩,j,h⟩:=h;exact⟨x,xs,Uf j,Xf h⟩
theorem _hV(h:chkO G .none sc N o=true):o=none:=by
 cases o with
 |none=>rfl
 |some _=>cases h
theorem _hU{a:IE}{o:Option Expr}(h:chkO G (.some a) sc N o=true):∃x,o=some x/\chkE G a sc N x=true:=by
 exact Xg h
theorem _hX{l:List Expr}(h:chkI G .none sc N l=true):l=[]:=by
 exact Yy h
theorem _hW{a:IE}{l:List Expr}(h:chkI G (.some a) sc N l=true):∃x,l=[x]/\tok a=true/\chkE G a sc N x=true:=by
 replace h:=Xg h;obtain⟨x,j,h⟩:=h;exact⟨x,_p j,Xf h⟩
theorem _o9{a:IE}(h:chkSr G (.rng a) sc N e=true):∃p x j,e=.Call (.Name ("range":Str) p) [x] [] j/\G.bl.contains ("range":Str)=true/\glB sc ("range":Str)=true/\chkE G a sc N x=true:=by
 refine hide λ_ k=>?_;replace h:=Xg h;obtain⟨⟨q,l,r,j⟩,u,h⟩:=h;obtain rfl:=Ue u;replace h:=Xg h;obtain⟨g,w,h⟩:=h;obtain⟨p,rfl⟩:=_8 w;replace h:=Xg h;obtain⟨x,y,h⟩:=h;obtain rfl:=_p y;replace h:=Xf h;obtain⟨h,z⟩:=h;replace h:=Xf h;obtain⟨h,m⟩:=h;replace h:=Xf h;obtain⟨h,d⟩:=h;replace h:=Xf h;obtain⟨c,f⟩:=h;obtain rfl:=Yy c;obtain rfl:=XO f;exact k ⟨p,x,j,rfl,d,m,z⟩
theorem ET{lim:Nat}{all:Bool}{i:Nat}(h:Z9 sc N lim all (.nm i) e=true):∃x p,e=.Name x p/\N[i]?=some x/\i<lim/\(if all then locB sc x else decide (sc.names.lookup x=some .local))=true:=by
 refine hide λ_ k=>?_;replace h:=Xg h;obtain⟨x,j,h⟩:=h;obtain⟨p,rfl⟩:=_8 j;replace h:=Xf h;obtain⟨h,l⟩:=h;replace h:=Xf h;obtain⟨u,w⟩:=h;exact k ⟨x,p,rfl,XO u,XO w,l⟩
theorem EU{lim:Nat}{all:Bool}{j:ITgs}(h:Z9 sc N lim all (.tup j) e=true):∃es k p,e=.Tuple es k p/\chkTgs sc N lim all j es=true:=by
 replace h:=Xg h;obtain⟨es,l,h⟩:=h;obtain⟨k,p,rfl⟩:=D6 l;exact⟨es,k,p,rfl,h⟩
theorem _gm{lim:Nat}{all:Bool}{l:List Expr}(h:chkTgs sc N lim all .nil l=true):l=[]:=by
 exact Yy h
theorem Ku{lim:Nat}{all:Bool}{t:ITg}{j:ITgs}{l:List Expr}(h:chkTgs sc N lim all (.cons t j) l=true):∃x xs,l=x::xs/\Z9 sc N lim all t x=true/\chkTgs sc N lim all j xs=true:=by
 replace h:=Xg h;obtain⟨⟨x,xs⟩,u,h⟩:=h;exact⟨x,xs,Uf u,Xf h⟩
end
def liT(K:X4)(t:TEm):TT:=λu H Q=>∃j M,RS K H j u/\RH K M H/\t j M (λm w=>∃b,m=.bl b/\∀l,Kp H l->RH K w l->Q b l)
def liO(K:X4)(t:Sm->MH->(Option Int->MH->Prop)->Prop):TO:=λu H Q=>∃j M,RS K H j u/\RH K M H/\t j M (λo w=>∀l,Kp H l->RH K w l->Q o l)
section
variable{K:X4}
theorem EV{t:TEm}(m:MonE t){u:St}{H:Hp}{Q:Bool->Hp->Prop}(h:liT K t u H Q):liE K t u H λx w=>∃c,x=.bl c/\Q c w:=by
 obtain⟨j,M,y,z,h⟩:=h;refine⟨j,M,y,z,m (λx M1 ⟨b,e,g⟩=>?_) h⟩;subst e;intro v d f q l;obtain rfl:=q.inv;exact⟨b,rfl,g d f l⟩
theorem Kv{t:TEm}(m:MonE t){l:Sm}{M:MH}{H u:Hp}{Q:Bool->Hp->Prop}(k:Kp H u)(h:t l M λx M'=>∃b,x=.bl b/\∀j,Kp H j->RH K M' j->Q b j):
  t l M λx M'=>∃b,x=.bl b/\∀j,Kp u j->RH K M' j->Q b j:=
 m (λx M' ⟨b,e,q⟩=>⟨b,e,λj w=>q j (k.trans w)⟩) h
theorem _nZ{t:TAm}(g:MonE te)(mt:MonA t)(h:liA K (λl M Q=>te l M λv M1=>t l M1 λvs M2=>Q (v::vs) M2) l H Q):VP (liE K te) (liA K t) l H Q:=by
 obtain⟨j,M,y,d,h⟩:=h;refine⟨j,M,y,d,g (λx M1 c=>?_) h⟩;intro v e z f u;refine⟨j,M1,y.mono z,u,mt (λL M2 q=>?_) c⟩;intro vs r m p w;exact q (v::vs) r (z.trans m) (.cons (f.mono m) p) w
end
def EW(X:Cx)(H:Hp):Src->It->Prop
 |.tup xs,J=>(∃a j,H a=some (.tup j)/\RMs X.K H xs j/\J=Itt X.K a)\/∃a j,FrL X.K H a j/\RMs X.K H xs j/\J=Itl X.K a
 |.lst a _,J=>J=Itl X.K a
 |.rng lo n,J=>J=Itr lo n
 |.str x,J=>J=Its x
theorem EX{X:Cx}{w H:Hp}{M:MH}{S:Src}{J:It}(s:EW X w S J)(j:RH X.K M H)(ok:S.okT M):∃l,Thw X H l/\Kp H l/\RH X.K (S.thaw M) l:=by
 cases S with
 |tup u=>exact⟨H,.inl rfl,Kp.refl _,j⟩
 |lst a u=>exact⟨H,.inl rfl,Kp.refl _,j⟩
 |rng a u=>exact⟨H,.inl rfl,Kp.refl _,j⟩
 |str x=>exact⟨H,.inl rfl,Kp.refl _,j⟩
theorem Kw{M:MH}{S:Src}(ok:S.ok M):S.okT M:=by
 cases S<;>first|trivial|exact ok
theorem Kx{X:Cx}{f H:Hp}{M:MH}{S:Src}{J:It}(s:EW X f S J)(k:Kp f H)(q:RH X.K M H)(ok:S.ok M):
  (∀i,i<S.len->J.go i H/\∀x u,J.yld i H x u->u=H/\∃m,S.items[i]?=some m/\RM X.K H m x)/\∀i,S.len<=i->J.stop i H:=by
 have w:∀{a:Addr} {g:List MV} {l:List V},SqL X.K H a l->RMs X.K H g l->(∀i,i<g.length->(Itl X.K a).go i H/\∀x u,(Itl X.K a).yld i H x u->u=H/\∃m,g[i]?=some m/\RM X.K H m x)/\∀i,g.length<=i->(Itl X.K a).stop i H:=by
  intro a g l d r;refine⟨λi j=>⟨⟨l,_,d,X8 (by rw[<-r.length];exact j)⟩,λx u y=>?_⟩,λi j=>⟨l,d,by rw[<-r.length];exact j⟩⟩
  exact⟨y.1,r.get' (y.2 l d)⟩
 cases S with
 |tup g=>
  rcases s with⟨a,l,h,r,rfl⟩|⟨a,l,h,r,rfl⟩
  .have h:=SqT.of (K:=X.K) (k _ _ h rfl);have r:=r.mono k;refine⟨λi j=>⟨⟨l,_,h,X8 (by rw[<-r.length];exact j)⟩,λx u y=>?_⟩,λi j=>⟨l,h,by rw[<-r.length];exact j⟩⟩
   exact⟨y.1,r.get' (y.2 l h)⟩
  .refine w (FrL.sq ?_) (r.mono k);rcases h with⟨o,h⟩|h
   .exact .inl ⟨o,k _ _ h rfl⟩
   .exact .inr h
 |lst a g=>
  cases s;obtain⟨l,h,r⟩:=q.lst ok;exact w (SqL.of h) r
 |rng lo n=>
  cases s;refine⟨λi j=>⟨j,λx u y=>⟨y.1,.int (lo+(i:Nat)),?_,?_⟩⟩,λi j=>j⟩
  .show((Xt n).map _)[i]?=_;rw[Xq,X8 (by simpa using(show i<n from j))]
   simp
  .rw[y.2];exact .int _
 |str z=>
  cases s;refine⟨λi j=>⟨j,λx u y=>?_⟩,λi j=>j⟩;obtain⟨e,c,p,rfl⟩:=y;refine⟨e,.str ⟨#[c]⟩,?_,.str _⟩;show(z.cps.toList.map _)[i]?=_;rw[Xq,HJ,p]
  rfl
def liSr(X:Cx)(t:TSm):TI:=λu H R=>∃j M,RS X.K H j u/\RH X.K M H/\t j M (λS w=>∀J l,Kp H l->RH X.K w l->EW X l S J->R J l)
section
variable{X:Cx}{tg:Expr}
theorem PI.weak{t:TI}(h:PI X tg e t)(i:∀j H R,t' j H R->t j H R):PI X tg e t':=λl s j H R I q=>h l s j H R I (i _ _ _ q)
end
mutual
def gOf(K:X4):ITg->TG
 |.nm i=>CN i
 |.tup ts=>gTup K (ITgs.len ts) (gsOf K ts)
def gsOf(K:X4):ITgs->TGs
 |.nil=>gNil
 |.cons t ts=>IF (gOf K t) (gsOf K ts)
def ITgs.len:ITgs->Nat
 |.nil=>0
 |.cons _ ts=>ts.len+1
end
mutual
theorem sTg{X:Cx}{lim:Nat}{all:Bool}(u:X.calm=true)(j:X.N.Nodup)(w:all=true->∀x,X.fn x=true):∀(t:ITg){e:Expr},Z9 X.env.scope X.N lim all t e=true->PG X e (gOf X.K t)
 |.nm i,e,h=>by
  obtain⟨x,p,rfl,h1,h2,h3⟩:=ET h;cases all with
  |true=>
   rw[if_pos rfl]at h3;exact ID j h1 (D9 h3) (.inl (w rfl _))
  |false=>
   rw[if_neg XD,decide_eq_true_eq]at h3;exact ID j h1 (.inl h3) (.inr h3)
 |.tup y,e,h=>by
  obtain⟨es,k,p,rfl,h⟩:=EU h;obtain⟨h1,h2,h3⟩:=sTgs u j w y h;exact Tq u h1 h2 h3
theorem sTgs{all:Bool}(u:X.calm=true)(j:X.N.Nodup)(w:all=true->∀x,X.fn x=true):∀(t:ITgs){es:List Expr},chkTgs X.env.scope X.N lim all t es=true->PGs X es (gsOf X.K t)/\(Zz es X.env).length=t.len/\(Zz es X.env).findIdx? (·.1)=none
 |.nil,l,h=>by
  cases _gm h;rw[gsOf,ITgs.len];exact⟨To,rfl,rfl⟩
 |.cons t y,l,h=>by
  obtain⟨e,es,rfl,z,g⟩:=Ku h;obtain⟨h1,h2,h3⟩:=sTgs u j w y g;have h4:=sTg u j w t z;have m:Zz (e::es) X.env=(false,assign e X.env)::Zz es X.env:=by
   cases t with
   |nm i=>obtain⟨x,p,rfl,_⟩:=ET z;rfl
   |tup y=>obtain⟨x,k,p,rfl,_⟩:=EU z;rfl
  rw[gsOf,ITgs.len];refine⟨Tp h4 h1 (by rw[m];rfl),by rw[m,YD,h2],?_⟩
  rw[m,List.findIdx?_cons,if_neg XD,h3]
  rfl
end
theorem RMs.len_tgs{K:X4}:∀{u:ITgs} {xs:List MV} {l:Sm} {P:Sm->Prop},wTgs u xs l P->xs.length=u.len
 |.nil,xs,l,P,h=>by rw[h.1,ITgs.len];rfl
 |.cons t u,xs,l,P,h=>by
  obtain⟨v,r,rfl,h⟩:=h;rw[YD,ITgs.len];have y:∀(t:ITg){v:MV} {l:Sm},wTg t v l (λj=>wTgs u r j P)->∃j,wTgs u r j P:=by
   have w:(∀(t:ITg){v:MV} {l:Sm} {P:Sm->Prop},wTg t v l P->∃j,P j)/\(∀(t:ITgs){v:List MV} {l:Sm} {P:Sm->Prop},wTgs t v l P->∃j,P j):=by
    refine⟨λt=>?_,λt=>?_⟩
    .exact ITg.rec (motive_1:=λt=>∀{v:MV} {l:Sm} {P:Sm->Prop},wTg t v l P->∃j,P j) (motive_2:=λt=>∀{v:List MV} {l:Sm} {P:Sm->Prop},wTgs t v l P->∃j,P j)
      (λi v l P h=>⟨_,h⟩) (λu z v l P h=>by obtain⟨xs,_,h⟩:=h;exact z h)
      (fun{v l P} h=>⟨_,h.2⟩) (λt u m g v l P h=>by obtain⟨x,r,_,h⟩:=h;obtain⟨j,h⟩:=m h;exact g h) t
    .exact ITgs.rec (motive_1:=λt=>∀{v:MV} {l:Sm} {P:Sm->Prop},wTg t v l P->∃j,P j) (motive_2:=λt=>∀{v:List MV} {l:Sm} {P:Sm->Prop},wTgs t v l P->∃j,P j)
      (λi v l P h=>⟨_,h⟩) (λu z v l P h=>by obtain⟨xs,_,h⟩:=h;exact z h)
      (fun{v l P} h=>⟨_,h.2⟩) (λt u m g v l P h=>by obtain⟨x,r,_,h⟩:=h;obtain⟨j,h⟩:=m h;exact g h) t
   exact λt {v l} h=>w.1 t h
  obtain⟨j,d⟩:=y t h;rw[RMs.len_tgs (K:=K) d]
mutual
theorem Da{K:X4}{H:Hp}{lim:Nat}{g:Scope}{N:List Str}{all:Bool}{Ψ:St->Prop}(y:∀u i v,i<lim->Ψ u->Ψ (u.set i (some v))):∀(t:ITg){e:Expr} {mv:MV} {v:V} {l:Sm} {u:St} {P:Sm->Prop} {Q:St->Hp->Prop},Z9 g N lim all t e=true->
  RM K H mv v->RS K H l u->Ψ u->wTg t mv l P->(∀j w,P j->RS K H j w->Ψ w->Q w H)->gOf K t v u H Q
 |.nm i,e,mv,v,l,u,P,Q,m,r,rs,ps,h,hq=>by
  obtain⟨x,p,rfl,_,O,_⟩:=ET m;exact hq _ _ h (rs.set r i) (y _ _ _ O ps)
 |.tup ts,e,mv,v,l,u,P,Q,m,r,rs,ps,h,hq=>by
  obtain⟨es,k,p,rfl,m⟩:=EU m;obtain⟨xs,rfl,h⟩:=h;obtain⟨_,_,rfl,h1,L⟩:=r.inv;exact⟨_,_,rfl,SqT.of h1,by rw[<-L.length];exact RMs.len_tgs (K:=K) h,tgs_ok y ts m L rs ps h hq⟩
theorem tgs_ok{K:X4}{H:Hp}{lim:Nat}{g:Scope}{N:List Str}{all:Bool}{Ψ:St->Prop}(y:∀u i v,i<lim->Ψ u->Ψ (u.set i (some v))):∀(t:ITgs){es:List Expr} {z:List MV} {vs:List V} {l:Sm} {u:St} {P:Sm->Prop} {Q:St->Hp->Prop},chkTgs g N lim all t es=true->
  RMs K H z vs->RS K H l u->Ψ u->wTgs t z l P->(∀j w,P j->RS K H j w->Ψ w->Q w H)->gsOf K t vs u H Q
 |.nil,es,z,vs,l,u,P,Q,m,r,rs,ps,h,hq=>by
  obtain⟨rfl,h⟩:=h;obtain rfl:=r.inv;rw[gsOf];exact⟨rfl,hq _ _ h rs ps⟩
 |.cons t ts,es,z,vs,l,u,P,Q,m,r,rs,ps,h,hq=>by
  obtain⟨e,es,rfl,d,c⟩:=Ku m;obtain⟨x,U,rfl,h⟩:=h;obtain⟨_,_,rfl,R,T⟩:=r.inv;rw[gsOf];exact⟨_,_,rfl,Da y t d R rs ps h λj w h' f q=>tgs_ok y ts c T f q h' hq⟩
end
theorem _re{K:X4}{own:List Str}{fr:List Nat}(w:RS K H σm σ):RS K H (sCm own fr σm) (sC own fr σ):=by
 refine⟨by simp[sCm,sC],λi m e=>?_⟩
 unfold sCm at e;unfold sC;by_cases hi:i<own.length
 .rw[ZB (by simpa using hi),Xq]at e
  cases q:own[i]? with
  |none=>rw[q]at e;cases e
  |some z=>rw[q]at e;cases e
 .rw[Zf (by simpa using hi),Xd,Xq]at e
  rw[Zf (by simpa using hi),Xd,Xq]
  cases q:fr[i - own.length]? with
  |none=>rw[q]at e;cases e
  |some j=>
   rw[q]at e;have l:σm.getD j none=some m:=Y9 e;have y:σm[j]?=some (some m):=by
    rw[Yf]at l;cases u:σm[j]? with
    |none=>rw[u]at l;cases l
    |some o=>rw[u]at l;rw[show o=some m from l]
   obtain⟨v,g,r⟩:=w.2 j m y;refine⟨v,?_,r⟩;show some (σ.getD j none)=_;rw[Yf,g]
   rfl
theorem _lo{own:List Str}{fr:List Nat}(l:i<own.length)(k:Keep (sC own fr σ) σ'):Keep (sC own fr σ) (σ'.set i (some v)):=by
 refine⟨by rw[Uw];exact k.1,λj w h=>?_⟩
 by_cases hij:i=j
 .subst hij;exfalso;unfold sC at h;rw[ZB (by simpa using l),Xq]at h
  cases q:own[i]? with
  |none=>rw[q]at h;cases h
  |some z=>rw[q]at h;cases h
 .rw[Vs,if_neg hij];exact k.2 j w h
theorem _kZ{y:Expr}(h:A3 y=true):J5 y:=by
 intro o i;cases y<;>first|rfl|cases h
theorem EY{it:Expr}(h:A4 it=true)(env:Env):∀x,BU it env x=pure x:=by
 intro x;cases it<;>first|rfl|cases h
theorem Cok.comp(c:Cok X G Φ){own:List Str}{fr:List Nat}(j:scope.kind=.function)(l:(nC own fr X.N).Nodup):Cok (cxC X scope own fr C fp s₃ H₃) G Φ:=
 ⟨c.room,c.calm,rfl,(by show(if scope.kind.isAnnotationScope then Iu else scope.kind)=.function;rw[j];rfl),l,c.bls,c.gls,c.fnn,c.mon,c.fns,c.mts,c.mks,c.cls⟩
def ttOf(K:X4)(Φ:List (Str×SpM)):IO->TT
 |.none=>tAll
 |.some e=>liT K (wE Φ e)
theorem Ky{X:Cx}{Φ:List (Str×SpM)}(r:∀(j:Nat)f sp,Φ[j]?=some (f,sp)->MonW sp){own:List Str} {fr:List Nat} {p:ISr} {tg:ITg} {u:IO} {elt:IE} {sc:Scope} {N:List Str} {t:Expr}
  (h5:Z9 sc N own.length false tg t=true){σ:St} {H:Hp} {Q:VK} (hw:liE X.K (wE Φ (.comp own fr p tg u elt)) σ H Q):EQ own fr (liSr X (wSr Φ p)) (gOf X.K tg) (ttOf X.K Φ u) (liE X.K (wE Φ elt)) σ H (λv L=>∃T,Thw X L T/\Q v T):=by
 obtain⟨σm,M,rs,rh,hw⟩:=hw;refine⟨σm,M,rs,rh,mon_sr r p (λS M1 ⟨hz,q⟩=>?_) hw⟩;intro J H1 k1 U W D hD;obtain⟨s,j0,j1,j2,j3⟩:=q D (U.free hD);refine⟨λi m ys T=>m=S.len - i/\i<=S.len/\Kp H1 T/\∃l M2,RH X.K M2 T/\s i l M2,⟨S.len,rfl,YS _,Kp.new hD _,[],_,U.put (Kp.new hD (.lst [])) (o:=.lst []) RMs.nil,j0⟩,?_⟩;rintro i m ys T ⟨rfl,hi,Y,l,M2,z,hj⟩;obtain⟨d1,d2,d3⟩:=j1 i l M2 hj;obtain⟨Z,O⟩:=Kx W Y z d3;by_cases hlt:i<S.len
 .obtain⟨go,yld⟩:=Z i hlt;refine .inr ⟨go,λys' L=>Kp H1 L/\∃l P,RH X.K P L/\s (i+1) l P,λys' L ⟨a,A,P,b,c⟩=>⟨S.len - (i+1),by lia,rfl,hlt,a,A,P,b,c⟩,λx H3 y=>?_⟩
  obtain⟨e3,m,hm,rm⟩:=yld x H3 y;subst e3;have ht:=j2 i m l M2 hm hj;refine Da (Ψ:=Keep (sC own fr σ)) (lim:=own.length) (λB i v hi k=>_lo hi k) tg h5 rm (_re (rs.mono (k1.trans Y))) ⟨rfl,λ_ _ h=>h⟩ ht λw B n C keep=>⟨keep,?_⟩;have d:∀{E:MH} {F:Hp},Kp H3 F->RH X.K E F->(wE Φ elt w E λy M5=>M5 D=some (.lst l)/\s (i+1) (l++[y]) (updM M5 D (.lst (l++[y]))))->
    liE X.K (wE Φ elt) B F λy H6=>∃R,H6 D=some (.lst R)/\R.length<sizeLine/\Kp H1 (upd H6 D (.lst (R++[y])))/\∃l P,RH X.K P (upd H6 D (.lst (R++[y])))/\s (i+1) l P:=fun{E F} G g q=>by
   refine⟨w,E,C.mono G,g,Xa r elt (λy M5 ⟨hd,hj'⟩=>?_) q⟩;intro v H6 k6 r6 I;obtain⟨R,e,rz⟩:=I.lst hd;have ku:=Kp.upd e rfl (.lst (R++[v]));exact⟨R,e,by rw[<-rz.length];lia,Y.trans (G.trans (k6.trans ku)),_,_,I.put ku (o:=.lst (l++[y])) ((rz.append (.cons r6 .nil)).mono ku),hj'⟩
  cases u with
  |none=>
   rw[wI]at n;rw[if_pos rfl]at n;rw[ttOf];refine _qU ?_;dsimp only;rw[if_pos rfl];exact d (Kp.refl _) z n
  |some e=>
   refine⟨w,M2,C,z,Xa r e (λv E ⟨b,eb,q⟩=>⟨b,eb,λF G g=>YL (λq=>d G g q) (λq=>⟨Y.trans G,_,_,g,q⟩) q⟩) n⟩
 .refine .inl ⟨O i (by lia),?_⟩
  have e:i=S.len:=by lia
  subst e;obtain⟨L,th,k3,rh3⟩:=EX W z (Kw d3);exact⟨L,th,j3 l M2 hj _ _ (k1.trans (Y.trans k3)) (.ref D) rh3⟩
theorem Kz{K:X4}{Φ:List (Str×SpM)}(l:∀(j:Nat)f sp,Φ[j]?=some (f,sp)->MonW sp){op g:CmpOp} {a b d:IE} {U:St} {H:Hp} {Q:VK} (hw:liE K (wE Φ (.chn op g a b d)) U H Q):
  Es (li2 K (wCmp op)) (li2 K (wCmp g)) (liE K (wE Φ a)) (liE K (wE Φ b)) (liE K (wE Φ d)) U H Q:=by
 obtain⟨c,M,O,Z,hw⟩:=hw;rw[Kh]at hw;refine⟨c,M,O,Z,Xa l a (λx M1 A=>?_) hw⟩;intro v X p B P;refine⟨c,M1,O.mono p,P,Xa l b (λy M2 C=>?_) A⟩;intro u o L W R;refine⟨x,y,M2,B.mono L,W,R,VU op (λz D ⟨k,e,E⟩=>?_) C⟩;subst e;intro z s N F r;obtain rfl:=F.inv;refine⟨k,rfl,YL (λq=>?_) (λq=>?_) E⟩
 .refine⟨c,D,O.mono (p.trans (L.trans N)),r,Xa l d (λw G I=>?_) q⟩;intro i n Y J T;exact⟨y,w,G,W.mono (N.trans Y),J,T,VU g (λm h S=>S.on (p.trans (L.trans (N.trans Y)))) I⟩
 .exact q _ _ (p.trans (L.trans N)) (.bl _) r
theorem KA{o:Expr}{m:Str}{l pos:Pos}{j:List Expr}{env:Env}(u:Uo o m env (eval o env)=eval o env)(w:methodCallForm (j.length+([]:List Z1).length) (XZ pos (XA j env)) (ZY pos (ZZ [] env))=true)(y:(l.endLine==pos.line)=true):
  eval (.Call (.Attribute o m l) j [] pos) env=(do
   let ov<- eval o env
   standAt l.atName
   let(f,first)<- Z0 [ov] (getMethod ov m (do return(<- importBound o env).getD true))
   callWith pos f first (XZ pos (XA j env)) (ZY pos (ZZ [] env))):=by
 rw[arm_eval_Call,u];unfold methodCall calleeOf methodCallPos;rw[w,y];simp only[if_true,VC,Ec,pure_bind]
def trOf(K:X4)(Φ:List (Str×SpM)):IPs->List (TE×TE)
 |.nil=>[]
 |.cons k v r=>(liE K (wE Φ k),liE K (wE Φ v))::trOf K Φ r
noncomputable def aob:IE->Bool
 |.and ..=>true
 |.or ..=>true
 |_=>false
structure Snd (X:Cx)(Φ:List (Str×SpM))(ie:IE)(e:Expr):Prop where
 pe:PE X e (liE X.K (wE Φ ie))
 pt:tok ie=true->PT X e (liT X.K (wE Φ ie))
 pw:tok ie=true->aob ie=true->PW X e (liT X.K (wE Φ ie))
theorem Snd.plain(c:Cok X G Φ)(l:PE X e (liE X.K (wE Φ ie)))(u:∀j,isTrue e X.env j=(do let v<- j;standAt e.pos;Z0 [v] (truthy v)))(w:aob ie=false):Snd X Φ ie e:=
 ⟨l,λ_=>(T8 l u).weak λy H Q h=>EV (t:=wE Φ ie) (Xa c.mon ie) h,λ_ h=>by rw[w]at h;cases h⟩
theorem _qQ(f:BI):(∃n,f.val=.builtin n)\/∃n,f.val=.type n:=by cases f<;>first|exact .inl ⟨_,rfl⟩|exact .inr ⟨_,rfl⟩
theorem KB{G:GI}{b:IE}{j:Scope}{N:List Str}{op:BoolOp}{vs:List Expr}{p:Pos}(h:chkE G b j N (.BoolOp op vs p)=true):aob b=true:=by revert h;cases b<;>first|exact λ_=>rfl|exact nob
mutual
theorem sE{G:GI}{Φ:List (Str×SpM)}:∀(ie:IE){X:Cx} {e:Expr},Cok X G Φ->chkE G ie X.env.scope X.N e=true->Snd X Φ ie e
 |.var i,X,e,c,h=>by
  obtain⟨x,p,rfl,h1,h2,h3,h4⟩:=_o6 h;refine .plain c ?_ (λ_=>rfl) rfl;refine(IB h1 (_p5 h2) h3 h4).weak λU H Q hw=>?_;obtain⟨L,M,P,T,hw⟩:=hw;rw[Kg]at hw;obtain⟨v,e,q⟩:=hw;obtain⟨u,hu,r⟩:=P.2 i v e;exact⟨u,hu,q _ _ (Kp.refl _) r T⟩
 |.int i,X,e,c,h=>by
  obtain⟨k,p,rfl⟩:=_oe h;refine .plain c ?_ (λ_=>rfl) rfl;refine pe_int.weak λU H Q hw=>?_;obtain⟨L,M,P,T,hw⟩:=hw;exact hw _ _ (Kp.refl _) (.int i) T
 |.str i,X,e,c,h=>by
  obtain⟨k,p,rfl⟩:=_o8 h;refine .plain c ?_ (λ_=>rfl) rfl;refine pe_str.weak λU H Q hw=>?_;obtain⟨L,M,P,T,hw⟩:=hw;exact hw _ _ (Kp.refl _) (.str i) T
 |.bl i,X,e,c,h=>by
  obtain⟨k,p,rfl⟩:=_qD h;refine .plain c ?_ (λ_=>rfl) rfl;refine pe_bl.weak λU H Q hw=>?_;obtain⟨L,M,P,T,hw⟩:=hw;exact hw _ _ (Kp.refl _) (.bl i) T
 |.non,X,e,c,h=>by
  obtain⟨k,p,rfl⟩:=_ob h;refine .plain c ?_ (λ_=>rfl) rfl;refine pe_non.weak λU H Q hw=>?_;obtain⟨L,M,P,T,hw⟩:=hw;exact hw _ _ (Kp.refl _) .non T
 |.glb x i,X,e,c,h=>by
  obtain⟨p,rfl,h1,h2⟩:=_og h;obtain⟨g1,g2,g3⟩:=UF h2;obtain⟨tk,hm⟩:=c.gls x i h1;refine .plain c ?_ (λ_=>rfl) rfl;refine(T6 (v:=.int i) g1 hm ⟨tk,rfl⟩ g2).weak λU H Q hw=>?_;obtain⟨L,M,P,T,hw⟩:=hw;exact hw _ _ (Kp.refl _) (.int i) T
 |.ty t,X,e,c,h=>by
  obtain⟨p,rfl,h0,h1,h2⟩:=_qy h;obtain⟨g1,g2,g3⟩:=UF h2;refine .plain c ?_ (λ_=>rfl) rfl;refine(T7 (v:=.ty t.name) g1 (c.bls _ h1) (_oJ h0) rfl g3 g2).weak λU H Q hw=>?_;obtain⟨L,M,P,T,hw⟩:=hw;exact hw _ _ (Kp.refl _) (.ty t) T
 |.bin op a b,X,e,c,h=>by
  obtain⟨l,r,p,rfl,h1,h2⟩:=_ok h;refine .plain c ?_ (λ_=>rfl) rfl;refine(TF (_qa op) (sE a c h1).pe (sE b c h2).pe).weak λU H Q hw=>?_;have:wE Φ (.bin op a b)=λU M Q=>wE Φ a U M λx M1=>wE Φ b U M1 λy M2=>wBin op x y M2 Q:=rfl;rw[this]at hw;exact EE (ta:=wE Φ a) (tb:=wE Φ b) (w:=wBin op) (Xa c.mon a) (Xa c.mon b) (JP op) hw
 |.neg a,X,e,c,h=>by
  obtain⟨l,p,rfl,h1⟩:=_oc h;refine .plain c ?_ (λ_=>rfl) rfl;refine(TH TU (sE a c h1).pe).weak λU H Q hw=>?_;obtain⟨L,M,P,T,hw⟩:=hw;refine⟨L,M,P,T,Xa c.mon a (λx M1 ⟨i,e,q⟩=>?_) hw⟩;subst e;intro v Y O W N;obtain rfl:=W.inv;exact⟨i,rfl,q _ _ O (.int _) N⟩
 |.not a,X,e,c,h=>by
  obtain⟨l,p,rfl,h1⟩:=_oa h;have ih:=sE a c h1;refine⟨(Te ih.pe).weak λU H Q hw=>?_,λD=>(T9 (ih.pt D)).weak λU H Q hw=>?_,λ_ z=>by cases z⟩
  .obtain⟨L,M,P,T,hw⟩:=hw;rw[EJ]at hw;refine⟨L,M,P,T,Xa c.mon a (λx M1 ⟨i,e,q⟩=>?_) hw⟩;subst e;intro v Y O W N;obtain rfl:=W.inv;exact⟨i,rfl,q _ _ O (.bl _) N⟩
  .obtain⟨L,M,P,T,hw⟩:=hw;rw[EJ]at hw;refine⟨L,M,P,T,Xa c.mon a (λx M1 ⟨i,e,b,e2,q⟩=>⟨i,e,λH' k rh'=>?_⟩) hw⟩;cases e2;exact q H' k rh'
 |.cmp op a b,X,e,c,h=>by
  obtain⟨l,r,p,rfl,h1,h2,h3⟩:=_oi h;have rd:∀U H Q,liE X.K (wE Φ (.cmp op a b)) U H Q->tOp (li2 X.K (wCmp op)) (liE X.K (wE Φ a)) (liE X.K (wE Φ b)) U H Q:=λU H Q hw=>by
   have:wE Φ (.cmp op a b)=λU M Q=>wE Φ a U M λx M1=>wE Φ b U M1 λy M2=>wCmp op x y M2 Q:=rfl;rw[this]at hw;exact EE (ta:=wE Φ a) (tb:=wE Φ b) (w:=wCmp op) (Xa c.mon a) (Xa c.mon b) (VU op) hw
  refine⟨(_nt (VW c.room op) (sE a c h1).pe (sE b c h2).pe h3).weak rd,λ_=>(_ng (VW c.room op) (sE a c h1).pe (sE b c h2).pe h3).weak λU H Q hw=>?_,λ_ z=>by cases z⟩
  exact rd U H _ (EV (t:=wE Φ (.cmp op a b)) (Xa c.mon _) hw)
 |.chn op op' a b d,X,e,c,h=>by
  obtain⟨l,m,r,p,rfl,h1,h2,h3,h4⟩:=_oj h;refine⟨(_l6 (VW c.room op) (VW c.room op') (sE a c h1).pe (sE b c h2).pe (sE d c h3).pe h4).weak λU H Q hw=>Kz c.mon hw,
   λ_=>(_kV (VW c.room op) (VW c.room op') (sE a c h1).pe (sE b c h2).pe (sE d c h3).pe h4).weak λU H Q hw=>?_,λ_ z=>by cases z⟩
  exact Kz c.mon (EV (t:=wE Φ (.chn op op' a b d)) (Xa c.mon _) hw)
 |.and a b,X,e,c,h=>by
  obtain⟨l,r,rest,p,rfl,h1,h2⟩:=_ol h;have ih:=sE a c h1;have hb:PE X (.BoolOp .And (r::rest) p) (liE X.K (wE Φ b)):=by
   rcases h2 with⟨rfl,h2⟩|h2
   .exact IC (sE b c h2).pe
   .exact(sE b c h2).pe
  have hw':tok (.and a b)=true->PW X (.BoolOp .And (l::r::rest) p) (liT X.K (wE Φ (.and a b))):=λD=>by
   have D:(tok a&&tok b)=true:=D;rw[XX]at D;have hb2:PW X (.BoolOp .And (r::rest) p) (liT X.K (wE Φ b)):=by
    rcases h2 with⟨rfl,h2⟩|h2
    .exact pw_and1 ((sE b c h2).pt D.2)
    .refine(sE b c h2).pw D.2 ?_;exact KB h2
   refine(pw_and (ih.pt D.1) hb2).weak λU H Q hw=>?_;obtain⟨L,M,P,T,hw⟩:=hw;rw[EK]at hw;refine⟨L,M,P,T,Xa c.mon a (λx M1 ⟨k,e,q⟩=>⟨k,e,λY O N=>?_⟩) hw⟩;refine YL (λq=>⟨L,M1,P.mono O,N,Kv (t:=wE Φ b) (Xa c.mon b) O q⟩) (λq=>let⟨b,e,q⟩:=q;MV.noConfusion e λeb=>eb▸q Y O N) q
  refine⟨(Tc ih.pe hb).weak λU H Q hw=>?_,λD=>(hw' D).pt,λD _=>hw' D⟩;obtain⟨L,M,P,T,hw⟩:=hw;rw[EK]at hw;refine⟨L,M,P,T,Xa c.mon a (λx M1 ⟨k,e,q⟩=>?_) hw⟩;subst e;intro v Y O W N;obtain rfl:=W.inv;refine⟨k,rfl,YL (λq=>⟨L,M1,P.mono O,N,Xa c.mon b (λm M' A=>A.on O) q⟩) (λq=>q _ _ O (.bl _) N) q⟩
 |.or a b,X,e,c,h=>by
  obtain⟨l,r,rest,p,rfl,h1,h2⟩:=_qA h;have ih:=sE a c h1;have hb:PE X (.BoolOp .Or (r::rest) p) (liE X.K (wE Φ b)):=by
   rcases h2 with⟨rfl,h2⟩|h2
   .exact IC (sE b c h2).pe
   .exact(sE b c h2).pe
  have hw':tok (.or a b)=true->PW X (.BoolOp .Or (l::r::rest) p) (liT X.K (wE Φ (.or a b))):=λD=>by
   have D:(tok a&&tok b)=true:=D;rw[XX]at D;have hb2:PW X (.BoolOp .Or (r::rest) p) (liT X.K (wE Φ b)):=by
    rcases h2 with⟨rfl,h2⟩|h2
    .exact pw_or1 ((sE b c h2).pt D.2)
    .refine(sE b c h2).pw D.2 ?_;exact KB h2
   refine(pw_or (ih.pt D.1) hb2).weak λU H Q hw=>?_;obtain⟨L,M,P,T,hw⟩:=hw;rw[x_or]at hw;refine⟨L,M,P,T,Xa c.mon a (λx M1 ⟨k,e,q⟩=>⟨k,e,λY O N=>?_⟩) hw⟩;refine YL (λq=>let⟨b,e,q⟩:=q;MV.noConfusion e λeb=>eb▸q Y O N) (λq=>⟨L,M1,P.mono O,N,Kv (t:=wE Φ b) (Xa c.mon b) O q⟩) q
  refine⟨(Td ih.pe hb).weak λU H Q hw=>?_,λD=>(hw' D).pt,λD _=>hw' D⟩;obtain⟨L,M,P,T,hw⟩:=hw;rw[x_or]at hw;refine⟨L,M,P,T,Xa c.mon a (λx M1 ⟨k,e,q⟩=>?_) hw⟩;subst e;intro v Y O W N;obtain rfl:=W.inv;refine⟨k,rfl,YL (λq=>q _ _ O (.bl _) N) (λq=>⟨L,M1,P.mono O,N,Xa c.mon b (λm M' A=>A.on O) q⟩) q⟩
 |.ife d a b,X,e,c,h=>by
  obtain⟨t,x,y,p,rfl,h0,h1,h2,h3⟩:=_of h;refine⟨(Tf ((sE d c h1).pt h0) (sE a c h2).pe (sE b c h3).pe).weak λU H Q hw=>?_,λz=>(by cases z),λz _=>(by cases z)⟩
  obtain⟨L,M,P,T,hw⟩:=hw;rw[Ki]at hw;refine⟨L,M,P,T,Xa c.mon d (λx M1 ⟨k,e,q⟩=>⟨k,e,λY O N=>?_⟩) hw⟩;exact YL (λq=>⟨L,M1,P.mono O,N,Xa c.mon a (λm M' A=>A.on O) q⟩) (λq=>⟨L,M1,P.mono O,N,Xa c.mon b (λm M' A=>A.on O) q⟩) q
 |.tup es,X,e,c,h=>by
  obtain⟨xs,k,p,rfl,h1⟩:=_o7 h;refine .plain c ?_ (λ_=>rfl) rfl;refine(_pX (sA es c h1)).weak λU H Q hw=>?_;obtain⟨L,M,P,T,hw⟩:=hw;refine⟨L,M,P,T,mon_es c.mon es (λms M1 ⟨hz,q⟩=>?_) hw⟩;intro vs Y O W N;refine⟨by rw[<-W.length];exact hz,λp hp=>?_⟩
  have Z:=Kp.new hp (.tup vs);exact q _ _ (O.trans Z) (.tup _I (W.mono Z)) (N.kept hp _)
 |.lst es,X,e,c,h=>by
  obtain⟨xs,p,rfl,h1⟩:=_od h;refine .plain c ?_ (λ_=>rfl) rfl;refine(_pZ (sA es c h1)).weak λU H Q hw=>?_;obtain⟨L,M,P,T,hw⟩:=hw;refine⟨L,M,P,T,mon_es c.mon es (λms M1 ⟨hz,q⟩=>?_) hw⟩;intro vs Y O W N;refine⟨by rw[<-W.length];exact hz,λp hp=>?_⟩
  have Z:=Kp.new hp (.lst vs);exact q p (N.free hp) _ _ (O.trans Z) (.ref p) (N.put Z (W.mono Z))
 |.dic,X,e,c,h=>absurd h XD
 |.ix a b,X,e,c,h=>by
  obtain⟨l,r,p,rfl,h1,h2,h3⟩:=_qC h;refine .plain c ?_ (λ_=>rfl) rfl;refine(_s4 (_qw (by have:=c.room;lia)) (sE a c h1).pe (sE b c h2).pe (_kZ h3)).weak λU H Q hw=>?_
  have:wE Φ (.ix a b)=λU M Q=>wE Φ a U M λx M1=>wE Φ b U M1 λy M2=>wIx x y M2 Q:=rfl;rw[this]at hw;exact EE (ta:=wE Φ a) (tb:=wE Φ b) (w:=wIx) (Xa c.mon a) (Xa c.mon b) K4 hw
 |.sl a lo hi,X,e,c,h=>by
  obtain⟨x,l,u,p,p2,rfl,h1,h2,h3⟩:=_qz h;refine .plain c ?_ (λ_=>rfl) rfl;refine(_l2 _pd (sE a c h1).pe (sO lo c h2) (sO hi c h3)).weak λU H Q hw=>?_;obtain⟨L,M,P,T,hw⟩:=hw;refine⟨L,M,P,T,Xa c.mon a (λx M1 J=>?_) hw⟩;intro v Y O W N;refine⟨L,M1,P.mono O,N,mon_o c.mon lo (λl M2 q2=>?_) J⟩;intro H2 Z B;refine⟨L,M2,P.mono (O.trans Z),B,mon_o c.mon hi (λu M3 q3=>?_) q2⟩;intro H3 k3 rh3;exact⟨x,M3,W.mono (Z.trans k3),rh3,K6 (λm M' A=>A.on (O.trans (Z.trans k3))) q3⟩
 |.call j a es,X,e,c,h=>by
  obtain⟨f,p,x,xs,p2,rfl,h1,h2,h3,h4⟩:=_lr h;obtain⟨g1,g2,g3⟩:=UF h2;obtain⟨sp,hj⟩:=c.fnn j f h1;obtain⟨k,fa,fd,ps,hr,F,hm,hk,hb⟩:=c.fns j f sp h1 hj;have ha:PA X (x::xs) (VP (liE X.K (wE Φ a)) (liA X.K (wEs Φ es))):=WO (sE a c h3).pe (sA es c h4) (YA h3);refine .plain c ?_ (λ_=>rfl) rfl;refine(_nu (E:=E0) F hr g1 hm hk hb .nil CT ha g2 (YA h3) (UG (Ug (pos:=p2) h4)).2).weak λU H Q hw=>?_;obtain⟨L,M,P,T,hw⟩:=hw;rw[Kj]at hw;refine⟨L,M,P,T,Xa c.mon a (λv M1 J=>?_) hw⟩;intro u Y O W N;refine⟨L,M1,P.mono O,N,mon_es c.mon es (λvs M2 ⟨f',sp',e,q2⟩=>?_) J⟩;rw[hj]at e;cases e;intro us H2 Z r2 B;refine⟨v::vs,M2,?_,B,c.mon j f sp hj (λm M' A=>A.on (O.trans Z)) q2⟩;rw[Vu];exact .cons (W.mono Z) r2
 |.bi f a es,X,e,c,h=>by
  obtain⟨p,x,xs,p2,rfl,h1,h2,h3,h4⟩:=_qE h;obtain⟨g1,g2,g3⟩:=UF h2;have ha:PA X (x::xs) (VP (liE X.K (wE Φ a)) (liA X.K (wEs Φ es))):=WO (sE a c h3).pe (sA es c h4) (YA h3);have hv:=_oK f;have hcall:=_oH (X:=X) c.calm f;have hp:PE X (.Call (.Name (f.name:Str) p) (x::xs) [] p2) (tCB (liW X.K (wBi f)) (VP (liE X.K (wE Φ a)) (liA X.K (wEs Φ es)))):=by
   rcases _qQ f with⟨n,hf⟩|⟨n,hf⟩<;>rw[hf]at hv hcall
   .exact _l7 hcall g1 (c.bls _ h1) hv ha g3 g2 (YA h3) (UG (Ug (pos:=p2) h4)).2
   .exact _iT hcall g1 (c.bls _ h1) hv ha g3 g2 (YA h3) (UG (Ug (pos:=p2) h4)).2
  refine .plain c ?_ (λ_=>rfl) rfl;refine hp.weak λU H Q hw=>?_;obtain⟨L,M,P,T,hw⟩:=hw;refine⟨L,M,P,T,Xa c.mon a (λv M1 J=>?_) hw⟩;intro u Y O W N;refine⟨L,M1,P.mono O,N,mon_es c.mon es (λvs M2 q2=>?_) J⟩;intro us H2 Z r2 B;exact⟨v::vs,M2,.cons (W.mono Z) r2,B,K9 f (λm M' A=>A.on (O.trans Z)) q2⟩
 |.b2 f a,X,e,c,h=>by
  obtain⟨p,p',x,p2,p2',rfl,h1,h2,h3,h4,h5⟩:=_qF h;obtain⟨g1,g2,g3⟩:=UF h3;obtain⟨O,Z,k3⟩:=UF h4;have hv:YB (f.out:Str)=some f.outV:=by cases f<;>decide+kernel
  have hv':YB (f.inn:Str)=some (.type f.inn):=by cases f<;>decide+kernel
  have hp:PE X (.Call (.Name (f.out:Str) p) [.Call (.Name (f.inn:Str) p') [x] [] p2'] [] p2) (λU H Q=>liE X.K (wE Φ a) U H λv Y=>li1 X.K (wB2 f) v Y Q):=by
   have hc:=_oI (X:=X) c.calm f;cases f with
   |lrng=>exact _iU (p:=p) (p':=p') (pos:=p2) (pos':=p2') hc g1 (c.bls _ h1) hv O (c.bls _ h2) hv' (sE a c h5).pe g3 g2 k3 Z (YA h5)
   |ssrt=>exact EC (p:=p) (p':=p') (pos:=p2) (pos':=p2') hc g1 (c.bls _ h1) hv O (c.bls _ h2) hv' (sE a c h5).pe g3 g2 k3 Z (YA h5)
   |lset=>exact EC (p:=p) (p':=p') (pos:=p2) (pos':=p2') hc g1 (c.bls _ h1) hv O (c.bls _ h2) hv' (sE a c h5).pe g3 g2 k3 Z (YA h5)
   |tset=>exact EC (p:=p) (p':=p') (pos:=p2) (pos':=p2') hc g1 (c.bls _ h1) hv O (c.bls _ h2) hv' (sE a c h5).pe g3 g2 k3 Z (YA h5)
  refine .plain c ?_ (λ_=>rfl) rfl;refine hp.weak λU H Q hw=>?_;obtain⟨L,M,P,T,hw⟩:=hw;refine⟨L,M,P,T,Xa c.mon a (λv M1 J=>?_) hw⟩;intro u Y O W N;exact⟨v,M1,W,N,Kb f (λm M' A=>A.on O) J⟩
 |.st3 a,X,e,c,h=>absurd h XD
 |.mxd a,X,e,c,h=>absurd h XD
 |.mt m o es,X,e,c,h=>by
  obtain⟨ob,ap,S,cp,rfl,h1,h2,h3,h4⟩:=_qB h;have slot:PySem.Slot m.ty (m.name:Str) m.id/\typeOf (.builtin m.id)=pure (.type "method_descriptor"):=by
   cases m
   .exact⟨PySem.F.slot_list_append,PySem.F.type_list_append⟩
   .exact⟨PySem.F.slot_list_extend,PySem.F.type_list_extend⟩
   .exact⟨PySem.F.slot_list_reverse,PySem.F.type_list_reverse⟩
  have plain:PlainAttrs m.ty:=by
   cases m<;>first|exact PySem.F.plainAttrs_list|exact PySem.F.plainAttrs_dict|exact PySem.F.plainAttrs_str
  have hu1:X.A.units+1<cLine:=by have:=c.room;lia
  have tyL:∀{Y:Hp} {M1:MH} {mx:MV} {v:V},RH X.K M1 Y->RM X.K Y mx v->mtOk m mx M1->tyV X.K m.ty v Y:=by
   intro Y M1 mx v T r hm;cases m
   all_goals
    obtain⟨a,xs,rfl,hm⟩:=hm;obtain rfl:=r.inv;obtain⟨vs,e,_⟩:=T.lst hm;exact .inl ⟨rfl,vs,SqL.of e⟩
  refine .plain c ?_ (λ_=>rfl) rfl;cases S with
  |nil=>
   refine(_q1 plain slot.1 slot.2 (Kd hu1 m) (sE o c h2).pe (Aa h2) h1).weak λU H Q hw=>?_;obtain⟨L,M,P,T,hw⟩:=hw;refine⟨L,M,P,T,Xa c.mon o (λv M1 ⟨q0,J⟩=>?_) hw⟩;intro u Y O W N;cases es with
   |cons _ _=>exact absurd h3 XD
   |nil=>
    exact⟨tyL N W q0,v,[],M1,W,.nil,N,EI (λm M' A=>A.on O) J⟩
  |cons x xs=>
   cases es with
   |nil=>cases ER h3
   |cons a es=>
    have h3':=h3;obtain⟨x',xs',e',h3⟩:=ES h3;cases e';have ha:=sA (.cons a es) c h3';have hall:=UG (pos:=cp) (Ug (env:=X.env) (pos:=cp) h3');refine(_s5 plain slot.1 slot.2 (Kd hu1 m) (sE o c h2).pe ha (Aa h2) ?_ h1 (YA h3.1) (UG (Ug (pos:=cp) h3.2)).2).weak λU H Q hw=>?_
    .rw[hall.1];simp only[Cq,XX,decide_eq_true_eq];refine⟨rfl,?_⟩;simp at h4 ⊢;lia
    obtain⟨L,M,P,T,hw⟩:=hw;refine⟨L,M,P,T,Xa c.mon o (λv M1 ⟨q0,J⟩=>?_) hw⟩;intro u Y O W N;refine⟨tyL N W q0,L,M1,P.mono O,N,mon_es c.mon (.cons a es) (λvs M2 q2=>?_) J⟩;intro us H2 Z r2 B;exact⟨v,vs,M2,W.mono Z,r2,B,EI (λm M' A=>A.on (O.trans Z)) q2⟩
 |.comp own fr src tg test elt,X,e,c,h=>by
  obtain⟨x,t,it,ifs,scope,p,rfl,h1,h2,h3,h4,h5,h6,h7⟩:=Kt h;refine .plain c ?_ (λ_=>rfl) rfl;refine(_l5 own fr (g:=gOf X.K tg) (te:=liE X.K (wE Φ elt)) (λe s h=>by rw[c.nox]at h;exact h) c.calm h1 (sSr src (tg:=t) c h4) (λC fp s₃ H₃=>sTg (X:=cxC X scope own fr C fp s₃ H₃) (lim:=own.length) (all:=false) c.calm h3 (λz=>by cases z) tg h5) (tt:=ttOf X.K Φ test) (λC fp s₃ H₃=>sI (X:=cxC X scope own fr C fp s₃ H₃) test (c.comp (VR h1).kind h3) h6)
   (λC fp s₃ H₃=>(sE (X:=cxC X scope own fr C fp s₃ H₃) elt (c.comp (VR h1).kind h3) h7).pe) (EY h2 _)).thaw.weak λU H Q hw=>?_
  exact Ky c.mon h5 hw
 |.fld cn o f,X,e,c,h=>by
  obtain⟨ob,p,rfl,h1,h2⟩:=_oh h;obtain⟨C,hC,cl,na⟩:=c.cls cn f h1;refine .plain c ?_ (λ_=>rfl) rfl;refine(_q0 (sE o c h2).pe (Aa h2)).weak λU H Q hw=>?_;obtain⟨L,M,P,T,hw⟩:=hw;refine⟨L,M,P,T,Xa c.mon o (λv M1 ⟨a,fs,y,e,e2,e3,q⟩=>?_) hw⟩;subst e;intro u Y O W N;obtain rfl:=W.inv;obtain⟨C',dx,vs,g1,g2,g3⟩:=N.ins e2;rw[hC]at g2;cases g2;rcases D0 (f:=f) g3 with⟨z1,z2⟩|⟨x',u',z1,z2,r'⟩
  .rw[e3]at z1;cases z1
  .rw[e3]at z1;cases z1;exact⟨a,C,dx,vs,u',rfl,g1,cl,na,z2,q _ _ O r' N⟩
 |.mcall j cn m o es,X,e,c,h=>by
  obtain⟨ob,ap,S,cp,rfl,h1,h2,h3,h8,h9⟩:=_jo h;have hform:methodCallForm (S.length+([]:List Z1).length) (XZ cp (XA S X.env)) (ZY cp (ZZ [] X.env))=true:=by
   unfold methodCallForm;have e0:ZY cp (ZZ [] X.env)=[]:=rfl;rw[(UG (Ug (pos:=cp) h3)).1,e0];simp only[Cq,XX,decide_eq_true_eq];refine⟨rfl,?_⟩;simp at h9 ⊢;lia
  obtain⟨fn,sp,hj,k,C,fa,fd,ps,hr,F,hC,cl,hm,hb⟩:=c.mts j cn m h1;refine .plain c ?_ (λ_=>rfl) rfl;cases S with
  |nil=>
   refine(_l3 (E:=E0) (sE o c h2).pe cl hm F hr hb .nil CT (KA (Aa h2) hform h8)).weak λU H Q hw=>?_;obtain⟨L,M,P,T,hw⟩:=hw;refine⟨L,M,P,T,Xa c.mon o (λv M1 ⟨a,fs,e,e2,e3,q⟩=>?_) hw⟩;subst e;intro u Y O W N;obtain rfl:=W.inv;obtain⟨C',dx,vs,g1,g2,g3⟩:=N.ins e2;rw[hC]at g2;cases g2;have hn:vs.lookup m=none:=by
    rcases D0 (f:=m) g3 with⟨_,z2⟩|⟨x',u',z1,_⟩
    .exact z2
    .rw[e3]at z1;cases z1
   cases es with
   |cons _ _=>exact absurd h3 XD
   |nil=>
    obtain⟨f',sp',e4,q2⟩:=q;rw[hj]at e4;cases e4;exact⟨a,dx,vs,rfl,g1,hn,[.ref a],M1,.cons (.ref a) .nil,N,c.mon j fn sp hj (λm M' A=>A.on O) q2⟩
  |cons x xs=>
   cases es with
   |nil=>cases ER h3
   |cons a0 es=>
    have h3':=h3;obtain⟨x',xs',e',h4,h5⟩:=ES h3;cases e';refine(_nq (E:=E0) (sE o c h2).pe cl hm F hr hb .nil CT (sA (.cons a0 es) c h3') (YA h4) (UG (Ug (pos:=cp) h5)).2 (KA (Aa h2) hform h8)).weak λU H Q hw=>?_;obtain⟨L,M,P,T,hw⟩:=hw;refine⟨L,M,P,T,Xa c.mon o (λv M1 ⟨a,fs,e,e2,e3,q⟩=>?_) hw⟩;subst e;intro u Y O W N;obtain rfl:=W.inv;obtain⟨C',dx,vs,g1,g2,g3⟩:=N.ins e2;rw[hC]at g2;cases g2;have hn:vs.lookup m=none:=by
     rcases D0 (f:=m) g3 with⟨_,z2⟩|⟨x',u',z1,_⟩
     .exact z2
     .rw[e3]at z1;cases z1
    refine⟨a,dx,vs,rfl,g1,hn,L,M1,P.mono O,N,mon_es c.mon (.cons a0 es) (λws M2 ⟨f',sp',e4,q2⟩=>?_) q⟩;rw[hj]at e4;cases e4;intro us H2 Z r2 B;refine⟨.ref a::ws,M2,?_,B,c.mon j fn sp hj (λm M' A=>A.on (O.trans Z)) q2⟩;rw[Vu];exact .cons (.ref a) r2
 |.make j cn a es,X,e,c,h=>by
  obtain⟨p,x,xs,p2,rfl,h1,h2,h3,h4⟩:=_lq h;obtain⟨g1,g2,g3⟩:=UF h2;obtain⟨fn,sp,hj,k,C,fa,fd,ps,hr,F,hC,hm,mk,hb⟩:=c.mks j cn h1;have ha:PA X (x::xs) (VP (liE X.K (wE Φ a)) (liA X.K (wEs Φ es))):=WO (sE a c h3).pe (sA es c h4) (YA h3);refine .plain c ?_ (λ_=>rfl) rfl;refine(_nr (E:=E0) mk F hr g1 hm hb .nil CT ha g2 (YA h3) (UG (Ug (pos:=p2) h4)).2).weak λU H Q hw=>?_;obtain⟨L,M,P,T,hw⟩:=hw;refine⟨L,M,P,T,Xa c.mon a (λv M1 J=>?_) hw⟩;intro u Y O W N;refine⟨L,M1,P.mono O,N,mon_es c.mon es (λvs M2 ⟨f',sp',e,q2⟩=>?_) J⟩;rw[hj]at e;cases e;intro us H2 Z r2 B;intro q dx A hdx ne;have kk:Kp H2 (upd (upd H2 dx (.own q)) q (.ins C dx [])):=(Kp.new hdx _).trans (Kp.new (by rw[XN ne.symm];exact A) _)
  refine⟨.ref q::v::vs,updM M2 q (.ins cn []),?_,?_,c.mon j fn sp hj (λm M' ⟨z,hq'⟩=>?_) (q2 q (B.free A))⟩
  .rw[Vu];exact .cons (.ref q) (.cons ((W.mono Z).mono kk) (r2.mono kk))
  .have k3:=Kp.new (H:=H2) hdx (.own q);have rh3:RH X.K M2 (upd H2 dx (.own q)):=B.kept hdx _;exact rh3.put (Kp.new (by rw[XN ne.symm];exact A) _) (o:=.ins cn []) ⟨hC,.nil⟩
  .subst z;intro v' H' k' r' rh';obtain rfl:=r'.inv;exact⟨rfl,hq' _ _ ((O.trans Z).trans (kk.trans k')) (.ref q) rh'⟩
 |.disp ps,X,e,c,h=>absurd h XD
theorem sP:∀(ps:IPs){X:Cx} {pos:Pos} {ks:List (Option Expr)} {vs:List Expr},Cok X G Φ->A9 G ps X.env.scope X.N ks vs=true->PPs X pos ks vs (trOf X.K Φ ps)
 |.nil,X,pos,ks,vs,c,h=>by
  obtain⟨rfl,rfl⟩:=_hT h;exact _ni
 |.cons k v r,X,pos,ks,vs,c,h=>by
  obtain⟨x,ks',y,vs',rfl,rfl,h1,h2,h3⟩:=_gn h;exact _kY (sE k c h1).pe (sE v c h2).pe (sP r c h3)
theorem sA{G:GI}{Φ:List (Str×SpM)}:∀(ies:IEs){X:Cx} {es:List Expr},Cok X G Φ->chkEs G ies X.env.scope X.N es=true->PA X es (liA X.K (wEs Φ ies))
 |.nil,X,es,c,h=>by
  cases es with
  |cons _ _=>cases ER h
  |nil=>
   refine pa_nil.weak λU H Q hw=>?_;obtain⟨L,M,P,T,hw⟩:=hw;exact hw _ _ (Kp.refl _) .nil T
 |.cons a as,X,es,c,h=>by
  cases es with
  |nil=>cases h
  |cons x xs=>
   obtain⟨x',xs',e',h⟩:=ES h;cases e';refine(WO (sE a c h.1).pe (sA as c h.2) (YA h.1)).weak λU H Q hw=>?_;have:wEs Φ (.cons a as)=λU M Q=>wE Φ a U M λv M1=>wEs Φ as U M1 λvs M2=>Q (v::vs) M2:=rfl;rw[this]at hw;exact _nZ (te:=wE Φ a) (t:=wEs Φ as) (Xa c.mon a) (mon_es c.mon as) hw
theorem sO{G:GI}{Φ:List (Str×SpM)}:∀(io:IO){X:Cx} {e:Option Expr},Cok X G Φ->chkO G io X.env.scope X.N e=true->PO X e (liO X.K (wO Φ io))
 |.none,X,e,c,h=>by
  cases e with
  |some _=>cases _hV h
  |none=>
   intro pq s U H Q I hw;refine _nl pq s U H Q I ?_;obtain⟨L,M,P,T,hw⟩:=hw;exact hw _ (Kp.refl _) T
 |.some a,X,e,c,h=>by
  cases e with
  |none=>exact absurd h XD
  |some x=>
   obtain⟨x',e',h⟩:=_hU h;cases e';intro pq s U H Q I hw;refine _nk (sE a c h).pe pq s U H Q I ?_;obtain⟨L,M,P,T,hw⟩:=hw;refine⟨L,M,P,T,Xa c.mon a (λv M1 ⟨i,e,q⟩=>?_) hw⟩;subst e;intro u Y O W N;obtain rfl:=W.inv;exact⟨i,rfl,q Y O N⟩
theorem sI{G:GI}{Φ:List (Str×SpM)}:∀(io:IO){X:Cx} {es:List Expr},Cok X G Φ->chkI G io X.env.scope X.N es=true->PTs X es (ttOf X.K Φ io)
 |.none,X,es,c,h=>by
  cases es with
  |cons _ _=>cases _hX h
  |nil=>exact .inl ⟨rfl,rfl⟩
 |.some a,X,es,c,h=>by
  obtain⟨x,rfl,h1,h2⟩:=_hW h;exact .inr ⟨x,rfl,(sE a c h2).pt h1⟩
theorem sSr{G:GI}{Φ:List (Str×SpM)}:∀(s:ISr){X:Cx} {tg e:Expr},Cok X G Φ->chkSr G s X.env.scope X.N e=true->PI X tg e (liSr X (wSr Φ s))
 |.seq a,X,tg,e,c,h=>by
  refine(_no (sE a c h).pe).weak λU H R hw=>?_;obtain⟨L,M,P,T,hw⟩:=hw;refine⟨L,M,P,T,Xa c.mon a (λv M1 q=>?_) hw⟩;intro u Y O W N;rcases q with⟨xs,e,q⟩|⟨b,xs,e,hb,q⟩|q|⟨z,e,q⟩
  .rcases e with e|e
   .subst e;obtain⟨_,_,rfl,h1,J⟩:=W.inv;exact .inl ⟨_,rfl,.inr (.inl ⟨_,SqT.of h1,q _ _ O N (.inl ⟨_,_,h1,J,rfl⟩)⟩)⟩
   .subst e;obtain⟨_,_,rfl,h1,J⟩:=W.inv;exact .inl ⟨_,rfl,.inl ⟨_,h1.sq,q _ _ O N (.inr ⟨_,_,h1,J,rfl⟩)⟩⟩
  .subst e;obtain rfl:=W.inv;obtain⟨vs,e2,_⟩:=N.lst hb;exact .inl ⟨_,rfl,.inl ⟨_,SqL.of e2,q _ _ O N rfl⟩⟩
  .exact q.elim
  .subst e;obtain rfl:=W.inv;exact .inr ⟨z,rfl,q _ _ O N rfl⟩
 |.rng a,X,tg,e,c,h=>by
  obtain⟨p,x,p2,rfl,h2,h3,h4⟩:=_o9 h;refine(TB (UF h3).1 (c.bls _ h2) (WO (sE a c h4).pe pa_nil (YA h4)) (YA h4)).weak λU H R hw=>?_;obtain⟨L,M,P,T,hw⟩:=hw;refine⟨L,M,P,T,Xa c.mon a (λv M1 ⟨j,e,J,q2,q⟩=>?_) hw⟩;subst e;intro u Y O W N;obtain rfl:=W.inv;exact⟨j,rfl,J,q2,q _ _ O N rfl⟩
end
end L2
namespace L2
set_option genInjectivity false
set_option genCtorIdx false
open PySem PySem.Spec PyProof.Rows
mutual
inductive IS where
 |pass|brk|cnt|never
 |ret (e:IE)|retN
 |set (i:Nat)(e:IE)
 |asg (t:ITgs)(e:IE)
 |put (o i e:IE)
 |fset (c:Str)(o:IE)(f:Str)(e:IE)
 |expr (e:IE)
 |ite (c:IE)(a b:ISs)
 |for_ (t:ITg)(s:ISr)(b:ISs)
 |while_ (c:IE)(b:ISs)
inductive ISs where|nil|cons (s:IS)(r:ISs)
end
structure EndM where
 nx:Sm->MH->Prop
 rt:QM
mutual
def wS(Φ:List (Str×SpM)):IS->EndM->Sm->MH->Prop
 |.pass,D,j,M=>D.nx j M
 |.brk,_,_,_=>False
 |.cnt,_,_,_=>False
 |.never,_,_,_=>False
 |.ret e,D,j,M=>wE Φ e j M D.rt
 |.retN,D,_,M=>D.rt .non M
 |.set i e,D,j,M=>wE Φ e j M λv M1=>D.nx (j.set i (some v)) M1
 |.asg t e,D,j,M=>wE Φ e j M λv M1=>∃xs,v=.tup xs/\wTgs t xs j λl=>D.nx l M1
 |.put o i e,D,j,M=>wE Φ e j M λv M1=>wE Φ o j M1 λx M2=>wE Φ i j M2 λy z=>wPut x y v z λg=>D.nx j g
 |.fset c o f e,D,j,M=>wE Φ e j M λv M1=>wE Φ o j M1 λx M2=>∃a fs,x=.ref a/\M2 a=some (.ins c fs)/\fs.length<1000/\D.nx j (updM M2 a (.ins c (putM fs f v)))
 |.expr e,D,j,M=>wE Φ e j M λ_ M1=>D.nx j M1
 |.ite c a b,D,j,M=>wE Φ c j M λx M1=>onB x λk=>(if k=true then wSs Φ a D j M1 else wSs Φ b D j M1)
 |.for_ t s b,D,j,M=>wSr Φ s j M λS M1=>∃J:Nat->Sm->MH->Prop,J 0 j M1/\(∀i j M,J i j M->S.ok M)/\
   (∀i x j M,S.items[i]?=some x->J i j M->wTg t x j λu=>wSs Φ b {nx:=J (i+1),rt:=λv M=>S.okT M/\D.rt v (S.thaw M)} u M)/\∀j M,J S.len j M->D.nx j (S.thaw M)
 |.while_ c b,D,j,M=>∃J:Nat->Sm->MH->Prop,(∃m,J m j M)/\∀m j M,J m j M->wE Φ c j M λx M1=>∃k,x=.bl k/\
   (if k=true then wSs Φ b {nx:=λl M'=>∃w,w<m/\J w l M',rt:=D.rt} j M1 else D.nx j M1)
def wSs(Φ:List (Str×SpM)):ISs->EndM->Sm->MH->Prop
 |.nil,D,j,M=>D.nx j M
 |.cons s r,D,j,M=>wS Φ s {nx:=λj M=>wSs Φ r D j M,rt:=D.rt} j M
end
theorem KC{Φ:List (Str×SpM)}{c:IE}{a b:ISs}{D:EndM}{j:Sm}{M:MH}:wS Φ (.ite c a b) D j M=wE Φ c j M λx M1=>∃k,x=.bl k/\(if k=true then wSs Φ a D j M1 else wSs Φ b D j M1):=by rw[wS];simp only[VX]
structure EndM.Le (D D':EndM):Prop where
 nx:∀σ M,D.nx σ M->D'.nx σ M
 rt:∀v M,D.rt v M->D'.rt v M
mutual
theorem KD{Φ:List (Str×SpM)}(u:∀(j:Nat)f sp,Φ[j]?=some (f,sp)->MonW sp):∀(s:IS){D g:EndM} {w:Sm} {M:MH},D.Le g->wS Φ s D w M->wS Φ s g w M
 |.pass,D,g,w,M,l,h=>by exact l.nx _ _ h
 |.brk,D,g,w,M,l,h=>h.elim
 |.cnt,D,g,w,M,l,h=>h.elim
 |.never,D,g,w,M,l,h=>h.elim
 |.ret e,D,g,w,M,l,h=>by exact Xa u e l.rt h
 |.retN,D,g,w,M,l,h=>by exact l.rt _ _ h
 |.set i e,D,g,w,M,l,h=>by exact Xa u e (λv M1 h1=>l.nx _ _ h1) h
 |.asg t e,D,g,w,M,l,h=>by exact Xa u e (λv M1 ⟨xs,e,h1⟩=>⟨xs,e,mon_tgs t (λL h2=>l.nx _ _ h2) h1⟩) h
 |.put o i e,D,g,w,M,l,h=>by
  exact Xa u e (λv M1 h1=>Xa u o (λx M2 h2=>Xa u i (λy Y h3=>Ke (λZ h4=>l.nx _ _ h4) h3) h2) h1) h
 |.fset c o f e,D,g,w,M,l,h=>by
  exact Xa u e (λv M1 h1=>Xa u o (λx M2 ⟨a,fs,N,O,P,h2⟩=>⟨a,fs,N,O,P,l.nx _ _ h2⟩) h1) h
 |.expr e,D,g,w,M,l,h=>by exact Xa u e (λv M1 h1=>l.nx _ _ h1) h
 |.ite c a b,D,g,w,M,l,h=>by
  rw[KC]at h ⊢;exact Xa u c (λx M1 ⟨k,e,h1⟩=>⟨k,e,YL (mon_ss u a l) (mon_ss u b l) h1⟩) h
 |.for_ t s b,D,g,w,M,l,h=>by
  refine mon_sr u s (λS M1 ⟨J,q,p,R,T⟩=>⟨J,q,p,λi x w M U d=>?_,λw M d=>l.nx _ _ (T w M d)⟩) h;exact V7 t (λW h2=>by refine mon_ss u b ?_ h2;exact⟨λ_ _ z=>z,λ_ _ z=>⟨z.1,l.rt _ _ z.2⟩⟩) (R i x w M U d)
 |.while_ c b,D,g,w,M,l,h=>by
  obtain⟨J,q,p⟩:=h;refine⟨J,q,λm w M d=>Xa u c (λx M1 ⟨k,e,h1⟩=>⟨k,e,YL (λz=>by refine mon_ss u b ?_ z;exact⟨λ_ _ z=>z,l.rt⟩) (l.nx _ _) h1⟩) (p m w M d)⟩
theorem mon_ss{Φ:List (Str×SpM)}(u:∀(j:Nat)f sp,Φ[j]?=some (f,sp)->MonW sp):∀(s:ISs){D g:EndM} {w:Sm} {M:MH},D.Le g->wSs Φ s D w M->wSs Φ s g w M
 |.nil,D,g,w,M,l,h=>by exact l.nx _ _ h
 |.cons s r,D,g,w,M,l,h=>by
  refine KD u s ?_ h;exact⟨λw M h1=>mon_ss u r l h1,l.rt⟩
end
noncomputable def KE:Expr->Bool
 |.Tuple ..=>false|_=>true
noncomputable def Ac:Expr->Bool
 |.ListComp ..=>false|.SetComp ..=>false|.DictComp ..=>false|_=>true
noncomputable def KF:Stmt->Option (Option Expr)|.Return v _=>some v|_=>none
noncomputable def Ad:Stmt->Option (List Expr×Expr)|.Assign ts v _=>some (ts,v)|_=>none
noncomputable def asEx:Stmt->Option Expr|.Expr v _=>some v|_=>none
noncomputable def KG:Stmt->Option (Expr×List Stmt×List Stmt)|.If t x y _=>some (t,x,y)|_=>none
noncomputable def KH:Stmt->Option (Expr×Expr×List Stmt×List Stmt)|.For t i b r _=>some (t,i,b,r)|_=>none
noncomputable def asWh:Stmt->Option (Expr×List Stmt×List Stmt)|.While t b r _=>some (t,b,r)|_=>none
section
variable{e:Stmt}
theorem _lI{x:Option Expr}(h:KF e=some x):∃p,e=.Return x p:=by revert h;cases e<;>first|exact nos|(intro h;cases h;exact⟨_,rfl⟩)
theorem Db{x:List Expr×Expr}(h:Ad e=some x):∃p,e=.Assign x.1 x.2 p:=by revert h;cases e<;>first|exact nos|(intro h;cases h;exact⟨_,rfl⟩)
theorem _oQ{x:Expr}(h:asEx e=some x):∃p,e=.Expr x p:=by revert h;cases e<;>first|exact nos|(intro h;cases h;exact⟨_,rfl⟩)
theorem _lK{x:Expr×List Stmt×List Stmt}(h:KG e=some x):∃p,e=.If x.1 x.2.1 x.2.2 p:=by revert h;cases e<;>first|exact nos|(intro h;cases h;exact⟨_,rfl⟩)
theorem _lL{x:Expr×Expr×List Stmt×List Stmt}(h:KH e=some x):∃p,e=.For x.1 x.2.1 x.2.2.1 x.2.2.2 p:=by revert h;cases e<;>first|exact nos|(intro h;cases h;exact⟨_,rfl⟩)
theorem _oO{x:Expr×List Stmt×List Stmt}(h:asWh e=some x):∃p,e=.While x.1 x.2.1 x.2.2 p:=by revert h;cases e<;>first|exact nos|(intro h;cases h;exact⟨_,rfl⟩)
end
mutual
def chkS(G:GI)(j:Scope)(N:List Str):IS->Stmt->Bool
 |.pass,_=>false
 |.brk,_=>false
 |.cnt,_=>false
 |.never,_=>true
 |.ret e,s=>(KF s).any λo=>o.any λx=>chkE G e j N x
 |.retN,_=>false
 |.set i e,s=>(Ad s).any λq=>(the1 q.1).any λt=>(YU t).any λx=>decide (N[i]?=some x)&&locB j x&&chkE G e j N q.2
 |.asg t e,s=>(Ad s).any λq=>(the1 q.1).any λg=>(VZ g).any λes=>chkTgs j N N.length true t es&&chkE G e j N q.2&&KE q.2
 |.put o i e,s=>(Ad s).any λq=>(the1 q.1).any λt=>(W0 t).any λa=>chkE G o j N a.1&&chkE G i j N a.2&&A3 a.2&&chkE G e j N q.2
 |.fset c o f e,s=>(Ad s).any λq=>(the1 q.1).any λt=>(V9 t).any λa=>decide (a.2.1=f)&&G.cls.contains (c,f)&&chkE G o j N a.1&&chkE G e j N q.2
 |.expr e,s=>(asEx s).any λv=>chkE G e j N v&&Ac v
 |.ite c a b,s=>(KG s).any λq=>tok c&&chkE G c j N q.1&&chkSs G j N a q.2.1&&chkSs G j N b q.2.2
 |.for_ t r b,s=>(KH s).any λq=>Z9 j N N.length true t q.1&&chkSr G r j N q.2.1&&A4 q.2.1&&chkSs G j N b q.2.2.1&&non0 q.2.2.2
 |.while_ c b,s=>(asWh s).any λq=>tok c&&chkE G c j N q.1&&chkSs G j N b q.2.1&&non0 q.2.2
def chkSs(G:GI)(j:Scope)(N:List Str):ISs->List Stmt->Bool
 |.nil,l=>non0 l
 |.cons s r,l=>(hd1 l).any λq=>chkS G j N s q.1&&chkSs G j N r q.2
end
def liD(K:X4)(H:Hp)(D:Ends):EndM where
 nx:=λl M=>∀u j,Kp H j->RS K j l u->RH K M j->D.nx u j
 rt:=Dn K H D.rt
theorem liD.on{K:X4}{H j:Hp}{D:Ends}(k:Kp H j):(liD K H D).Le (liD K j D):=
 ⟨λ_ _ h l u w=>h l u (k.trans w),λ_ _ h=>h.on k⟩
def liSt(K:X4)(t:EndM->Sm->MH->Prop):TS:=λD l H=>∃j M,RS K H j l/\RH K M H/\t (liD K H D) j M
theorem _it{e:Expr}{x:Str}{p:Pos}{ln:Nat}{env:Env}(h:Ac e=true):Zy e (some (.Name x p)) ln env=pure false:=by cases e<;>first|rfl|cases h
theorem _is{e:Expr}{ln:Nat}{env:Env}(h:Ac e=true):Zy e none ln env=pure false:=by cases e<;>first|rfl|cases h
theorem _kF{e:Expr}{es:List Expr}{k:Nat}{p:Pos}{ln:Nat}{env:Env}:Zy e (some (.Tuple es k p)) ln env=pure false:=by cases e<;>rfl
theorem _kH{e a:Expr}{f:Str}{p:Pos}{ln:Nat}{env:Env}:Zy e (some (.Attribute a f p)) ln env=pure false:=by cases e<;>rfl
theorem _kG{e a b:Expr}{p:Pos}{ln:Nat}{env:Env}:Zy e (some (.Subscript a b p)) ln env=pure false:=by cases e<;>rfl
theorem _iu{elt:Expr}{gs:List Comprehension}{scope:Scope}{pos p:Pos}{x:Str}{ln:Nat}{env:Env}:∃b:Bool,Zy (.ListComp elt gs scope pos) (some (.Name x p)) ln env=pure b:=⟨_,rfl⟩
theorem _oB{G:GI}{l:IE}{w:Scope}{N:List Str}{e:Expr}(h:chkE G l w N e=true):Ac e=true\/∃own fr u tg j elt,l=.comp own fr u tg j elt:=by
 revert h;cases e<;>first
  |exact λ_=>.inl rfl
  |(cases l<;>first
    |exact nob
    |exact λ_=>.inr ⟨_,_,_,_,_,_,rfl⟩)
section
variable{G:GI}{sc:Scope}{N:List Str}{st:Stmt}
theorem _lt{e:IE}(h:chkS G sc N (.ret e) st=true):∃x p,st=.Return (some x) p/\chkE G e sc N x=true:=by
 replace h:=Xg h;obtain⟨o,j,h⟩:=h;obtain⟨p,rfl⟩:=_lI j;replace h:=Xg h;obtain⟨x,rfl,h⟩:=h;exact⟨x,p,rfl,h⟩
theorem _ls{i:Nat}{e:IE}(h:chkS G sc N (.set i e) st=true):∃x j v p,st=.Assign [.Name x j] v p/\N[i]?=some x/\locB sc x=true/\chkE G e sc N v=true:=by
 replace h:=Xg h;obtain⟨⟨g,v⟩,l,h⟩:=h;obtain⟨p,rfl⟩:=Db l;replace h:=Xg h;obtain⟨t,u,h⟩:=h;obtain rfl:=_p u;replace h:=Xg h;obtain⟨x,w,h⟩:=h;obtain⟨j,rfl⟩:=_8 w;replace h:=Xf h;obtain⟨h,y⟩:=h;replace h:=Xf h;obtain⟨z,m⟩:=h;exact⟨x,j,v,p,rfl,XO z,m,y⟩
theorem _lx{t:ITgs}{e:IE}(h:chkS G sc N (.asg t e) st=true):∃es k pt v p,st=.Assign [.Tuple es k pt] v p/\chkTgs sc N N.length true t es=true/\chkE G e sc N v=true/\KE v=true:=by
 replace h:=Xg h;obtain⟨⟨m,v⟩,j,h⟩:=h;obtain⟨p,rfl⟩:=Db j;replace h:=Xg h;obtain⟨g,l,h⟩:=h;obtain rfl:=_p l;replace h:=Xg h;obtain⟨es,u,h⟩:=h;obtain⟨k,pt,rfl⟩:=D6 u;replace h:=Xf h;obtain⟨h,w⟩:=h;replace h:=Xf h;obtain⟨y,z⟩:=h;exact⟨es,k,pt,v,p,rfl,y,z,w⟩
theorem _lu{o i e:IE}(h:chkS G sc N (.put o i e) st=true):∃a b pt v p,st=.Assign [.Subscript a b pt] v p/\chkE G o sc N a=true/\chkE G i sc N b=true/\A3 b=true/\chkE G e sc N v=true:=by
 replace h:=Xg h;obtain⟨⟨d,v⟩,j,h⟩:=h;obtain⟨p,rfl⟩:=Db j;replace h:=Xg h;obtain⟨g,l,h⟩:=h;obtain rfl:=_p l;replace h:=Xg h;obtain⟨⟨a,b⟩,u,h⟩:=h;obtain⟨pt,rfl⟩:=D7 u;replace h:=Xf h;obtain⟨h,w⟩:=h;replace h:=Xf h;obtain⟨h,y⟩:=h;replace h:=Xf h;obtain⟨z,m⟩:=h;exact⟨a,b,pt,v,p,rfl,z,m,y,w⟩
theorem _jq{c f:Str}{o e:IE}(h:chkS G sc N (.fset c o f e) st=true):∃a pt v p,st=.Assign [.Attribute a f pt] v p/\G.cls.contains (c,f)=true/\chkE G o sc N a=true/\chkE G e sc N v=true:=by
 replace h:=Xg h;obtain⟨⟨d,v⟩,j,h⟩:=h;obtain⟨p,rfl⟩:=Db j;replace h:=Xg h;obtain⟨g,l,h⟩:=h;obtain rfl:=_p l;replace h:=Xg h;obtain⟨⟨a,q,pt⟩,u,h⟩:=h;obtain rfl:=A8 u;simp only[XX]at h;obtain⟨⟨⟨w,y⟩,z⟩,m⟩:=h;obtain rfl:=XO w;exact⟨a,pt,v,p,rfl,y,z,m⟩
theorem _jr{e:IE}(h:chkS G sc N (.expr e) st=true):∃v p,st=.Expr v p/\chkE G e sc N v=true/\Ac v=true:=by
 replace h:=Xg h;obtain⟨v,j,h⟩:=h;obtain⟨p,rfl⟩:=_oQ j;exact⟨v,p,rfl,Xf h⟩
theorem _lv{c:IE}{a b:ISs}(h:chkS G sc N (.ite c a b) st=true):∃t x y p,st=.If t x y p/\tok c=true/\chkE G c sc N t=true/\chkSs G sc N a x=true/\chkSs G sc N b y=true:=by
 replace h:=Xg h;obtain⟨⟨t,x,y⟩,j,h⟩:=h;obtain⟨p,rfl⟩:=_lK j;replace h:=Xf h;obtain⟨h,l⟩:=h;replace h:=Xf h;obtain⟨h,u⟩:=h;replace h:=Xf h;obtain⟨w,z⟩:=h;exact⟨t,x,y,p,rfl,w,z,u,l⟩
theorem _lw{t:ITg}{s:ISr}{b:ISs}(h:chkS G sc N (.for_ t s b) st=true):∃tg it j p,st=.For tg it j [] p/\Z9 sc N N.length true t tg=true/\chkSr G s sc N it=true/\A4 it=true/\chkSs G sc N b j=true:=by
 replace h:=Xg h;obtain⟨⟨tg,it,j,l⟩,u,h⟩:=h;obtain⟨p,rfl⟩:=_lL u;replace h:=Xf h;obtain⟨h,w⟩:=h;replace h:=Xf h;obtain⟨h,y⟩:=h;replace h:=Xf h;obtain⟨h,z⟩:=h;replace h:=Xf h;obtain⟨m,g⟩:=h;obtain rfl:=Yy w;exact⟨tg,it,j,p,rfl,m,g,z,y⟩
theorem _hZ{c:IE}{b:ISs}(h:chkS G sc N (.while_ c b) st=true):∃t j p,st=.While t j [] p/\tok c=true/\chkE G c sc N t=true/\chkSs G sc N b j=true:=by
 replace h:=Xg h;obtain⟨⟨l,j,u⟩,w,h⟩:=h;obtain⟨p,rfl⟩:=_oO w;replace h:=Xf h;obtain⟨h,y⟩:=h;replace h:=Xf h;obtain⟨h,z⟩:=h;replace h:=Xf h;obtain⟨m,g⟩:=h;obtain rfl:=Yy y;exact⟨l,j,p,rfl,m,g,z⟩
theorem _jp{j:List Stmt}(h:chkSs G sc N .nil j=true):j=[]:=by
 exact Yy h
theorem _hY{s:IS}{r:ISs}{j:List Stmt}(h:chkSs G sc N (.cons s r) j=true):∃x xs,j=x::xs/\chkS G sc N s x=true/\chkSs G sc N r xs=true:=by
 replace h:=Xg h;obtain⟨⟨x,xs⟩,l,h⟩:=h;exact⟨x,xs,Uf l,Xf h⟩
end
mutual
theorem sS{G:GI}{Φ:List (Str×SpM)}:∀(is:IS){X:Cx} {st:Stmt},Cok X G Φ->(∀x,X.fn x=true)->chkS G X.env.scope X.N is st=true->PS X st (liSt X.K (wS Φ is))
 |.pass,X,st,c,hf,h=>absurd h XD
 |.brk,X,st,c,hf,h=>absurd h XD
 |.cnt,X,st,c,hf,h=>absurd h XD
 |.never,X,st,c,hf,h=>by
  refine ps_never.weak λD Y H hw=>?_;obtain⟨j,M,L,T,hw⟩:=hw;exact hw
 |.ret e,X,st,c,hf,h=>by
  obtain⟨v,p,rfl,h⟩:=_lt h;refine(Tk (sE e c h).pe).weak λD Y H hw=>?_;obtain⟨j,M,L,T,hw⟩:=hw;exact⟨j,M,L,T,hw⟩
 |.retN,X,st,c,hf,h=>absurd h XD
 |.set i e,X,st,c,hf,h=>by
   obtain⟨x,px,v,p,rfl,h1,h2,h3⟩:=_ls h;have rd:∀D Y H,liSt X.K (wS Φ (.set i e)) D Y H->liE X.K (wE Φ e) Y H λv H1=>D.nx (Y.set i (some v)) H1:=λD Y H hw=>by
    obtain⟨j,M,L,T,hw⟩:=hw;refine⟨j,M,L,T,Xa c.mon e (λv M1 q=>?_) hw⟩;intro u H1 O r1 N;exact q _ _ O ((L.mono O).set r1 i) N
   rcases _oB h3 with hn|⟨own,fr,src,tg,test,elt,rfl⟩
   .exact(IH c.nd h1 (D9 h2) (sE e c h3).pe (_it hn) (.inl (hf _))).weak rd
   .obtain⟨y,t,it,ifs,scope,p3,rfl,i1,i2,i3,i4,i5,i6,i7⟩:=Kt h3;obtain⟨b,hb⟩:=_iu (elt:=y) (gs:=[⟨t,it,ifs,0⟩]) (scope:=scope) (pos:=p3) (p:=px) (x:=x) (ln:=p.line) (env:=X.env);cases b with
    |false=>exact(IH c.nd h1 (D9 h2) (sE _ c h3).pe hb (.inl (hf _))).weak rd
    |true=>
     refine(_fV own fr (g:=gOf X.K tg) (te:=liE X.K (wE Φ elt)) (tt:=ttOf X.K Φ test) c.nd h1 (D9 h2) (λe s h=>by rw[c.nox]at h;exact h) c.calm i1 (sSr src (tg:=t) c i4)
      (λC fp Z A=>sTg (X:=cxC X scope own fr C fp Z A) (lim:=own.length) (all:=false) c.calm i3 (λz=>by cases z) tg i5) (λC fp Z A=>sI (X:=cxC X scope own fr C fp Z A) test (c.comp (VR i1).kind i3) i6)
      (λC fp Z A=>(sE (X:=cxC X scope own fr C fp Z A) elt (c.comp (VR i1).kind i3) i7).pe) hb (EY i2 _) (.inl (hf _))).thaw.weak λD Y H hw=>?_
     exact Ky c.mon i5 (rd D Y H hw)
 |.asg t e,X,st,c,hf,h=>by
   obtain⟨es,k,pt,v,p,rfl,h1,h2,h3⟩:=_lx h;have hT:Z9 X.env.scope X.N X.N.length true (.tup t) (.Tuple es k pt)=true:=h1;refine(IG (sE e c h2).pe (sTg (lim:=X.N.length) (all:=true) c.calm c.nd (λ_=>hf) (.tup t) hT) (_kF (e:=v) (es:=es) (k:=k) (p:=pt) (ln:=p.line) (env:=X.env)) (by cases v<;>first|rfl|cases h3) rfl).weak λD Y H hw=>?_
   obtain⟨j,M,L,T,hw⟩:=hw;refine⟨j,M,L,T,Xa c.mon e (λv M1 ⟨xs,e,q⟩=>?_) hw⟩;intro u H1 O r1 N;refine Da (Ψ:=λ_=>True) (lim:=X.N.length) (λ_ _ _ _ z=>z) (.tup t) hT r1 (L.mono O) trivial (P:=λw=>(liD X.K H D).nx w M1) ⟨xs,e,q⟩ λl w q' E _=>?_;exact q' _ _ O E N
 |.put o i e,X,st,c,hf,h=>by
   obtain⟨a,b,pt,v,p,rfl,h1,h2,h3,h4⟩:=_lu h;have hg:PG X (.Subscript a b pt) (gSub (liE X.K (wE Φ o)) (liE X.K (wE Φ i)) (Kf X.K)):=Tr (sE o c h1).pe (sE i c h2).pe (_mX (by have:=c.room;lia)) (by intro v;cases b<;>first|rfl|cases h3)
   refine(IG (sE e c h4).pe hg (_kG (e:=v) (a:=a) (b:=b) (p:=pt) (ln:=p.line) (env:=X.env)) rfl rfl).weak λD Y H hw=>?_;obtain⟨j,M,L,T,hw⟩:=hw;refine⟨j,M,L,T,Xa c.mon e (λv M1 q1=>?_) hw⟩;intro u H1 O r1 N;refine⟨j,M1,L.mono O,N,Xa c.mon o (λx M2 q2=>?_) q1⟩;intro u2 H2 F r2 U;refine⟨j,M2,L.mono (O.trans F),U,Xa c.mon i (λy M3 q3=>?_) q2⟩;intro u3 H3 B r3 rh3;refine⟨x,y,v,M3,r2.mono B,r3,r1.mono (F.trans B),rh3,Ke (λM4 q4=>?_) q3⟩;intro H4 k4 rh4;have kk:=O.trans (F.trans (B.trans k4));exact q4 _ _ kk (L.mono kk) rh4
 |.fset cn o f e,X,st,c,hf,h=>by
  obtain⟨a,pt,v,p,rfl,h1,h2,h3⟩:=_jq h;obtain⟨C,hC,cl,na⟩:=c.cls cn f h1;refine(_pT (sE o c h2).pe (sE e c h3).pe _kH).weak λD Y H hw=>?_;obtain⟨j,M,L,T,hw⟩:=hw;refine⟨j,M,L,T,Xa c.mon e (λv M1 q1=>?_) hw⟩;intro u H1 O r1 N;refine⟨j,M1,L.mono O,N,Xa c.mon o (λx M2 ⟨b,fs,e1,e2,e3,q2⟩=>?_) q1⟩;subst e1;intro u2 H2 F r2 U;obtain rfl:=r2.inv;obtain⟨C',dx,vs,g1,g2,g3⟩:=U.ins e2;rw[hC]at g2;cases g2;have B:=Kp.upd g1 rfl (.ins C dx (putF f u vs));have kk:=O.trans (F.trans B);refine⟨b,C,dx,vs,rfl,g1,cl,na,by rw[<-g3.length];exact e3,?_⟩
  exact q2 _ _ kk (L.mono kk) (U.put B (o:=.ins cn (putM fs f v)) ⟨hC,(JO (r1.mono F) g3).mono B⟩)
 |.expr e,X,st,c,hf,h=>by
  obtain⟨v,p,rfl,h1,h2⟩:=_jr h;refine(Tj (sE e c h1).pe (_is h2)).weak λD Y H hw=>?_;obtain⟨j,M,L,T,hw⟩:=hw;refine⟨j,M,L,T,Xa c.mon e (λv M1 q=>?_) hw⟩;intro u H1 O r1 N;exact q _ _ O (L.mono O) N
 |.ite d a b,X,st,c,hf,h=>by
  obtain⟨t,x,y,p,rfl,h1,h2,h3,h4⟩:=_lv h;refine(Tl ((sE d c h2).pt h1) (sSs a c hf h3) (sSs b c hf h4)).weak λD Y H hw=>?_;obtain⟨j,M,L,T,hw⟩:=hw;rw[KC]at hw;refine⟨j,M,L,T,Xa c.mon d (λx M1 ⟨k,e,q⟩=>⟨k,e,λH1 O N=>?_⟩) hw⟩;exact YL (λq=>⟨j,M1,L.mono O,N,mon_ss c.mon a (liD.on O) q⟩) (λq=>⟨j,M1,L.mono O,N,mon_ss c.mon b (liD.on O) q⟩) q
 |.for_ t s b,X,st,c,hf,h=>by
   obtain⟨tg,it,body,p,rfl,h1,h2,h3,h4⟩:=_lw h;refine(TD (by rw[c.nox];exact PassesOwn.never) c.calm (sSr s (tg:=tg) c h2) (sTg (lim:=X.N.length) (all:=true) c.calm c.nd (λ_=>hf) t h1) (sSs b c hf h4) (EY h3 _)).thaw.weak λD Y H hw=>?_
   obtain⟨j,M,L,T,hw⟩:=hw;refine⟨j,M,L,T,mon_sr c.mon s (λS M1 ⟨J,j0,j1,j2,j3⟩=>?_) hw⟩;intro I H1 O N sit;refine⟨λi m w W=>m=S.len - i/\i<=S.len/\Kp H1 W/\∃l M',RS X.K W l w/\RH X.K M' W/\J i l M',⟨_,rfl,YS _,Kp.refl _,j,M1,L.mono O,N,j0⟩,?_⟩;rintro i m σ2 H2 ⟨rfl,hi,F,R,M2,n,U,hj⟩;obtain⟨goes,stops⟩:=Kx sit F U (j1 i R M2 hj);by_cases hlt:i<S.len
   .obtain⟨go,yld⟩:=goes i hlt;refine .inr ⟨go,λw W=>Kp H1 W/\∃l M',RS X.K W l w/\RH X.K M' W/\J (i+1) l M',λw W ⟨a,z⟩=>⟨S.len - (i+1),by lia,rfl,hlt,a,z⟩,λx W y=>?_⟩
    obtain⟨e,m,hm,rm⟩:=yld x W y;subst e;refine Da (Ψ:=λ_=>True) (lim:=X.N.length) (λ_ _ _ _ z=>z) t h1 rm n trivial (j2 i m R M2 hm hj) λσm3 σ3 q rs3 _=>?_;refine⟨σm3,M2,rs3,U,?_⟩;refine mon_ss c.mon b ?_ q;refine⟨λw M' z σv H3 B E Q=>⟨F.trans B,w,M',E,Q,z⟩,λv M' z u H3 B r3 Q=>?_⟩
    .obtain⟨H4,th,k4,rh4⟩:=EX sit Q z.1;exact⟨H4,th,z.2 u H4 (O.trans (F.trans (B.trans k4))) (r3.mono k4) rh4⟩
   .have e:i=S.len:=by lia
    subst e;obtain⟨H4,th,k4,rh4⟩:=EX sit U (Kw (j1 _ R M2 hj));exact .inl ⟨stops _ (Xe _),H4,th,j3 R M2 hj _ _ (O.trans (F.trans k4)) (n.mono k4) rh4⟩
 |.while_ d b,X,st,c,hf,h=>by
   obtain⟨tst,body,p,rfl,h1,h2,h3⟩:=_hZ h;refine(Tt (by rw[c.nox];exact PassesOwn.never) ((sE d c h2).pt h1) (sSs b c hf h3)).weak λD Y H hw=>?_
   obtain⟨j,M,L,T,hw⟩:=hw;obtain⟨J,⟨m0,j0⟩,j1⟩:=hw;refine⟨λm w W=>Kp H W/\∃l M',RS X.K W l w/\RH X.K M' W/\J m l M',⟨m0,Kp.refl _,j,M,L,T,j0⟩,?_⟩;rintro m σ2 H2 ⟨F,R,M2,n,U,hj⟩;refine⟨R,M2,n,U,Xa c.mon d (λx M1 ⟨k,e,q⟩=>⟨k,e,λH3 B rh3=>?_⟩) (j1 m R M2 hj)⟩;refine YL (λq=>?_) (λq=>q _ _ (F.trans B) (n.mono B) rh3) q;refine⟨λw W=>∃m',m'<m/\Kp H W/\∃l M',RS X.K W l w/\RH X.K M' W/\J m' l M',λw W z=>z,R,M1,n.mono B,rh3,?_⟩;refine mon_ss c.mon b ?_ q;refine⟨?_,λv M' z=>z.on (F.trans B)⟩
   .rintro w M' ⟨m',hm,z⟩ σv H4 k4 E Q;exact⟨m',hm,F.trans (B.trans k4),w,M',E,Q,z⟩
theorem sSs{G:GI}{Φ:List (Str×SpM)}:∀(is:ISs){X:Cx} {sts:List Stmt},Cok X G Φ->(∀x,X.fn x=true)->chkSs G X.env.scope X.N is sts=true->PSs X sts (liSt X.K (wSs Φ is))
 |.nil,X,sts,c,hf,h=>by
   cases _jp h;refine pss_nil.weak λD Y H hw=>?_;obtain⟨j,M,L,T,hw⟩:=hw;exact hw Y H (Kp.refl _) L T
 |.cons s r,X,sts,c,hf,h=>by
   obtain⟨x,xs,rfl,h1,h2⟩:=_hY h;refine(Th (sS s c hf h1) (sSs r c hf h2)).weak λD Y H hw=>?_;obtain⟨j,M,L,T,hw⟩:=hw;refine⟨j,M,L,T,?_⟩;refine KD c.mon s ?_ hw;refine⟨λw M' z σv H1 O E Q=>?_,λv M' z=>z⟩;exact⟨w,M',E,Q,mon_ss c.mon r (liD.on O) z⟩
end
end L2
namespace L2
open PySem PySem.Spec PyProof.Rows
structure Fts (P:Xw)(w:Xm)(K:X4)(mg:Str->Option X0)(base:Heap)(k:Nat)(G:GI)(Φ:List (Str×SpM)):Prop where
 bls:∀x,G.bl.contains x=true->mg x=none
 gls:∀x i,G.gl.lookup x=some i->∃tk,mg x=some (.int i tk)
 fnn:∀(j:Nat)f,G.fns[j]?=some f->∃sp,Φ[j]?=some (f,sp)
 mon:∀(j:Nat)f sp,Φ[j]?=some (f,sp)->MonW sp
 fns:∀(j:Nat)f sp,G.fns[j]?=some f->Φ[j]?=some (f,sp)->∃fa fd ps,FnOk P w K mg base CX0 k fa fd ps (liSp K sp)/\mg f=some (.ref fa)/\YI K (.ref fa)=true/\Binds K fd ps []
 mts:∀(j:Nat)c m,G.mts.contains (j,c,m)=true->∃f sp,Φ[j]?=some (f,sp)/\∃C fa fd ps,FnOk P w K mg base CX0 k fa fd ps (liSp K sp)/\Xy K Xp c=some (some (.ref C))/\Cls K C/\Meth K C m fa/\Binds K fd ps []
 mks:∀(j:Nat)c,G.mks.contains (j,c)=true->∃f sp,Φ[j]?=some (f,sp)/\∃k' C fa fd ps,k'+1<=k/\FnOk P w K mg base CX0 k' fa fd ps (liSp K sp)/\Xy K Xp c=some (some (.ref C))/\mg c=some (.ref C)/\Mk K C fa/\Binds K fd ps []
 cls:∀c f,G.cls.contains (c,f)=true->∃C,Xy K Xp c=some (some (.ref C))/\Cls K C/\NoAttr K C f
noncomputable def Ae(n:Nat)(vs:List MV):Sm:=vs.map some++Xj (n - vs.length) none
theorem _kI{K:X4}(r:RMs K H ms vs):RS K H (Ae N.length ms) (ZJ N vs):=by
 unfold Ae ZJ;have j:=r.length;refine⟨by simp[j],λi m e=>?_⟩
 by_cases hi:i<ms.length
 .rw[ZB (by simpa using hi),Xq]at e
  cases q:ms[i]? with
  |none=>rw[q]at e;cases e
  |some x=>
   rw[q]at e;have l:x=m:=Y9 (Y9 e);subst l;obtain⟨u,w,y⟩:=r.get q;exact⟨u,by rw[ZB (by simpa [<-j]using hi),Xq,w];rfl,y⟩
 .rw[Zf (by simpa using hi),HF]at e
  split at e<;>cases e
theorem Fun.okM{K:X4}{st:Stmt}{k:Nat}
  (F:Fun K x qual st f fd)(S:FnScope N ps (X5 st))(T:Fts P w K mg base k G Φ)(y:ISs)(R:chkSs G (X5 st) N y (Xh st)=true)
  (len:∀vs M Q,sp vs M Q->vs.length=ps.length)(h:∀vs M Q,sp vs M Q->wSs Φ y {nx:=λ_ M'=>Q .non M',rt:=Q} (Ae N.length vs) M):FnOk P w K mg base CX0 (k+1) f fd ps (liSp K sp):=by
 refine F.ok S (λvs H Q E d=>?_) λp A l s H vs Q E g d=>?_
 .obtain⟨e,M,r,O,q⟩:=d;rw[<-r.length];exact len _ _ _ q
 obtain⟨e,M,r,O,q⟩:=d;have c:Cok (cxOf CX0 P w K mg base N qual (X5 st) f p A l s H E).nox G Φ:=
  ⟨(by have:=g.un;show(A.deeper _).units+70<cLine;lia),rfl,rfl,(by show(if(X5 st).kind.isAnnotationScope then Iu else(X5 st).kind)=.function;rw[S.kind];rfl),S.nd,T.bls,T.gls,T.fnn,T.mon,
   (λj f sp U u=>let⟨fa,fd,ps,F,hm,hk,hb⟩:=T.fns j f sp U u;⟨k,fa,fd,ps,g,F,hm,hk,hb⟩),
   (λj c m h=>let⟨f,sp,u,C,fa,fd,ps,F,hC,cl,hm,hb⟩:=T.mts j c m h;⟨f,sp,u,k,C,fa,fd,ps,g,F,hC,cl,hm,hb⟩),
   (λj c h=>let⟨f,sp,u,k',C,fa,fd,ps,hk,F,hC,hm,mk1,hb⟩:=T.mks j c h;⟨f,sp,u,k',C,fa,fd,ps,g.mono hk,F,hC,hm,mk1,hb⟩),T.cls⟩
 refine⟨_,sSs y c (λ_=>rfl) R,Ae N.length e,M,_kI r,O,?_⟩;refine mon_ss T.mon y ?_ (h e M _ q);exact⟨λB M' z W D Y Z L=>z _ _ Y .non L,λv M' z=>z⟩
noncomputable def KI:SpM:=λl M Q=>∃j:List Int,l=[.frl (j.map .int)]/\j.length<=63/\∀u,Q (.bl true) u
def Dc(K:X4):Sp:=λl H Q _=>∃(a:Addr) (j:List Int),l=[.ref a]/\FrL K H a (j.map V.int)/\j.length<=63/\∀u,Q (.bl true) u
theorem _o0{K:X4}{k:Nat}(F:FnOk P w K mg base CX0 k f fd ps (liSp K KI)):FnOk P w K mg base CX0 k f fd ps (Dc K):=
 F.imp λy H Q E ⟨a,j,e,l,u,q⟩=>by
  subst e;refine⟨[.frl (j.map .int)],λ_=>none,.cons (.frl l (RMs.ints j)) .nil,λ_ _ z=>(by cases z),j,rfl,u,λm=>?_⟩
  intro v g k r d;cases r;exact q _
theorem _qH{K:X4}(o:Only H)(h:SqL K H a vs):FrL K H a vs:=by
 rcases h with(h|⟨j,h⟩)|h
 .rcases o a with z|⟨j,l,z⟩
  .rw[h]at z;cases z
  .rw[h]at z;cases z
 .exact .inl ⟨j,h⟩
 .exact .inr h
theorem _qm{K:X4}{k:Nat}(g:∀x∈G.bl,mg x=none)(d:∀p∈G.gl,∃tk,mg p.1=some (.int p.2 tk))(z:Φ.map (·.1)=G.fns)
  (r:∀p∈Φ++Ψ,MonW p.2)(L:∀p∈Φ,∃l u ps,FnOk P w K mg base CX0 k l u ps (liSp K p.2)/\mg p.1=some (.ref l)/\YI K (.ref l)=true/\Binds K u ps [])
  (N:∀q∈G.mts,∃f sp,(Φ++Ψ)[q.1]?=some (f,sp)/\∃C l u ps,FnOk P w K mg base CX0 k l u ps (liSp K sp)/\Xy K Xp q.2.1=some (some (.ref C))/\Cls K C/\Meth K C q.2.2 l/\Binds K u ps [])
  (O:∀q∈G.mks,∃f sp,(Φ++Ψ)[q.1]?=some (f,sp)/\∃k' C l u ps,k'+1<=k/\FnOk P w K mg base CX0 k' l u ps (liSp K sp)/\Xy K Xp q.2=some (some (.ref C))/\mg q.2=some (.ref C)/\Mk K C l/\Binds K u ps [])
  (R:∀q∈G.cls,∃C,Xy K Xp q.1=some (some (.ref C))/\Cls K C/\NoAttr K C q.2):Fts P w K mg base k G (Φ++Ψ)where
 bls:=λx h=>g x (by simpa using h)
 gls:=λx i h=>d (x,i) (VI h)
 fnn:=λj f h=>by
  rw[<-z,Xq]at h;cases e:Φ[j]? with
  |none=>rw[e]at h;cases h
  |some p=>rw[e]at h;cases h;exact⟨p.2,by rw[ZB (XF.mp e).1,e]⟩
 mon:=λj f sp h=>r (f,sp) (Xo h)
 fns:=λj f sp y h=>by
  rw[<-z,Xq]at y;cases e:Φ[j]? with
  |none=>rw[e]at y;cases y
  |some p=>
   rw[ZB (XF.mp e).1,e]at h;cases h;exact L (f,sp) (Xo e)
 mts:=λj c m h=>N (j,c,m) (by simpa using h)
 mks:=λj c h=>O (j,c) (by simpa using h)
 cls:=λc f h=>R (c,f) (by simpa using h)
theorem _N{K:X4}{k:Nat}(e:Φ++Ψ=Χ)(u:∀x∈G.bl,mg x=none)(y:∀p∈G.gl,∃tk,mg p.1=some (.int p.2 tk))(z:Φ.map (·.1)=G.fns)
  (m:∀p∈Χ,MonW p.2)(g:∀p∈Φ,∃j l ps,FnOk P w K mg base CX0 k j l ps (liSp K p.2)/\mg p.1=some (.ref j)/\YI K (.ref j)=true/\Binds K l ps [])
  (d:∀q∈G.mts,∃f sp,Χ[q.1]?=some (f,sp)/\∃C j l ps,FnOk P w K mg base CX0 k j l ps (liSp K sp)/\Xy K Xp q.2.1=some (some (.ref C))/\Cls K C/\Meth K C q.2.2 j/\Binds K l ps [])
  (c:∀q∈G.mks,∃f sp,Χ[q.1]?=some (f,sp)/\∃k' C j l ps,k'+1<=k/\FnOk P w K mg base CX0 k' j l ps (liSp K sp)/\Xy K Xp q.2=some (some (.ref C))/\mg q.2=some (.ref C)/\Mk K C j/\Binds K l ps [])
  (r:∀q∈G.cls,∃C,Xy K Xp q.1=some (some (.ref C))/\Cls K C/\NoAttr K C q.2):Fts P w K mg base k G Χ:=by
 subst e;exact _qm u y z m g d c r
structure Fn1 (K:X4)(x:Str)(st:Stmt)(f:Addr)(d:Xb):Prop where
 a:Xy K Xp x=some (some (.ref f))
 F:Fun K x x st f d
structure FnT (K:X4)(mg:Str->Option X0)(x:Str)(ps:List Str)(st:Stmt)(f:Addr)(d:Xb):Prop where
 F:Fun K x x st f d
 b:Binds K d ps []
 m:mg x=some (.ref f)
structure Mt1 (K:X4)(C:Addr)(m qual:Str)(st:Stmt)(f:Addr)(d:Xb):Prop where
 M:Meth K C m f
 F:Fun K m qual st f d
theorem mt_mk{K:X4}{C:Addr}{x j:Str}{st:Stmt}{f:Addr}{d:X0}{q z:Option Addr}{y:Array (Option X0)}{kV w m u g:X0}(a:XV K (.ref C) x=some (some (.ref f)))(i:Ci K (.ref f)=true)
  (l:K.lookup f=some ⟨d,q,.func (ZF x j (UD st) (Xh st) (X5 st) .none kV w m z u g),y⟩)(c:Cg K u j=true)(k:YI K (.ref f)=true):Mt1 K C x j st f (ZF x j (UD st) (Xh st) (X5 st) .none kV w m z u g):=⟨⟨a,i,k⟩,fun_mk l c k⟩
theorem Fn1.t{K:X4}{st:Stmt}(H:Fn1 K x st f d)(X:K.In h)(G:h.Ns Xp mg)
  (b:∀(kV j u:X0)(w:Option Addr)(l y:X0)(us:List X0),us.length=ps.length->bindArgs (ZF x x (UD st) (Xh st) (X5 st) .none kV j u w l y) ⟨us,[]⟩=pure (ps.zip us)):FnT K mg x ps st f d:=⟨H.F,H.F.binds b,Yu X G H.a⟩
theorem Fn1.bt{K:X4}{st:Stmt}(H:Fn1 K x st f d)
  (r:∀(kV j u:X0)(w:Option Addr)(l z v:X0),bindArgs (ZF x x (UD st) (Xh st) (X5 st) .none kV j u w l z) ⟨[v],[]⟩=pure [(y,v)])(s:X2)(v:X0):BindsTo s d ⟨[v],[]⟩ [(y,v)]:=by
 obtain⟨_,_,kV,j,u,w,l,z,_,rfl,_⟩:=H.F.ex;exact .of_eq (r kV j u w l z v)
theorem us0{p:List X0->Prop}(h:p [])(us:List X0)(j:us.length=0):p us:=by cases us with|nil=>exact h|cons _ _=>cases j
theorem us1{p:List X0->Prop}(h:∀l,p [l])(us:List X0)(j:us.length=1):p us:=by cases us with|nil=>cases j|cons a r=>exact us0 (p:=λr=>p (a::r)) (h a) r (WL j)
theorem us2{p:List X0->Prop}(h:∀l u,p [l,u])(us:List X0)(j:us.length=2):p us:=by cases us with|nil=>cases j|cons a r=>exact us1 (p:=λr=>p (a::r)) (h a) r (WL j)
theorem us3{p:List X0->Prop}(h:∀l u w,p [l,u,w])(us:List X0)(j:us.length=3):p us:=by cases us with|nil=>cases j|cons a r=>exact us2 (p:=λr=>p (a::r)) (h a) r (WL j)
theorem us4{p:List X0->Prop}(h:∀l u w y,p [l,u,w,y])(us:List X0)(j:us.length=4):p us:=by cases us with|nil=>cases j|cons a r=>exact us3 (p:=λr=>p (a::r)) (h a) r (WL j)
theorem us5{p:List X0->Prop}(h:∀l u w y z,p [l,u,w,y,z])(us:List X0)(j:us.length=5):p us:=by cases us with|nil=>cases j|cons a r=>exact us4 (p:=λr=>p (a::r)) (h a) r (WL j)
section
variable{M:MH}{Q:QM}{i j:Int}{x y:MV}{a b:Addr}
theorem _rZ:wBin .Add (.int i) (.int j) M Q=Q (.int (i+j)) M:=rfl
theorem _rs:wBin .Sub (.int i) (.int j) M Q=Q (.int (i - j)) M:=rfl
theorem _rM:wBin .Mult (.int i) (.int j) M Q=(CMul i j/\Q (.int (i*j)) M):=rfl
theorem _pK:wBin .FloorDiv (.int i) (.int j) M Q=(WU i j/\Q (.int (i/j)) M):=rfl
theorem _rN:wBin .Mod (.int i) (.int j) M Q=(0<j/\Q (.int (i%j)) M):=rfl
theorem _rD:wBin .Pow (.int i) (.int j) M Q=(CPow i j/\Q (.int (i^j.toNat)) M):=rfl
theorem _rX:wBin .BitAnd (.int i) (.int j) M Q=Q (.int (CK i j)) M:=rfl
theorem _rh:wBin .BitXor (.int i) (.int j) M Q=Q (.int (CL i j)) M:=rfl
theorem _pO{x y:Str}:wBin .Add (.str x) (.str y) M Q=(x.length+y.length<=sizeLine/\Q (.str (x++y)) M):=rfl
theorem _px{x:Str}:wBin .Mult (.str x) (.int i) M Q=(x.length<=16/\ -1000<=i/\i<=1000/\Q (.str (Txt.mul x i)) M):=rfl
theorem _pN:wBin .Add (.tup xs) (.tup ys) M Q=(xs≠ []/\xs.length+ys.length<=sizeLine/\Q (.tup (xs++ys)) M):=rfl
theorem _pw:wBin .Mult (.tup xs) (.int i) M Q=(xs≠ []/\1<=i/\xs.length*i.toNat<=1000000/\Q (.tup (Xj i.toNat xs).flatten) M):=rfl
theorem _py:wBin .Mult (.ref a) (.int i) M Q=∃xs,M a=some (.lst xs)/\ -(2^63)<=i/\i<2^63/\xs.length*i.toNat<=sizeLine/\∀p,M p=none->Q (.ref p) (updM M p (.lst (Xj i.toNat xs).flatten)):=rfl
theorem q_lt:wCmp .Lt (.int i) (.int j) M Q=Q (.bl (decide (i<j))) M:=propext ⟨fun⟨_,_,e,f,h⟩=>by cases e;cases f;exact h,λh=>⟨i,j,rfl,rfl,h⟩⟩
theorem q_le:wCmp .LtE (.int i) (.int j) M Q=Q (.bl (decide (i<=j))) M:=propext ⟨λh=>Or.elim h (fun⟨_,_,e,f,h⟩=>by cases e;cases f;exact h) (fun⟨_,_,e,_⟩=>nomatch e),λh=>Or.inl ⟨i,j,rfl,rfl,h⟩⟩
theorem _rO{x y:Str}:wCmp .LtE (.str x) (.str y) M Q=Q (.bl (!decide (y.cps.toList<x.cps.toList))) M:=propext ⟨λh=>Or.elim h (fun⟨_,_,e,_⟩=>nomatch e) (fun⟨_,_,e,f,h⟩=>by cases e;cases f;exact h),λh=>Or.inr ⟨x,y,rfl,rfl,h⟩⟩
theorem q_gt:wCmp .Gt (.int i) (.int j) M Q=Q (.bl (decide (j<i))) M:=propext ⟨fun⟨_,_,e,f,h⟩=>by cases e;cases f;exact h,λh=>⟨i,j,rfl,rfl,h⟩⟩
theorem _rV:wCmp .Eq (.int i) (.int j) M Q=Q (.bl (decide (i=j))) M:=rfl
theorem _rL:wCmp .NotEq (.int i) (.int j) M Q=Q (.bl (!decide (i=j))) M:=rfl
theorem _rT{x y:Str}:wCmp .Eq (.str x) (.str y) M Q=Q (.bl (decide (x=y))) M:=rfl
theorem _rJ{x y:Str}:wCmp .NotEq (.str x) (.str y) M Q=Q (.bl (!decide (x=y))) M:=rfl
theorem q_is:wCmp .Is x .non M Q=Q (.bl (UE x)) M:=propext ⟨λh=>Or.elim h (λh=>h.2) (fun⟨_,e,_⟩=>nomatch e),λh=>Or.inl ⟨rfl,h⟩⟩
theorem _nd:wCmp .IsNot x .non M Q=Q (.bl (!UE x)) M:=propext ⟨λh=>Or.elim h (λh=>h.2) (fun⟨_,e,_⟩=>nomatch e),λh=>Or.inl ⟨rfl,h⟩⟩
theorem _rU{y:MV}:wCmp .Eq (.ref a) y M Q=wEq (.ref a) y M λb=>Q (.bl b) M:=rfl
theorem _rK:wCmp .NotEq (.ref a) y M Q=wEq (.ref a) y M λb=>Q (.bl (!b)) M:=rfl
theorem _rI{xs:List MV}{y:MV}:wCmp .NotEq (.tup xs) y M Q=wEq (.tup xs) y M λb=>Q (.bl (!b)) M:=rfl
theorem q_in:wCmp .In x y M Q=wIn x y M λb=>Q (.bl b) M:=rfl
theorem _rH:wCmp .NotIn x y M Q=wIn x y M λb=>Q (.bl (!b)) M:=rfl
theorem KJ{k:Bool->Prop}(h:M a=some (.lst xs))(l:M b=some (.lst []))(q:k xs.isEmpty):wEq (.ref a) (.ref b) M k:=.inr (.inr (.inl ⟨a,b,xs,rfl,rfl,h,l,q⟩))
theorem KL{k:Bool->Prop}(n:eqS x y=none)(h:Alike M m x y)(le:m<=60)(q:k true):wEq x y M k:=by
 unfold wEq;rw[n];exact .inr (.inl ⟨m,le,h,q⟩)
theorem Alike.flat(n:Nat)(f:Yl x=true):Alike M n x x:=by
 cases n<;>rw[Alike]
 .exact⟨f,rfl⟩
 .exact .inl ⟨f,rfl⟩
theorem Alike.tup(e:xs.length=ys.length)(h:∀(i:Nat)u v,xs[i]?=some u->ys[i]?=some v->Alike M n u v):Alike M (n+1) (.tup xs) (.tup ys):=by
 rw[Alike];exact .inr (.inl ⟨xs,ys,rfl,rfl,e,h⟩)
theorem Alike.two{a b l w:MV}{n:Nat}(h1:Alike M n a l)(h2:Alike M n b w):Alike M (n+1) (.tup [a,b]) (.tup [l,w]):=by
 refine .tup rfl λi u v h z=>?_
 match i with
 |0=>cases h;cases z;exact h1
 |1=>cases h;cases z;exact h2
 |i+2=>cases h
theorem Alike.lst(h1:LstM M x xs)(h2:LstM M y ys)(e:xs.length=ys.length)(h:∀(i:Nat)u v,xs[i]?=some u->ys[i]?=some v->Alike M n u v):Alike M (n+1) x y:=by
 rw[Alike];exact .inr (.inr (.inl ⟨xs,ys,h1,h2,e,h⟩))
theorem Alike.dic{a b:Addr}{l w:List (Key×MV)}{n:Nat}(h1:M a=some (.dic l))(h2:M b=some (.dic w))(e:l.length=w.length)(h:∀k u,(k,u)∈l->∃v,valM w k=some v/\Alike M n u v):Alike M (n+1) (.ref a) (.ref b):=by
 rw[Alike];exact .inr (.inr (.inr ⟨a,b,l,w,rfl,rfl,h1,h2,e,h⟩))
def ixO(o:Option MO)(y:MV)(M:MH)(Q:QM):Prop:=match o with
 |some (.lst xs)=>∃i v,y=.int i/\atI xs i=some v/\Q v M
 |some (.dic kvs)=>∃l v,keyM y=some l/\valM kvs l=some v/\Q v M
 |some (.fdic _ kvs)=>∃l v,keyM y=some l/\valM kvs l=some v/\Q v M
 |_=>False
theorem KM:wIx (.ref a) y M Q=ixO (M a) y M Q:=propext ⟨λh=>by
  rcases h with⟨w,i,v,e,r⟩|⟨l,u,v,e,r⟩|⟨o,l,u,v,e,r⟩
  .rw[e];exact⟨i,v,r⟩
  .rw[e];exact⟨u,v,r⟩
  .rw[e];exact⟨u,v,r⟩,λh=>by
  cases e:M a with
  |none=>rw[e]at h;exact h.elim
  |some o=>
   rw[e]at h;cases o with
   |lst w=>obtain⟨i,v,r⟩:=h;exact .inl ⟨w,i,v,e,r⟩
   |dic l=>obtain⟨u,v,r⟩:=h;exact .inr (.inl ⟨l,u,v,e,r⟩)
   |ins _ _=>exact h.elim
   |fdic o l=>obtain⟨u,v,r⟩:=h;exact .inr (.inr ⟨o,l,u,v,e,r⟩)⟩
theorem KN:ixO (some (.lst xs)) (.int i) M Q=∃v,atI xs i=some v/\Q v M:=propext ⟨fun⟨_,v,e,h⟩=>by cases e;exact⟨v,h⟩,fun⟨v,h⟩=>⟨i,v,rfl,h⟩⟩
theorem _nb{l:List (Key×MV)}{x:Str}:ixO (some (.dic l)) (.str x) M Q=∃v,valM l (Xs x)=some v/\Q v M:=propext ⟨fun⟨_,v,e,h⟩=>by cases e;exact⟨v,h⟩,fun⟨v,h⟩=>⟨_,v,rfl,h⟩⟩
theorem KO:wIx (.tup xs) (.int i) M Q=∃v,atI xs i=some v/\Q v M:=propext ⟨fun⟨_,v,e,h⟩=>by cases e;exact⟨v,h⟩,fun⟨v,h⟩=>⟨i,v,rfl,h⟩⟩
theorem _rQ:wIx (.frl xs) (.int i) M Q=∃v,atI xs i=some v/\Q v M:=propext ⟨fun⟨_,v,e,h⟩=>by cases e;exact⟨v,h⟩,fun⟨v,h⟩=>⟨i,v,rfl,h⟩⟩
theorem _rP:wIx (.str z) (.int i) M Q=(z.length<=sizeLine/\∃c,atI z.cps.toList i=some c/\Q (.str ⟨#[c]⟩) M):=propext ⟨fun⟨_,c,e,l,u⟩=>by cases e;exact⟨l,c,u⟩,fun⟨l,c,u⟩=>⟨i,c,rfl,l,u⟩⟩
def slO(o:Option MO)(lo l:Option Int)(M:MH)(Q:QM):Prop:=match o with
 |some (.lst xs)=>∀p,M p=none->Q (.ref p) (updM M p (.lst (cutM xs lo l)))
 |_=>False
theorem _rx{lo:Option Int}:wSl (.ref a) lo hi M Q=slO (M a) lo hi M Q:=propext ⟨fun⟨l,e,h⟩=>by rw[e];exact h,λh=>by
  cases e:M a with
  |none=>rw[e]at h;exact h.elim
  |some o=>
   rw[e]at h;cases o with
   |lst l=>exact⟨l,e,h⟩
   |dic u=>exact h.elim
   |ins _ _=>exact h.elim
   |fdic _ _=>exact h.elim⟩
theorem _pr{lo:Option Int}:slO (some (.lst xs)) lo hi M Q=∀p,M p=none->Q (.ref p) (updM M p (.lst (cutM xs lo hi))):=rfl
theorem _ry{lo:Option Int}:wSl (.frl xs) lo hi M Q=∀p,M p=none->Q (.ref p) (updM M p (.lst (cutM xs lo hi))):=rfl
theorem _rw{lo:Option Int}:wSl (.tup xs) lo hi M Q=Q (.tup (cutM xs lo hi)) M:=rfl
theorem _pB:wBi .len [.tup xs] M Q=Q (.int xs.length) M:=rfl
theorem _pE:wBi .len [.frl xs] M Q=Q (.int xs.length) M:=rfl
theorem _pC:wBi .len [.str z] M Q=(z.length<=sizeLine/\Q (.int z.length) M):=rfl
noncomputable def lenO(o:Option MO)(M:MH)(Q:QM):Prop:=match o with
 |some (.lst xs)=>Q (.int xs.length) M
 |some (.dic kvs)=>Q (.int kvs.length) M
 |_=>False
theorem _pD:wBi .len [.ref a] M Q=lenO (M a) M Q:=propext ⟨λh=>by
  rcases h with⟨u,e,h⟩|⟨l,e,h⟩<;>(rw[e];exact h),λh=>by
  cases e:M a with
  |none=>rw[e]at h;exact h.elim
  |some o=>
   rw[e]at h;cases o with
   |lst u=>exact .inl ⟨u,e,h⟩
   |dic l=>exact .inr ⟨l,e,h⟩
   |ins _ _=>exact h.elim
   |fdic _ _=>exact h.elim⟩
theorem _na:lenO (some (.lst xs)) M Q=Q (.int xs.length) M:=rfl
def isO(o:Option Ty7)(c:Ty7)(M:MH)(Q:QM):Prop:=match o with
 |some T=>c≠.none/\Q (.bl (isTy T c)) M
 |none=>False
theorem _rR:wBi .isinst [x,.ty c] M Q=isO (tyM M x) c M Q:=propext (by
 have e:wBi .isinst [x,.ty c] M Q=∃T,tyM M x=some T/\c≠.none/\Q (.bl (isTy T c)) M:=by cases x<;>rfl
 rw[e];exact⟨fun⟨T,e,h⟩=>by rw[e];exact h,λh=>by
  cases e:tyM M x with
  |none=>rw[e]at h;exact h.elim
  |some T=>rw[e]at h;exact⟨T,rfl,h⟩⟩)
def isO2(o:Option Ty7)(c d:Ty7)(M:MH)(Q:QM):Prop:=match o with
 |some T=>c≠.none/\d≠.none/\Q (.bl (isTy T c||isTy T d)) M
 |none=>False
theorem _pI:wBi .isinst [x,.tup [.ty c,.ty d]] M Q=isO2 (tyM M x) c d M Q:=propext (by
 have e:wBi .isinst [x,.tup [.ty c,.ty d]] M Q=∃T,tyM M x=some T/\c≠.none/\d≠.none/\Q (.bl (isTy T c||isTy T d)) M:=by cases x<;>rfl
 rw[e];exact⟨fun⟨T,e,h⟩=>by rw[e];exact h,λh=>by
  cases e:tyM M x with
  |none=>rw[e]at h;exact h.elim
  |some T=>rw[e]at h;exact⟨T,rfl,h⟩⟩)
theorem _nc:isO2 (some T) c d M Q=(c≠.none/\d≠.none/\Q (.bl (isTy T c||isTy T d)) M):=rfl
theorem _pH:isO (some T) c M Q=(c≠.none/\Q (.bl (isTy T c)) M):=rfl
theorem _rl:tyM M (.int i)=some .int:=rfl
theorem _rj{k:Str}:tyM M (.str k)=some .str:=rfl
theorem _ri:tyM M (.tup xs)=some .tuple:=rfl
noncomputable def tyO:Option MO->Option Ty7
 |some (.lst _)=>some .list
 |some (.dic _)=>some .dict
 |_=>none
theorem _rk:tyM M (.ref a)=tyO (M a):=by
 cases e:M a with
 |none=>simp[tyM,tyO,e]
 |some o=>cases o<;>simp[tyM,tyO,e]
theorem _po:tyO (some (.lst xs))=some .list:=rfl
theorem _rY:wBi .all [.ref a] M Q=∃bs:List Bool,M a=some (.lst (bs.map MV.bl))/\Q (.bl (bs.all id)) M:=rfl
theorem _nf:wBi .dictL [.ref a] M Q=∃ps:List (Key×MV),M a=some (.lst (ps.map prM))/\∀p,M p=none->Q (.ref p) (updM M p (.dic (YK ps))):=rfl
theorem _n8:wBi .list [.tup xs] M Q=∀p,M p=none->Q (.ref p) (updM M p (.lst xs)):=rfl
theorem _n9:wBi .list [.ref a] M Q=∃xs,M a=some (.lst xs)/\∀p,M p=none->Q (.ref p) (updM M p (.lst xs)):=rfl
theorem _pp:wBi .tuple [.ref a] M Q=∃xs,M a=some (.lst xs)/\Q (.tup xs) M:=rfl
theorem _ne:wBi .dict [.tup xs] M Q=∃ps:List (Key×MV),xs=ps.map prM/\∀p,M p=none->Q (.ref p) (updM M p (.dic (YK ps))):=rfl
theorem _pL:wBi .dict [.ref a] M Q=∃l,M a=some (.dic l)/\∀p,M p=none->Q (.ref p) (updM M p (.dic l)):=rfl
def apO(o:Option MO)(a:Addr)(y:MV)(M:MH)(Q:QM):Prop:=match o with
 |some (.lst xs)=>xs.length<sizeLine/\Q .non (updM M a (.lst (xs++[y])))
 |_=>False
theorem _rW:wMts .append (.ref a) [y] M Q=apO (M a) a y M Q:=propext ⟨fun⟨l,e,h⟩=>by rw[e];exact h,λh=>by
  cases e:M a with
  |none=>rw[e]at h;exact h.elim
  |some o=>
   rw[e]at h;cases o with
   |lst l=>exact⟨l,e,h⟩
   |dic u=>exact h.elim
   |ins _ _=>exact h.elim
   |fdic _ _=>exact h.elim⟩
theorem _pM:apO (some (.lst xs)) a y M Q=(xs.length<sizeLine/\Q .non (updM M a (.lst (xs++[y])))):=rfl
theorem _rS:wMts .extend (.ref a) [.ref b] M Q=∃xs,M a=some (.lst xs)/\∃ys,M b=some (.lst ys)/\xs.length+ys.length<=sizeLine/\Q .non (updM M a (.lst (xs++ys))):=rfl
theorem _pv:mtOk .append x M=(∃a xs,x=.ref a/\M a=some (.lst xs)):=rfl
theorem _pu:mtOk .extend x M=(∃a xs,x=.ref a/\M a=some (.lst xs)):=rfl
theorem _pt:mtOk .reverse x M=(∃a xs,x=.ref a/\M a=some (.lst xs)):=rfl
def puO(o:Option MO)(a:Addr)(i v:MV)(M:MH)(Q:MH->Prop):Prop:=match o with
 |some (.lst xs)=>∃k j,i=.int k/\ixN xs.length k=some j/\Q (updM M a (.lst (xs.set j v)))
 |some (.dic kvs)=>∃l,keyM i=some l/\kvs.length<sizeLine/\Q (updM M a (.dic (putM kvs l v)))
 |_=>False
theorem _rC:wPut (.ref a) x v M R=puO (M a) a x v M R:=propext ⟨λh=>by
  rcases h with⟨w,k,j,e,r⟩|⟨l,u,e,r⟩
  .rw[e];exact⟨k,j,r⟩
  .rw[e];exact⟨u,r⟩,λh=>by
  cases e:M a with
  |none=>rw[e]at h;exact h.elim
  |some o=>
   rw[e]at h;cases o with
   |lst w=>obtain⟨k,j,r⟩:=h;exact .inl ⟨w,k,j,e,r⟩
   |dic l=>obtain⟨u,r⟩:=h;exact .inr ⟨l,u,e,r⟩
   |ins _ _=>exact h.elim
   |fdic _ _=>exact h.elim⟩
theorem _ps:puO (some (.lst xs)) a (.int i) v M R=∃j,ixN xs.length i=some j/\R (updM M a (.lst (xs.set j v))):=propext ⟨fun⟨_,j,e,h⟩=>by cases e;exact⟨j,h⟩,fun⟨j,h⟩=>⟨i,j,rfl,h⟩⟩
theorem _n7:puO (some (.dic kvs)) a (.str z) v M R=(kvs.length<sizeLine/\R (updM M a (.dic (putM kvs (Xs z) v)))):=propext ⟨fun⟨_,e,h⟩=>by cases e;exact h,λh=>⟨_,rfl,h⟩⟩
noncomputable def srO(o:Option MO)(a:Addr)(M:MH)(Q:Src->MH->Prop):Prop:=match o with
 |some (.lst xs)=>Q (.lst a xs) M
 |_=>False
noncomputable def srV(v:MV)(M:MH)(Q:Src->MH->Prop):Prop:=(∃l,(v=.tup l\/v=.frl l)/\Q (.tup l) M)\/(∃a l,v=.ref a/\M a=some (.lst l)/\Q (.lst a l) M)\/False\/∃z,v=.str z/\Q (.str z) M
theorem _rz:wSr Φ (.seq e) σ M R=wE Φ e σ M λv M1=>srV v M1 R:=rfl
theorem _rv:srV (.ref a) M R=srO (M a) a M R:=propext ⟨λh=>by
  rcases h with⟨l,e,h⟩|⟨b,l,e,f,h⟩|h|⟨z,e,_⟩
  .rcases e with e|e<;>cases e
  .cases e;rw[f];exact h
  .exact h.elim
  .exact(nomatch e),λh=>by
  cases e:M a with
  |none=>rw[e]at h;exact h.elim
  |some o=>
   rw[e]at h;cases o with
   |lst l=>exact .inr (.inl ⟨a,l,rfl,e,h⟩)
   |dic u=>exact h.elim
   |ins _ _=>exact h.elim
   |fdic _ _=>exact h.elim⟩
theorem _ru:srV (.str z) M R=R (.str z) M:=propext ⟨λh=>by
  rcases h with⟨l,e,h⟩|⟨_,_,e,_⟩|h|⟨_,e,h⟩
  .rcases e with e|e<;>exact(nomatch e)
  .exact(nomatch e)
  .exact h.elim
  .cases e;exact h,λh=>.inr (.inr (.inr ⟨z,rfl,h⟩))⟩
theorem _ro:Src.thaw M (.tup xs)=M:=rfl
theorem _rn:Src.thaw M (.lst a xs)=M:=rfl
theorem _rm:Src.thaw M (.rng i n)=M:=rfl
theorem _rG:Src.okT M (.tup xs)=True:=rfl
theorem _rF:Src.okT M (.lst a xs)=True:=rfl
theorem _rE:Src.okT M (.rng i n)=True:=rfl
theorem _pq:srO (some (.lst xs)) a M R=R (.lst a xs) M:=rfl
theorem _rt:srV (.tup zs) M R=R (.tup zs) M:=propext ⟨λh=>by
  rcases h with⟨l,e,h⟩|h
  .rcases e with e|e
   .cases e;exact h
   .exact nomatch e
  .rcases h with⟨_,_,e,_⟩|h|⟨_,e,_⟩<;>first|exact h.elim|exact(nomatch e),λh=>.inl ⟨zs,.inl rfl,h⟩⟩
noncomputable def rgV(v:MV)(M:MH)(Q:Src->MH->Prop):Prop:=∃j,v=.int j/\ -(2^62)<=j/\j<2^62/\Q (.rng 0 j.toNat) M
theorem _rA:wSr Φ (.rng e) σ M R=wE Φ e σ M λv M1=>rgV v M1 R:=rfl
theorem _rB:rgV (.int i) M R=(-(2^62)<=i/\i<2^62/\R (.rng 0 i.toNat) M):=propext ⟨fun⟨_,e,h⟩=>by cases e;exact h,λh=>⟨i,rfl,h⟩⟩
theorem _pA:wBi .max [.int i,.int j] M Q=Q (.int (if j>i then j else i)) M:=rfl
theorem _pz:wBi .min [.int i,.int j] M Q=Q (.int (if j<i then j else i)) M:=rfl
theorem _pJ{k:Bool}:wBi .int [.bl k] M Q=Q (.int (if k then 1 else 0)) M:=rfl
end
theorem v_s{k:MV->Prop}:onV (some (some v)) k=k v:=rfl
theorem b_0{k:Bool->Prop}:onB (.bl b) k=k b:=rfl
theorem f_s{k:SpM->Prop}:onF (some (f,sp)) k=k sp:=rfl
theorem _sg:wE Φ (.var i) σ M Q=onV σ[i]? (λv=>Q v M):=rfl
theorem _sn:wE Φ (.int i) σ M Q=(Q (.int i) M):=rfl
theorem _si:wE Φ (.str x) σ M Q=(Q (.str x) M):=rfl
theorem e_bl:wE Φ (.bl b) σ M Q=(Q (.bl b) M):=rfl
theorem _sk:wE Φ (.non) σ M Q=(Q .non M):=rfl
theorem _sp:wE Φ (.glb x i) σ M Q=(Q (.int i) M):=rfl
theorem e_ty:wE Φ (.ty c) σ M Q=(Q (.ty c) M):=rfl
theorem _st:wE Φ (.bin op a b) σ M Q=(wE Φ a σ M λx M1=>wE Φ b σ M1 λy M2=>wBin op x y M2 Q):=rfl
theorem _sl:wE Φ (.neg a) σ M Q=(wE Φ a σ M λx M1=>∃i,x=.int i/\Q (.int (-i)) M1):=rfl
theorem _sj:wE Φ (.not a) σ M Q=(wE Φ a σ M λx M1=>onB x λb=>Q (.bl (!b)) M1):=rfl
theorem _sr:wE Φ (.cmp op a b) σ M Q=(wE Φ a σ M λx M1=>wE Φ b σ M1 λy M2=>wCmp op x y M2 Q):=rfl
theorem _ss:wE Φ (.chn op op' a b c) σ M Q=(wE Φ a σ M λx M1=>wE Φ b σ M1 λy M2=>wCmp op x y M2 λz j=>onB z λk=>(if k=true then wE Φ c σ j λw l=>wCmp op' y w l Q else Q (.bl false) j)):=rfl
theorem _su:wE Φ (.and a b) σ M Q=(wE Φ a σ M λx M1=>onB x λc=>(if c=true then wE Φ b σ M1 Q else Q (.bl false) M1)):=rfl
theorem e_or:wE Φ (.or a b) σ M Q=(wE Φ a σ M λx M1=>onB x λc=>(if c=true then Q (.bl true) M1 else wE Φ b σ M1 Q)):=rfl
theorem _so:wE Φ (.ife c a b) σ M Q=(wE Φ c σ M λx M1=>onB x λk=>(if k=true then wE Φ a σ M1 Q else wE Φ b σ M1 Q)):=rfl
theorem _sh:wE Φ (.tup es) σ M Q=(wEs Φ es σ M λvs M1=>vs.length<=sizeLine/\Q (.tup vs) M1):=rfl
theorem _sm:wE Φ (.lst es) σ M Q=(wEs Φ es σ M λvs M1=>vs.length<=sizeLine/\∀p,M1 p=none->Q (.ref p) (updM M1 p (.lst vs))):=rfl
theorem e_ix:wE Φ (.ix a b) σ M Q=(wE Φ a σ M λx M1=>wE Φ b σ M1 λy M2=>wIx x y M2 Q):=rfl
theorem e_sl{lo:IO}:wE Φ (.sl a lo hi) σ M Q=(wE Φ a σ M λx M1=>wO Φ lo σ M1 λl M2=>wO Φ hi σ M2 λh j=>wSl x l h j Q):=rfl
theorem _qK:wE Φ (.call j e es) σ M Q=(wE Φ e σ M λv M1=>wEs Φ es σ M1 λvs M2=>onF Φ[j]? λsp=>sp (v::vs) M2 Q):=rfl
theorem e_b2:wE Φ (.b2 f e) σ M Q=(wE Φ e σ M λv M1=>wB2 f v M1 Q):=rfl
theorem e_bi:wE Φ (.bi f e es) σ M Q=(wE Φ e σ M λv M1=>wEs Φ es σ M1 λvs M2=>wBi f (v::vs) M2 Q):=rfl
theorem e_mt:wE Φ (.mt m o es) σ M Q=(wE Φ o σ M λx M1=>mtOk m x M1/\wEs Φ es σ M1 λvs M2=>wMts m x vs M2 Q):=rfl
theorem _sq:wE Φ (.fld c o f) σ M Q=(wE Φ o σ M λx M1=>∃a fs v,x=.ref a/\M1 a=some (.ins c fs)/\valM fs f=some v/\Q v M1):=rfl
theorem _oy:wE Φ (.mcall j c m o es) σ M Q=(wE Φ o σ M λx M1=>∃a fs,x=.ref a/\M1 a=some (.ins c fs)/\valM fs m=none/\wEs Φ es σ M1 λvs M2=>∃f sp,Φ[j]?=some (f,sp)/\sp (.ref a::vs) M2 Q):=rfl
theorem _qJ:wE Φ (.make j c e es) σ M Q=(wE Φ e σ M λv M1=>wEs Φ es σ M1 λvs M2=>∃f sp,Φ[j]?=some (f,sp)/\∀p,M2 p=none->sp (.ref p::v::vs) (updM M2 p (.ins c [])) λu l=>u=.non/\Q (.ref p) l):=rfl
theorem Dd{own:List Str}{fr:List Nat}:wE Φ (.comp own fr src tg test elt) σ M Q=(wSr Φ src σ M λS M1=>S.len<sizeLine/\∀D,M1 D=none->∃J:Nat->List MV->MH->Prop,J 0 [] (updM M1 D (.lst []))/\
   (∀i ys M2,J i ys M2->M2 D=some (.lst ys)/\ys.length<=i/\S.ok M2)/\
   (∀i x ys M2,S.items[i]?=some x->J i ys M2->wTg tg x (sCm own fr σ) λj=>wI Φ test j M2 λb l=>
    if b=true then wE Φ elt j l λy u=>u D=some (.lst ys)/\J (i+1) (ys++[y]) (updM u D (.lst (ys++[y])))else J (i+1) ys l)/\
   ∀ys M2,J S.len ys M2->Q (.ref D) (S.thaw M2)):=rfl
theorem De{M M':MH}{S:Src}(h:S.okF M):S.thaw M'=M':=by
 cases S<;>first|rfl|exact h.elim
theorem _q{own:List Str}{fr:List Nat}{p:Type}(xs:List p)(f g:p->MV)
  (O:wSr Φ src σ M λS M1=>S.items=xs.map f/\xs.length<sizeLine/\S.okF M1/\M1=M)
  (P:∀x∈xs,∀M',(∀a o,M a=some o->M' a=some o)->wTg tg (f x) (sCm own fr σ) λl=>wE Φ elt l M' λy M2=>y=g x/\M2=M')
  (u:∀(j:Nat)f sp,Φ[j]?=some (f,sp)->MonW sp)(q:∀D,M D=none->Q (.ref D) (updM M D (.lst (xs.map g)))):wE Φ (.comp own fr src tg .none elt) σ M Q:=by
 rw[Dd];refine mon_sr u src (λS M1 ⟨L,R,w,T⟩=>?_) O;subst T;have N:S.len=xs.length:=by rw[<-S.items_len,L,Xd]
 refine⟨by rw[N];exact R,λD m=>⟨λi d M2=>M2=updM M1 D (.lst d)/\d=(xs.take i).map g,⟨rfl,by simp⟩,?_,?_,?_⟩⟩
 .rintro i d M2 ⟨rfl,rfl⟩;refine⟨X9,by rw[Xd,Z6];lia,?_⟩
  cases S with
  |tup _=>trivial
  |rng _ _=>trivial
  |str _=>trivial
  |lst a U=>
   have:a≠D:=by intro e;subst e;have w:M1 a=some (.lst U):=w;rw[w]at m;cases m
   show updM M1 D _ a=_;rw[Xc this];exact w
 .rintro i x d M2 c ⟨rfl,rfl⟩;rw[L]at c;have r:i<xs.length:=by have:=(XF.mp c).1;rw[Xd]at this;exact this
  rw[Xq,X8 r]at c;cases c;refine V7 tg (λl h=>?_) (P xs[i] (XU r) (updM M1 D (.lst ((xs.take i).map g))) (λa o e=>by
   rw[Xc (by intro z;subst z;rw[e]at m;cases m)];exact e))
  rw[wI,if_pos rfl];refine Xa u elt (λy M2 ⟨W,Y⟩=>?_) h;subst W Y;refine⟨X9,YF,?_⟩;rw[U1,X8 r,Y0]
  rfl
 .rintro d M2 ⟨rfl,rfl⟩;rw[N,Wr (Xe _),De w];exact q D m
theorem _k0{own:List Str}{fr:List Nat}{O:Type}(xs:List O)(f g:O->MV)
  (Z:wSr Φ src σ M λS M1=>S.items=xs.map f/\xs.length<sizeLine/\S.okF M1/\∀a o,M a=some o->M1 a=some o)
  (A:∀x∈xs,∀M',(∀a o,M a=some o->M' a=some o)->wTg tg (f x) (sCm own fr σ) λm=>wE Φ elt m M' λy M2=>y=g x/\∀a o,M' a=some o->M2 a=some o)
  (d:∀(j:Nat)f sp,Φ[j]?=some (f,sp)->MonW sp)(q:∀D M',M D=none->(∀a o,M a=some o->M' a=some o)->M' D=some (.lst (xs.map g))->Q (.ref D) M'):wE Φ (.comp own fr src tg .none elt) σ M Q:=by
 rw[Dd];refine mon_sr d src (λS M1 ⟨P,B,R,p⟩=>?_) Z;have T:S.len=xs.length:=by rw[<-S.items_len,P,Xd]
 have L:∀D,M1 D=none->M D=none:=λD l=>by
  cases e:M D with
  |none=>rfl
  |some o=>rw[p _ _ e]at l;cases l
 have U:∀{a D:Addr} {o:MO},M1 a=some o->M1 D=none->a≠D:=λh W z=>by subst z;rw[h]at W;cases W
 refine⟨by rw[T];exact B,λD l=>⟨λi c M2=>(∀a o,M1 a=some o->M2 a=some o)/\M2 D=some (.lst c)/\c=(xs.take i).map g,⟨λa o e=>by rw[Xc (U e l)];exact e,X9,by simp⟩,?_,?_,?_⟩⟩
 .rintro i c M2 ⟨u,w,rfl⟩;refine⟨w,by rw[Xd,Z6];lia,?_⟩
  cases S with
  |tup _=>trivial
  |rng _ _=>trivial
  |str _=>trivial
  |lst a E=>exact u _ _ R
 .rintro i x c M2 r ⟨u,w,rfl⟩;rw[P]at r;have N:i<xs.length:=by have:=(XF.mp r).1;rw[Xd]at this;exact this
  rw[Xq,X8 N]at r;cases r;refine V7 tg (λm h=>?_) (A xs[i] (XU N) M2 (λa o e=>u _ _ (p _ _ e)));rw[wI,if_pos rfl];refine Xa d elt (λy F ⟨C,Y⟩=>?_) h;subst C;refine⟨Y _ _ w,λa o e=>by rw[Xc (U e l)];exact Y _ _ (u _ _ e),X9,?_⟩
  rw[U1,X8 N,Y0]
  rfl
 .rintro c M2 ⟨u,w,rfl⟩;rw[T,Wr (Xe _)]at w;rw[De R];exact q D M2 (L D l) (λa o e=>u _ _ (p _ _ e)) w
theorem _rr:wTg (.nm i) v σ R=R (σ.set i (some v)):=rfl
theorem _rq{t:ITg}:wTgs (.cons t ts) (v::r) σ R=wTg t v σ λj=>wTgs ts r j R:=by
 exact propext ⟨fun⟨_,_,e,h⟩=>by cases e;exact h,λh=>⟨_,_,rfl,h⟩⟩
theorem _rp:wTgs .nil [] σ R=R σ:=propext ⟨λh=>h.2,λh=>⟨rfl,h⟩⟩
theorem KP{w:Type} [DecidableEq w] {k:w}{v:MV}:∀{l:List (w×MV)},(l.map (·.1)).Nodup->(k,v)∈l->valM l k=some v
 |(j,u)::r,nd,h=>by
  rw[Xx,Yp]at nd;unfold valM;rcases Xk.mp h with e|h
  .cases e;rw[if_pos rfl]
  .rw[if_neg (λe=>nd.1 (by subst e;exact XQ.mpr ⟨(j,v),h,rfl⟩)),KP nd.2 h]
section
variable{M:MH}
theorem Alike.dicFlat{a b:Addr}{j:List (Key×MV)}(n:Nat)(h1:M a=some (.dic j))(h2:M b=some (.dic j))(l:(j.map (·.1)).Nodup)(f:∀p∈j,Yl p.2=true):Alike M (n+1) (.ref a) (.ref b):=
 .dic h1 h2 rfl λk u m=>⟨u,KP l m,.flat n (f _ m)⟩
theorem Alike.lstFlat(n:Nat)(h1:LstM M x xs)(h2:LstM M y xs)(f:∀v∈xs,Yl v=true):Alike M (n+1) x y:=
 .lst h1 h2 rfl λi u v e j=>by
  rw[e]at j;cases j;exact .flat n (f u (Xo e))
end
section
variable{Φ:List (Str×SpM)}{D:EndM}{σ:Sm}{M:MH}
theorem _ra:wSs Φ .nil D σ M=D.nx σ M:=rfl
theorem _pi:wSs Φ (.cons s r) D σ M=wS Φ s {nx:=λσ M=>wSs Φ r D σ M,rt:=D.rt} σ M:=rfl
theorem _r8:wS Φ (.ret e) D σ M=wE Φ e σ M D.rt:=rfl
theorem _r7:wS Φ (.set i e) D σ M=wE Φ e σ M λv M1=>D.nx (σ.set i (some v)) M1:=rfl
theorem _rd{t:ITgs}:wS Φ (.asg t e) D σ M=wE Φ e σ M λv M1=>∃xs,v=.tup xs/\wTgs t xs σ λj=>D.nx j M1:=rfl
theorem _r9:wS Φ (.put o i e) D σ M=wE Φ e σ M λv M1=>wE Φ o σ M1 λx M2=>wE Φ i σ M2 λy j=>wPut x y v j λl=>D.nx σ l:=rfl
theorem _pg:wS Φ (.fset c o f e) D σ M=wE Φ e σ M λv M1=>wE Φ o σ M1 λx M2=>∃a fs,x=.ref a/\M2 a=some (.ins c fs)/\fs.length<1000/\D.nx σ (updM M2 a (.ins c (putM fs f v))):=rfl
theorem _ph:wS Φ (.expr e) D σ M=wE Φ e σ M λ_ M1=>D.nx σ M1:=rfl
theorem _rb:wS Φ (.ite c a b) D σ M=wE Φ c σ M λx M1=>onB x λk=>(if k=true then wSs Φ a D σ M1 else wSs Φ b D σ M1):=rfl
theorem _rc{t:ITg}:wS Φ (.for_ t s b) D σ M=wSr Φ s σ M λS M1=>∃J:Nat->Sm->MH->Prop,J 0 σ M1/\(∀i σ M,J i σ M->S.ok M)/\
   (∀i x σ M,S.items[i]?=some x->J i σ M->wTg t x σ λj=>wSs Φ b {nx:=J (i+1),rt:=λv M=>S.okT M/\D.rt v (S.thaw M)} j M)/\∀σ M,J S.len σ M->D.nx σ (S.thaw M):=rfl
theorem _n3:wS Φ (.while_ c b) D σ M=∃J:Nat->Sm->MH->Prop,(∃m,J m σ M)/\∀m σ M,J m σ M->wE Φ c σ M λx M1=>∃k,x=.bl k/\
   (if k=true then wSs Φ b {nx:=λj M'=>∃l,l<m/\J l j M',rt:=D.rt} σ M1 else D.nx σ M1):=rfl
theorem _qh:wO Φ .none σ M Q=Q none M:=rfl
theorem _qg:wO Φ (.some e) σ M Q=wE Φ e σ M λv M1=>∃i,v=.int i/\Q (some i) M1:=rfl
theorem _qI:wEs Φ .nil σ M Q=Q [] M:=rfl
theorem _ox:wEs Φ (.cons e es) σ M Q=wE Φ e σ M λv M1=>wEs Φ es σ M1 λvs M2=>Q (v::vs) M2:=rfl
end
section
variable{Φ:List (Str×SpM)}{σ σ':Sm}{M M':MH}{Q:QM}{x x' y y' z z':MV}{o o':Option MO}{vs vs':List MV}
end
end L2
namespace My
open PySem L2
noncomputable def top(i:Nat):Stmt:=PySem.Challenge.pw_bellferry_k72_whole_whatever_rings_first.main.body.getD i (.Pass ⟨0,0,0,0⟩)
abbrev Af:Stmt:=top 13
abbrev Ag:Stmt:=top 14
abbrev Ah:Stmt:=top 15
abbrev Ai:Stmt:=top 16
abbrev Aj:Stmt:=top 17
abbrev Ak:Stmt:=top 18
abbrev Al:Stmt:=top 20
abbrev Am:Stmt:=top 21
abbrev An:Stmt:=top 23
abbrev Ao:Stmt:=top 24
abbrev Ap:Stmt:=top 25
abbrev Aq:Stmt:=top 26
abbrev Ar:Stmt:=top 27
abbrev As:Stmt:=top 28
abbrev At:Stmt:=Yx (top 30) 0
abbrev Au:Stmt:=Yx (top 30) 1
abbrev Av:Stmt:=Yx (top 30) 2
abbrev Aw:Stmt:=Yx (top 30) 3
abbrev Ax:Stmt:=Yx (top 30) 4
abbrev Ay:Stmt:=Yx (top 31) 0
abbrev Az:Stmt:=Yx (top 31) 1
abbrev AA:Stmt:=Yx (top 31) 2
abbrev AB:Stmt:=top 33
abbrev AC:Stmt:=top 34
abbrev AD:Stmt:=top 35
abbrev AE:Stmt:=top 36
abbrev AF:Stmt:=top 37
abbrev AG:Stmt:=top 38
abbrev AH:Stmt:=top 40
abbrev AI:Stmt:=top 41
abbrev AJ:Stmt:=top 42
abbrev AK:Stmt:=top 43
abbrev AL:Stmt:=top 54
abbrev AM:Stmt:=top 55
abbrev AN:Stmt:=top 56
abbrev AO:Stmt:=top 57
abbrev AQ:Stmt:=top 58
abbrev AR:Stmt:=top 59
abbrev AS:Stmt:=top 60
abbrev AT:Stmt:=top 61
abbrev AU:Stmt:=top 62
abbrev AV:Stmt:=top 63
abbrev AW:Stmt:=top 64
abbrev AX:Stmt:=top 65
abbrev AY:Stmt:=top 66
abbrev AZ:Stmt:=top 67
abbrev B0:Stmt:=top 68
abbrev B1:Stmt:=top 69
abbrev B7:Stmt:=top 72
abbrev Ba:Stmt:=top 73
abbrev Bb:Stmt:=top 74
abbrev Bc:Stmt:=Yx (top 75) 0
abbrev Bd:Stmt:=Yx (top 75) 1
abbrev Be:Stmt:=Yx (top 75) 2
abbrev Bf:Stmt:=Yx (top 75) 3
abbrev Bg:Stmt:=Yx (top 75) 4
abbrev Bh:Stmt:=Yx (top 75) 5
abbrev Bi:Stmt:=Yx (top 75) 6
abbrev Bj:Stmt:=Yx (top 75) 7
abbrev Bk:Stmt:=Yx (top 75) 8
abbrev Bl:Stmt:=top 77
abbrev Bm:Stmt:=top 79
abbrev Bn:Stmt:=top 80
abbrev Bo:Stmt:=top 81
abbrev Bp:Stmt:=top 82
abbrev Bq:Stmt:=top 83
abbrev Br:Stmt:=top 84
abbrev Bs:Stmt:=top 85
abbrev Bt:Stmt:=top 86
set_option genInjectivity false in
set_option genSizeOf false in
structure Adr where
 dq:Addr
 iz:Xb
 gE:Addr
 iP:Xb
 gF:Addr
 cP:Xb
 fB:Addr
 iK:Xb
 dy:Addr
 iA:Xb
 gW:Addr
 fv:Xb
 cC:Addr
 eZ:Xb
 eP:Addr
 cZ:Xb
 ff:Addr
 eO:Xb
 dP:Addr
 fU:Xb
 gH:Addr
 gC:Xb
 dB:Addr
 dw:Xb
 fq:Addr
 cX:Xb
 gD:Addr
 fR:Xb
 aW:Addr
 bo:Xb
 c9:Addr
 bn:Xb
 cv:Addr
 br:Xb
 bc:Addr
 bO:Xb
 bd:Addr
 bu:Xb
 aY:Addr
 bK:Xb
 bI:Addr
 cA:Xb
 cm:Addr
 bV:Xb
 fQ:Addr
 gP:Xb
 ik:Addr
 dU:Xb
 e9:Addr
 gX:Xb
 du:Addr
 ee:Xb
 gQ:Addr
 gK:Xb
 ft:Addr
 ef:Xb
 cY:Addr
 gM:Xb
 fh:Addr
 fG:Xb
 dj:Addr
 iD:Xb
 dQ:Addr
 gB:Xb
 eU:Addr
 eG:Xb
 gI:Addr
 cT:Xb
 bw:Addr
 bg:Xb
 eW:Addr
 dk:Xb
 cD:Addr
 dD:Xb
 dt:Addr
 dG:Xb
 ip:Addr
 cQ:Xb
 dH:Addr
 dJ:Xb
 gO:Addr
 gA:Xb
 cK:Addr
 cI:Xb
 eQ:Addr
 dE:Xb
 cS:Addr
 fH:Xb
 i9:Addr
 dL:Xb
 dO:Addr
 de:Xb
 dI:Addr
 gq:Xb
 ia:Addr
 eh:Xb
 dA:Addr
 fz:Xb
 i0:Addr
 iF:Xb
 ei:Addr
 dF:Xb
 aZ:Addr
 ck:Xb
 b9:Addr
 bm:Xb
 bh:Addr
 bv:Xb
 bR:Addr
 bU:Xb
 bf:Addr
 cb:Xb
 bp:Addr
 bQ:Xb
 bY:Addr
 cy:Xb
 bT:Addr
 c8:Xb
 cj:Addr
 cc:Xb
 fj:Addr
 cJ:Xb
 iQ:Addr
 fF:Xb
 i8:Addr
 fI:Xb
 gh:Addr
 dl:Xb
 fA:Addr
 eD:Xb
 dz:Addr
 fw:Xb
 fX:Addr
 gg:Xb
 ib:Addr
 gR:Xb
 fV:Addr
 dZ:Xb
 ai:Addr
 aq:Addr
 aa:Addr
structure Txt (K:X4)(mg:Str->Option X0)(t:Adr):Prop where
 aT:FnT K mg "is_whole" ["value"] Af t.dq t.iz
 aP:FnT K mg "is_width" ["number"] Ag t.gE t.iP
 aF:FnT K mg "two_to" ["exponent"] Ah t.gF t.cP
 bS:FnT K mg "fits" ["width","number"] Ai t.fB t.iK
 aG:FnT K mg "cut" ["width","number"] Aj t.dy t.iA
 bM:FnT K mg "amid" ["old","new","choice"] Ak t.gW t.fv
 aU:FnT K mg "code_of" ["n"] Al t.cC t.eZ
 bz:FnT K mg "number_of" ["word"] Am t.eP t.cZ
 aS:FnT K mg "first_sign" ["word"] An t.ff t.eO
 aV:FnT K mg "shown" ["sign","word","moment"] Ao t.dP t.fU
 bA:FnT K mg "first_sight" ["word","stages"] Ap t.gH t.gC
 b0:FnT K mg "sampled" ["sign","since","choice"] Aq t.dB t.dw
 be:FnT K mg "moved" ["sight","word"] Ar t.fq t.cX
 bE:FnT K mg "used" ["sight"] As t.gD t.fR
 gT:Fun K "__init__" "Side.__init__" At t.aW t.bo
 gY:Binds K t.bo ["self","turn","stages"] []
 iR:Meth K t.ai "__init__" t.aW
 gk:Fun K "ring_ahead" "Side.ring_ahead" Au t.c9 t.bn
 bX:Binds K t.bn ["self"] []
 bq:Meth K t.ai "ring_ahead" t.c9
 dh:Fun K "less_the_seen" "Side.less_the_seen" Av t.cv t.br
 c7:Binds K t.br ["self"] []
 ca:Meth K t.ai "less_the_seen" t.cv
 fD:Fun K "grow" "Side.grow" Aw t.bc t.bO
 cr:Binds K t.bO ["self"] []
 bL:Meth K t.ai "grow" t.bc
 ge:Fun K "show_and_see" "Side.show_and_see" Ax t.bd t.bu
 bD:Binds K t.bu ["self","moment","choice","other_sign"] []
 bG:Meth K t.ai "show_and_see" t.bd
 iq:Fun K "__init__" "Ferry.__init__" Ay t.aY t.bK
 cO:Binds K t.bK ["self","k","stages"] []
 iS:Meth K t.aq "__init__" t.aY
 gU:Fun K "ring_giver" "Ferry.ring_giver" Az t.bI t.cA
 dM:Binds K t.cA ["self","moment","choice","word"] []
 fK:Meth K t.aq "ring_giver" t.bI
 fi:Fun K "ring_taker" "Ferry.ring_taker" AA t.cm t.bV
 dR:Binds K t.bV ["self","moment","choice","wished"] []
 cM:Meth K t.aq "ring_taker" t.cm
 aA:FnT K mg "parts_within" ["T"] AB t.fQ t.gP
 aB:FnT K mg "size_of" ["T"] AC t.ik t.dU
 aw:FnT K mg "names_read" ["T"] AD t.e9 t.gX
 aL:FnT K mg "vars_in" ["T"] AE t.du t.ee
 aN:FnT K mg "worth_of_two" ["form","left","right","width"] AF t.gQ t.gK
 ae:FnT K mg "worth" ["T","width","words"] AG t.ft t.ef
 cu:FnT K mg "wish" ["width","steps","number","words"] AH t.cY t.gM
 aQ:FnT K mg "number_after" ["width","steps","number","words"] AI t.fh t.fG
 aK:FnT K mg "words_after" ["width","step","words","word"] AJ t.dj t.iD
 bW:FnT K mg "after" ["width","steps","number","words","word"] AK t.dQ t.gB
 cf:FnT K mg "is_name" ["text"] AL t.eU t.eG
 aM:FnT K mg "refuse_name" ["text","earlier"] AM t.gI t.cT
 ao:FnT K mg "refuse_unknown" ["name","known"] AN t.bw t.bg
 aR:FnT K mg "refuse_ferry_names" ["ferries"] AO t.eW t.dk
 bP:FnT K mg "refuse_variables" ["width","pairs"] AQ t.cD t.dD
 bN:FnT K mg "refuse_term" ["T","known"] AR t.dt t.dG
 cw:FnT K mg "refuse_step" ["step","known","count","ferry_names"] AS t.ip t.cQ
 bH:FnT K mg "refuse_island" ["width","island","ferry_names"] AT t.dH t.dJ
 aJ:FnT K mg "refuse_islands" ["width","islands","ferry_names"] AU t.gO t.gA
 aI:FnT K mg "refuse_ferry" ["ferry","island_names"] AV t.cK t.cI
 bB:FnT K mg "refuse_wrong_end" ["name","step","givers","takers"] AW t.eQ t.dE
 aO:FnT K mg "refuse_wrong_ends" ["islands","ferries"] AX t.cS t.fH
 ak:FnT K mg "frozen" ["value"] AY t.i9 t.dL
 cq:FnT K mg "made" ["width","islands","ferries"] AZ t.dO t.de
 ci:FnT K mg "one_called" ["row","name"] B0 t.dI t.gq
 bj:FnT K mg "island_of" ["world","name"] B1 t.ia t.eh
 bJ:FnT K mg "what_alone" ["asked"] B7 t.dA t.fz
 bZ:FnT K mg "is_wish_of" ["asked","ferry_name"] Ba t.i0 t.iF
 aE:FnT K mg "looked_up" ["named","name"] Bb t.ei t.dF
 dX:Fun K "__init__" "Run.__init__" Bc t.aZ t.ck
 fY:Binds K t.ck ["self","world"] []
 iT:Meth K t.aa "__init__" t.aZ
 cL:Fun K "ring" "Run.ring" Bd t.b9 t.bm
 gc:Binds K t.bm ["self","name","choice"] []
 iN:Meth K t.aa "ring" t.b9
 iE:Fun K "ring_ferry" "Run.ring_ferry" Be t.bh t.bv
 fT:Binds K t.bv ["self","ferry","name","choice","asked"] []
 fP:Meth K t.aa "ring_ferry" t.bh
 fk:Fun K "go_on" "Run.go_on" Bf t.bR t.bU
 fS:Binds K t.bU ["self","name","steps","word"] []
 dm:Meth K t.aa "go_on" t.bR
 gJ:Fun K "number" "Run.number" Bg t.bf t.cb
 iJ:Binds K t.cb ["self","name"] []
 iH:Meth K t.aa "number" t.bf
 fM:Fun K "words" "Run.words" Bh t.bp t.bQ
 gZ:Binds K t.bQ ["self","name"] []
 iO:Meth K t.aa "words" t.bp
 iu:Fun K "steps_done" "Run.steps_done" Bi t.bY t.cy
 fJ:Binds K t.cy ["self","name"] []
 hV:Meth K t.aa "steps_done" t.bY
 cN:Fun K "given" "Run.given" Bj t.bT t.c8
 iI:Binds K t.c8 ["self","name"] []
 cU:Meth K t.aa "given" t.bT
 gL:Fun K "taken" "Run.taken" Bk t.cj t.cc
 cV:Binds K t.cc ["self","name"] []
 hZ:Meth K t.aa "taken" t.cj
 aX:FnT K mg "_law_cell_at" ["script","k"] Bl t.fj t.cJ
 b7:FnT K mg "_law_name" ["number","k"] Bm t.iQ t.fF
 bC:FnT K mg "_law_term" ["number","names"] Bn t.i8 t.fI
 cx:FnT K mg "_law_step" ["number","name","names","ferries","many"] Bo t.gh t.dl
 bb:FnT K mg "_law_island" ["number","k","naming","ferries","around"] Bp t.fA t.eD
 ce:FnT K mg "_law_things" ["script","around"] Bq t.dz t.fw
 b8:FnT K mg "_law_rings" ["cells","islands"] Br t.fX t.gg
 bF:FnT K mg "_law_begins" ["one","other"] Bs t.ib t.gR
 fZ:FnT K mg "law" ["script"] Bt t.fV t.dZ
 ag:Xy K Xp "Side"=some (some (.ref t.ai))
 fu:mg "Side"=some (.ref t.ai)
 aj:Cls K t.ai
 dc:Mk K t.ai t.aW
 eL:NoAttr K t.ai "turn"
 cW:NoAttr K t.ai "total"
 ic:NoAttr K t.ai "sign"
 fO:NoAttr K t.ai "sight"
 aC:Xy K Xp "Ferry"=some (some (.ref t.aq))
 iG:mg "Ferry"=some (.ref t.aq)
 aH:Cls K t.aq
 gG:Mk K t.aq t.aY
 dS:NoAttr K t.aq "places"
 dY:NoAttr K t.aq "giver"
 gN:NoAttr K t.aq "taker"
 ab:Xy K Xp "Run"=some (some (.ref t.aa))
 cB:mg "Run"=some (.ref t.aa)
 ac:Cls K t.aa
 di:Mk K t.aa t.aZ
 gS:NoAttr K t.aa "world"
 iB:NoAttr K t.aa "moment"
 fc:NoAttr K t.aa "next_numbers"
 dg:NoAttr K t.aa "words_now"
 iL:NoAttr K t.aa "steps_so_far"
 fL:NoAttr K t.aa "boats"
 eX:NoAttr K t.aa "given_so_far"
 iM:NoAttr K t.aa "taken_so_far"
 ii:mg "all"=none
 cG:mg "bool"=none
 dW:mg "dict"=none
 eJ:mg "int"=none
 cR:mg "isinstance"=none
 iy:mg "len"=none
 dr:mg "list"=none
 dC:mg "max"=none
 cE:mg "min"=none
 cH:mg "range"=none
 eE:mg "set"=none
 ga:mg "sorted"=none
 cF:mg "tuple"=none
 fN:∃tk,mg "MOST_WIDTH"=some (.int 64 tk)
 fW:∃tk,mg "MOST_LETTERS"=some (.int 8 tk)
 il:∃tk,mg "MOST_ISLANDS"=some (.int 5 tk)
 d0:∃tk,mg "MOST_FERRIES"=some (.int 6 tk)
 df:∃tk,mg "MOST_VARS"=some (.int 6 tk)
 eB:∃tk,mg "MOST_STEPS"=some (.int 12 tk)
 iw:∃tk,mg "MOST_PARTS"=some (.int 30 tk)
 eK:∃tk,mg "MOST_DEPTH"=some (.int 8 tk)
 iC:∃tk,mg "MOST_K"=some (.int 3 tk)
 eC:∃tk,mg "MOST_STAGES"=some (.int 3 tk)
 eY:∃tk,mg "BITS_A_FERRY"=some (.int 8 tk)
theorem _fT:FnScope ["value"] ["value"] (X5 Af):=mkSc
theorem _fS:FnScope ["number"] ["number"] (X5 Ag):=mkSc
theorem _iD:FnScope ["exponent","answer","k"] ["exponent"] (X5 Ah):=mkSc
theorem _n1:FnScope ["width","number"] ["width","number"] (X5 Ai):=mkSc
theorem _pf:FnScope ["width","number"] ["width","number"] (X5 Aj):=mkSc
theorem _n2:FnScope ["old","new","choice"] ["old","new","choice"] (X5 Ak):=mkSc
theorem _hB:FnScope ["n"] ["n"] (X5 Al):=mkSc
theorem _er:FnScope ["word","n","above"] ["word"] (X5 Am):=mkSc
theorem _dF:FnScope ["word"] ["word"] (X5 An):=mkSc
theorem _kN:FnScope ["sign","word","moment"] ["sign","word","moment"] (X5 Ao):=mkSc
theorem _cq:FnScope ["word","stages"] ["word","stages"] (X5 Ap):=mkSc
theorem _hz:FnScope ["sign","since","choice"] ["sign","since","choice"] (X5 Aq):=mkSc
theorem _kO:FnScope ["sight","word"] ["sight","word"] (X5 Ar):=mkSc
theorem _mZ:FnScope ["sight"] ["sight"] (X5 As):=mkSc
theorem _aJ:FnScope ["self","turn","stages"] ["self","turn","stages"] (X5 At):=mkSc
theorem _8p:FnScope ["self"] ["self"] (X5 Au):=mkSc
theorem _5F:FnScope ["self"] ["self"] (X5 Av):=mkSc
theorem _ey:FnScope ["self"] ["self"] (X5 Aw):=mkSc
theorem _71:FnScope ["self","moment","choice","other_sign","seen"] ["self","moment","choice","other_sign"] (X5 Ax):=mkSc
theorem _9k:FnScope ["self","k","stages"] ["self","k","stages"] (X5 Ay):=mkSc
theorem _83:FnScope ["self","moment","choice","word","words","gives"] ["self","moment","choice","word"] (X5 Az):=mkSc
theorem _82:FnScope ["self","moment","choice","wished","word","place"] ["self","moment","choice","wished"] (X5 AA):=mkSc
theorem _bc:FnScope ["T"] ["T"] (X5 AB):=mkSc
theorem _hy:FnScope ["T","parts","deepest","part","size"] ["T"] (X5 AC):=mkSc
theorem _dD:FnScope ["T","names","part"] ["T"] (X5 AD):=mkSc
theorem _hx:FnScope ["T"] ["T"] (X5 AE):=mkSc
theorem _ba:FnScope ["form","left","right","width"] ["form","left","right","width"] (X5 AF):=mkSc
theorem _kM:FnScope ["T","width","words","first"] ["T","width","words"] (X5 AG):=mkSc
theorem _mY:FnScope ["width","steps","number","words","step"] ["width","steps","number","words"] (X5 AH):=mkSc
theorem _bd:FnScope ["width","steps","number","words","step"] ["width","steps","number","words"] (X5 AI):=mkSc
theorem _cm:FnScope ["width","step","words","word","behind"] ["width","step","words","word"] (X5 AJ):=mkSc
theorem _kP:FnScope ["width","steps","number","words","word"] ["width","steps","number","words","word"] (X5 AK):=mkSc
theorem _hA:FnScope ["text"] ["text"] (X5 AL):=mkSc
theorem _cp:FnScope ["text","earlier"] ["text","earlier"] (X5 AM):=mkSc
theorem KQ:FnScope ["name","known"] ["name","known"] (X5 AN):=mkSc
theorem _5E:FnScope ["ferries","earlier","ferry"] ["ferries"] (X5 AO):=mkSc
theorem _81:FnScope ["width","pairs","earlier","pair","name"] ["width","pairs"] (X5 AQ):=mkSc
theorem _cn:FnScope ["T","known","size","name"] ["T","known"] (X5 AR):=mkSc
theorem _co:FnScope ["step","known","count","ferry_names"] ["step","known","count","ferry_names"] (X5 AS):=mkSc
theorem _aI:FnScope ["width","island","ferry_names","known","step"] ["width","island","ferry_names"] (X5 AT):=mkSc
theorem _9h:FnScope ["width","islands","ferry_names","earlier","island"] ["width","islands","ferry_names"] (X5 AU):=mkSc
theorem _bb:FnScope ["ferry","island_names"] ["ferry","island_names"] (X5 AV):=mkSc
theorem _80:FnScope ["name","step","givers","takers"] ["name","step","givers","takers"] (X5 AW):=mkSc
theorem _70:FnScope ["islands","ferries","givers","takers","island","step"] ["islands","ferries"] (X5 AX):=mkSc
theorem KR:FnScope ["value"] ["value"] (X5 AY):=mkSc
theorem _n0:FnScope ["width","islands","ferries","island_names","ferry"] ["width","islands","ferries"] (X5 AZ):=mkSc
theorem _dC:FnScope ["row","name","one"] ["row","name"] (X5 B0):=mkSc
theorem _et:FnScope ["world","name"] ["world","name"] (X5 B1):=mkSc
theorem _dB:FnScope ["asked"] ["asked"] (X5 B7):=mkSc
theorem _dE:FnScope ["asked","ferry_name"] ["asked","ferry_name"] (X5 Ba):=mkSc
theorem _es:FnScope ["named","name"] ["named","name"] (X5 Bb):=mkSc
theorem _bf:FnScope ["self","world"] ["self","world"] (X5 Bc):=mkSc
theorem _fU:FnScope ["self","name","choice","steps","number","asked","what","samples","j","ferry","told"] ["self","name","choice"] (X5 Bd):=mkSc
theorem _9j:FnScope ["self","ferry","name","choice","asked","boat","wished","told"] ["self","ferry","name","choice","asked"] (X5 Be):=mkSc
theorem _eB:FnScope ["self","name","steps","word","went"] ["self","name","steps","word"] (X5 Bf):=mkSc
theorem _dH:FnScope ["self","name"] ["self","name"] (X5 Bg):=mkSc
theorem _ez:FnScope ["self","name"] ["self","name"] (X5 Bh):=mkSc
theorem _9i:FnScope ["self","name"] ["self","name"] (X5 Bi):=mkSc
theorem _eC:FnScope ["self","name"] ["self","name"] (X5 Bj):=mkSc
theorem _eA:FnScope ["self","name"] ["self","name"] (X5 Bk):=mkSc
theorem _be:FnScope ["script","k"] ["script","k"] (X5 Bl):=mkSc
theorem _ex:FnScope ["number","k","letters","fill","other","long","at","sign"] ["number","k"] (X5 Bm):=mkSc
theorem _ev:FnScope ["number","names","one","other"] ["number","names"] (X5 Bn):=mkSc
theorem _ew:FnScope ["number","name","names","ferries","many","takes","gives","rest"] ["number","name","names","ferries","many"] (X5 Bo):=mkSc
theorem _cs:FnScope ["number","k","naming","ferries","around","name","names","pairs","many","ending","steps","j"] ["number","k","naming","ferries","around"] (X5 Bp):=mkSc
theorem _cr:FnScope ["script","around","head","naming","width","many","ferries","k","number","giver","taker","ends","islands"] ["script","around"] (X5 Bq):=mkSc
theorem _dG:FnScope ["cells","islands","rings","cell"] ["cells","islands"] (X5 Br):=mkSc
theorem _ct:FnScope ["one","other","many"] ["one","other"] (X5 Bs):=mkSc
theorem _pe:FnScope ["script","width","islands","ferries","world","one","other","rings","turned","k","ferry","island","name"] ["script"] (X5 Bt):=mkSc
noncomputable def GB:List Str:=["all","bool","dict","int","isinstance","len","list","max","min","range","set","sorted","tuple"]
noncomputable def GL:List (Str×Int):=[("MOST_WIDTH",64),("MOST_LETTERS",8),("MOST_ISLANDS",5),("MOST_FERRIES",6),("MOST_VARS",6),("MOST_STEPS",12),("MOST_PARTS",30),("MOST_DEPTH",8),("MOST_K",3),("MOST_STAGES",3),("BITS_A_FERRY",8)]
theorem _O{K:X4}{mg:Str->Option X0}{t:Adr}(T:Txt K mg t):∀x∈GB,mg x=none:=(fMc ⟨T.ii,(fMc ⟨T.cG,(fMc ⟨T.dW,(fMc ⟨T.eJ,(fMc ⟨T.cR,(fMc ⟨T.iy,(fMc ⟨T.dr,(fMc ⟨T.dC,(fMc ⟨T.cE,(fMc ⟨T.cH,(fMc ⟨T.eE,(fMc ⟨T.ga,(fMc ⟨T.cF,nl0⟩)⟩)⟩)⟩)⟩)⟩)⟩)⟩)⟩)⟩)⟩)⟩)⟩)
theorem _P{K:X4}{mg:Str->Option X0}{t:Adr}(T:Txt K mg t):∀p∈GL,∃tk,mg p.1=some (.int p.2 tk):=(fMc ⟨T.fN,(fMc ⟨T.fW,(fMc ⟨T.il,(fMc ⟨T.d0,(fMc ⟨T.df,(fMc ⟨T.eB,(fMc ⟨T.iw,(fMc ⟨T.eK,(fMc ⟨T.iC,(fMc ⟨T.eC,(fMc ⟨T.eY,nl0⟩)⟩)⟩)⟩)⟩)⟩)⟩)⟩)⟩)⟩)⟩)
noncomputable def GC:List (Str×Str):=[("Side","turn"),("Side","total"),("Side","sign"),("Side","sight"),("Ferry","places"),("Ferry","giver"),("Ferry","taker"),("Run","world"),("Run","moment"),("Run","next_numbers"),("Run","words_now"),("Run","steps_so_far"),("Run","boats"),("Run","given_so_far"),("Run","taken_so_far")]
theorem _Q{K:X4}{mg:Str->Option X0}{t:Adr}(T:Txt K mg t):∀q∈GC,∃C,Xy K Xp q.1=some (some (.ref C))/\Cls K C/\NoAttr K C q.2:=(fMc ⟨⟨_,T.ag,T.aj,T.eL⟩,(fMc ⟨⟨_,T.ag,T.aj,T.cW⟩,(fMc ⟨⟨_,T.ag,T.aj,T.ic⟩,(fMc ⟨⟨_,T.ag,T.aj,T.fO⟩,(fMc ⟨⟨_,T.aC,T.aH,T.dS⟩,(fMc ⟨⟨_,T.aC,T.aH,T.dY⟩,(fMc ⟨⟨_,T.aC,T.aH,T.gN⟩,(fMc ⟨⟨_,T.ab,T.ac,T.gS⟩,(fMc ⟨⟨_,T.ab,T.ac,T.iB⟩,(fMc ⟨⟨_,T.ab,T.ac,T.fc⟩,(fMc ⟨⟨_,T.ab,T.ac,T.dg⟩,(fMc ⟨⟨_,T.ab,T.ac,T.iL⟩,(fMc ⟨⟨_,T.ab,T.ac,T.fL⟩,(fMc ⟨⟨_,T.ab,T.ac,T.eX⟩,(fMc ⟨⟨_,T.ab,T.ac,T.iM⟩,nl0⟩)⟩)⟩)⟩)⟩)⟩)⟩)⟩)⟩)⟩)⟩)⟩)⟩)⟩)⟩)
theorem fE{P:Xw}{w:Xm}{K:X4}{mg:Str->Option X0}{base:Heap}{x:Str}{ps:List Str}{st:Stmt}{f:Addr}{d:Xb}(h:FnT K mg x ps st f d){j k:Nat}{sp:SpM}(o:FnOk P w K mg base CX0 j f d ps (liSp K sp))(l:j<=k:=by decide):∃u y ps,FnOk P w K mg base CX0 k u y ps (liSp K sp)/\mg x=some (.ref u)/\YI K (.ref u)=true/\Binds K y ps []:=⟨_,_,_,o.mono l,h.m,h.F.kp,h.b⟩
theorem fC{P:Xw}{w:Xm}{K:X4}{mg:Str->Option X0}{base:Heap}{t:Adr}(T:Txt K mg t){k:Nat}{G:GI}{Φ:List (Str×SpM)}(e:Φ.map (·.1)=G.fns)(u:∀p∈Φ,MonW p.2)(y:∀p∈Φ,∃j l ps,FnOk P w K mg base CX0 k j l ps (liSp K p.2)/\mg p.1=some (.ref j)/\YI K (.ref j)=true/\Binds K l ps [])
  (b:G.bl=GB:=by rfl)(g:G.gl=GL:=by rfl)(c:G.cls=GC:=by rfl)(m:G.mts=[]:=by rfl)(n:G.mks=[]:=by rfl):Fts P w K mg base k G Φ:=
 _N (Vu Φ) (b▸_O T) (g▸_P T) e u y (by rw[m];exact λ_ h=>nomatch h) (by rw[n];exact λ_ h=>nomatch h) (c▸_Q T)
noncomputable def KS:ISs:=.cons (.ret (.and (.bi .isinst (.var 0) (.cons (.ty .int) .nil)) (.not (.bi .isinst (.var 0) (.cons (.ty .bool) .nil))))) .nil
abbrev EZ:ISs:=KS
def KU:GI:=⟨GB,GL,[],[],[],GC⟩
theorem _gv:chkSs KU (X5 Af) ["value"] EZ (Xh Af)=true:=by decide+kernel
noncomputable def KW:ISs:=.cons (.ret (.and (.call 0 (.var 0) .nil) (.chn .LtE .LtE (.int 1) (.var 0) (.glb "MOST_WIDTH" 64)))) .nil
abbrev F0:ISs:=KW
def KY:GI:=⟨GB,GL,["is_whole"],[],[],GC⟩
theorem _gu:chkSs KY (X5 Ag) ["number"] F0 (Xh Ag)=true:=by decide+kernel
noncomputable def KZ:ISs:=.cons (.ret (.var 1)) .nil
noncomputable def L0:ISs:=.cons (.set 1 (.bin .Mult (.var 1) (.int 2))) .nil
def L1:ISs:=.cons (.for_ (.nm 2) (.rng (.var 0)) L0) KZ
def L3:ISs:=.cons (.set 1 (.int 1)) L1
abbrev F1:ISs:=L3
def L4:GI:=⟨GB,GL,[],[],[],GC⟩
theorem _k2:chkSs L4 (X5 Ah) ["exponent","answer","k"] F1 (Xh Ah)=true:=by decide+kernel
noncomputable def L5:ISs:=.cons (.ret (.and (.call 0 (.var 1) .nil) (.chn .LtE .Lt (.int 0) (.var 1) (.call 1 (.var 0) .nil)))) .nil
abbrev F2:ISs:=L5
def L6:GI:=⟨GB,GL,["is_whole","two_to"],[],[],GC⟩
theorem _oF:chkSs L6 (X5 Ai) ["width","number"] F2 (Xh Ai)=true:=by decide+kernel
noncomputable def L7:ISs:=.cons (.ret (.bin .Mod (.var 1) (.call 0 (.var 0) .nil))) .nil
abbrev F3:ISs:=L7
def L8:GI:=⟨GB,GL,["two_to"],[],[],GC⟩
theorem _qO:chkSs L8 (X5 Aj) ["width","number"] F3 (Xh Aj)=true:=by decide+kernel
noncomputable def L9:ISs:=.cons (.ret (.bin .BitXor (.var 0) (.bin .BitAnd (.bin .BitXor (.var 0) (.var 1)) (.var 2)))) .nil
abbrev F4:ISs:=L9
def La:GI:=⟨GB,GL,[],[],[],GC⟩
theorem _oG:chkSs La (X5 Ak) ["old","new","choice"] F4 (Xh Ak)=true:=by decide+kernel
noncomputable def Lb:ISs:=.cons (.ret (.bin .BitXor (.var 0) (.bin .FloorDiv (.var 0) (.int 2)))) .nil
abbrev F5:ISs:=Lb
def Lc:GI:=⟨GB,GL,[],[],[],GC⟩
theorem _i7:chkSs Lc (X5 Al) ["n"] F5 (Xh Al)=true:=by decide+kernel
noncomputable def Ld:ISs:=.cons (.ret (.var 1)) .nil
noncomputable def Lf:ISs:=.cons (.set 2 (.bin .FloorDiv (.var 2) (.int 2))) .nil
def Lg:ISs:=.cons (.set 1 (.bin .BitXor (.var 1) (.var 2))) Lf
def Lh:ISs:=.cons (.while_ (.cmp .Gt (.var 2) (.int 0)) Lg) Ld
def Li:ISs:=.cons (.set 2 (.bin .FloorDiv (.var 0) (.int 2))) Lh
def Lj:ISs:=.cons (.set 1 (.var 0)) Li
abbrev F6:ISs:=Lj
def Lk:GI:=⟨GB,GL,[],[],[],GC⟩
theorem _fl:chkSs Lk (X5 Am) ["word","n","above"] F6 (Xh Am)=true:=by decide+kernel
noncomputable def Ll:ISs:=.cons (.ret (.tup (.cons (.var 0) (.cons (.var 0) (.cons (.neg (.int 1)) .nil))))) .nil
abbrev F7:ISs:=Ll
def Lm:GI:=⟨GB,GL,[],[],[],GC⟩
theorem _ec:chkSs Lm (X5 An) ["word"] F7 (Xh An)=true:=by decide+kernel
noncomputable def Ln:ISs:=.cons (.ret (.tup (.cons (.var 1) (.cons (.ix (.var 0) (.int 0)) (.cons (.var 2) .nil))))) .nil
abbrev F8:ISs:=Ln
def Lo:GI:=⟨GB,GL,[],[],[],GC⟩
theorem _lE:chkSs Lo (X5 Ao) ["sign","word","moment"] F8 (Xh Ao)=true:=by decide+kernel
noncomputable def Lp:ISs:=.cons (.ret (.bin .Mult (.tup (.cons (.var 0) .nil)) (.var 1))) .nil
abbrev F9:ISs:=Lp
def Lq:GI:=⟨GB,GL,[],[],[],GC⟩
theorem _cQ:chkSs Lq (X5 Ap) ["word","stages"] F9 (Xh Ap)=true:=by decide+kernel
noncomputable def Lr:ISs:=.cons (.ret (.ix (.var 0) (.int 0))) .nil
noncomputable def Ls:ISs:=.cons (.ret (.call 0 (.ix (.var 0) (.int 1)) (.cons (.ix (.var 0) (.int 0)) (.cons (.var 2) .nil)))) .nil
def Lu:ISs:=.cons (.ite (.cmp .Gt (.ix (.var 0) (.int 2)) (.var 1)) Ls .nil) Lr
abbrev Fa:ISs:=Lu
def Lv:GI:=⟨GB,GL,["amid"],[],[],GC⟩
theorem _i5:chkSs Lv (X5 Aq) ["sign","since","choice"] Fa (Xh Aq)=true:=by decide+kernel
noncomputable def Lw:ISs:=.cons (.ret (.sl (.bin .Add (.tup (.cons (.var 1) .nil)) (.var 0)) .none (.some (.neg (.int 1))))) .nil
abbrev Fb:ISs:=Lw
def Lx:GI:=⟨GB,GL,[],[],[],GC⟩
theorem _lF:chkSs Lx (X5 Ar) ["sight","word"] Fb (Xh Ar)=true:=by decide+kernel
noncomputable def Ly:ISs:=.cons (.ret (.ix (.var 0) (.neg (.int 1)))) .nil
abbrev Fc:ISs:=Ly
def Lz:GI:=⟨GB,GL,[],[],[],GC⟩
theorem _oD:chkSs Lz (X5 As) ["sight"] Fc (Xh As)=true:=by decide+kernel
noncomputable def LA:ISs:=.cons (.fset "Side" (.var 0) "sight" (.call 1 (.call 0 (.int 0) .nil) (.cons (.var 2) .nil))) .nil
def LB:ISs:=.cons (.fset "Side" (.var 0) "sign" (.call 2 (.call 0 (.int 0) .nil) .nil)) LA
def LC:ISs:=.cons (.fset "Side" (.var 0) "total" (.int 0)) LB
def LD:ISs:=.cons (.fset "Side" (.var 0) "turn" (.var 1)) LC
abbrev Fd:ISs:=LD
def LF:GI:=⟨GB,GL,["code_of","first_sight","first_sign"],[],[],GC⟩
theorem _aU:chkSs LF (X5 At) ["self","turn","stages"] Fd (Xh At)=true:=by decide+kernel
noncomputable def LG:ISs:=.cons (.ret (.ix (.fld "Side" (.var 0) "sign") (.int 2))) .nil
abbrev Fe:ISs:=LG
def LH:GI:=⟨GB,GL,[],[],[],GC⟩
theorem _93:chkSs LH (X5 Au) ["self"] Fe (Xh Au)=true:=by decide+kernel
noncomputable def LI:ISs:=.cons (.ret (.bin .Mod (.bin .Sub (.fld "Side" (.var 0) "total") (.call 0 (.call 1 (.fld "Side" (.var 0) "sight") .nil) .nil)) (.fld "Side" (.var 0) "turn"))) .nil
abbrev Ff:ISs:=LI
def LJ:GI:=⟨GB,GL,["number_of","used"],[],[],GC⟩
theorem _6M:chkSs LJ (X5 Av) ["self"] Ff (Xh Av)=true:=by decide+kernel
noncomputable def LK:ISs:=.cons (.fset "Side" (.var 0) "total" (.bin .Add (.fld "Side" (.var 0) "total") (.int 1))) .nil
abbrev Fg:ISs:=LK
def LL:GI:=⟨GB,GL,[],[],[],GC⟩
theorem _fs:chkSs LL (X5 Aw) ["self"] Fg (Xh Aw)=true:=by decide+kernel
noncomputable def LM:ISs:=.cons (.ret (.var 4)) .nil
def LN:ISs:=.cons (.fset "Side" (.var 0) "sight" (.call 1 (.fld "Side" (.var 0) "sight") (.cons (.var 4) .nil))) LM
def LO:ISs:=.cons (.fset "Side" (.var 0) "sign" (.call 3 (.fld "Side" (.var 0) "sign") (.cons (.call 0 (.bin .Mod (.fld "Side" (.var 0) "total") (.fld "Side" (.var 0) "turn")) .nil) (.cons (.var 1) .nil)))) LN
def LP:ISs:=.cons (.set 4 (.call 2 (.var 3) (.cons (.mcall 4 "Side" "ring_ahead" (.var 0) .nil) (.cons (.var 2) .nil)))) LO
abbrev Fh:ISs:=LP
def LQ:GI:=⟨GB,GL,["code_of","moved","sampled","shown"],[(4,"Side","ring_ahead")],[],GC⟩
theorem _76:chkSs LQ (X5 Ax) ["self","moment","choice","other_sign","seen"] Fh (Xh Ax)=true:=by decide+kernel
noncomputable def LR:ISs:=.cons (.fset "Ferry" (.var 0) "taker" (.make 2 "Side" (.call 1 (.bin .Add (.var 1) (.int 1)) .nil) (.cons (.var 2) .nil))) .nil
def LS:ISs:=.cons (.fset "Ferry" (.var 0) "giver" (.make 2 "Side" (.call 1 (.bin .Add (.var 1) (.int 1)) .nil) (.cons (.var 2) .nil))) LR
def LU:ISs:=.cons (.fset "Ferry" (.var 0) "places" (.bin .Mult (.lst (.cons (.call 0 (.int 0) .nil) .nil)) (.call 1 (.var 1) .nil))) LS
abbrev Fi:ISs:=LU
def LV:GI:=⟨GB,GL,["first_sign","two_to"],[],[(2,"Side")],GC⟩
theorem _9E:chkSs LV (X5 Ay) ["self","k","stages"] Fi (Xh Ay)=true:=by decide+kernel
noncomputable def LW:ISs:=.cons (.ret (.tup (.cons (.var 5) (.cons (.mcall 3 "Side" "show_and_see" (.fld "Ferry" (.var 0) "giver") (.cons (.var 1) (.cons (.var 2) (.cons (.fld "Side" (.fld "Ferry" (.var 0) "taker") "sign") .nil)))) .nil)))) .nil
def Fj:ISs:=.cons (.fset "Ferry" (.var 0) "places" (.comp ["k"] [1,4,0] (.rng (.bi .len (.var 4) .nil)) (.nm 0) .none (.call 0 (.ix (.fld "Ferry" (.var 3) "places") (.var 0)) (.cons (.ix (.var 2) (.var 0)) (.cons (.var 1) .nil))))) LW
noncomputable def LX:ISs:=.cons (.expr (.mcall 1 "Side" "grow" (.fld "Ferry" (.var 0) "giver") .nil)) .nil
def LY:ISs:=.cons (.put (.var 4) (.bin .Mod (.fld "Side" (.fld "Ferry" (.var 0) "giver") "total") (.bi .len (.var 4) .nil)) (.var 3)) LX
def Fk:ISs:=.cons (.ite (.var 5) LY .nil) Fj
def LZ:ISs:=.cons (.set 5 (.and (.cmp .IsNot (.var 3) .non) (.cmp .Lt (.mcall 2 "Side" "less_the_seen" (.fld "Ferry" (.var 0) "giver") .nil) (.bi .len (.var 4) .nil)))) Fk
def Mb:ISs:=.cons (.set 4 (.comp ["place"] [] (.seq (.fld "Ferry" (.var 0) "places")) (.nm 0) .none (.ix (.var 0) (.int 0)))) LZ
abbrev Fl:ISs:=Mb
def Mc:GI:=⟨GB,GL,["shown"],[(1,"Side","grow"),(2,"Side","less_the_seen"),(3,"Side","show_and_see")],[],GC⟩
theorem _8l:chkSs Mc (X5 Az) ["self","moment","choice","word","words","gives"] Fl (Xh Az)=true:=by decide+kernel
noncomputable def Fm:ISs:=.cons (.ret (.tup (.cons (.var 4) (.cons (.mcall 4 "Side" "show_and_see" (.fld "Ferry" (.var 0) "taker") (.cons (.var 1) (.cons (.var 2) (.cons (.fld "Side" (.fld "Ferry" (.var 0) "giver") "sign") .nil)))) .nil)))) .nil
noncomputable def Md:ISs:=.cons (.expr (.mcall 1 "Side" "grow" (.fld "Ferry" (.var 0) "taker") .nil)) .nil
def Me:ISs:=.cons (.set 4 (.call 0 (.var 5) (.cons (.mcall 3 "Side" "ring_ahead" (.fld "Ferry" (.var 0) "taker") .nil) (.cons (.var 2) .nil)))) Md
def Mf:ISs:=.cons (.set 5 (.ix (.fld "Ferry" (.var 0) "places") (.bin .Mod (.fld "Side" (.fld "Ferry" (.var 0) "taker") "total") (.bi .len (.fld "Ferry" (.var 0) "places") .nil)))) Me
def Mg:ISs:=.cons (.ite (.and (.var 3) (.cmp .NotEq (.mcall 2 "Side" "less_the_seen" (.fld "Ferry" (.var 0) "taker") .nil) (.int 0))) Mf .nil) Fm
def Mh:ISs:=.cons (.set 4 .non) Mg
abbrev Fn:ISs:=Mh
def Mi:GI:=⟨GB,GL,["sampled"],[(1,"Side","grow"),(2,"Side","less_the_seen"),(3,"Side","ring_ahead"),(4,"Side","show_and_see")],[],GC⟩
theorem _8k:chkSs Mi (X5 AA) ["self","moment","choice","wished","word","place"] Fn (Xh AA)=true:=by decide+kernel
noncomputable def Fo:ISs:=.cons (.ret (.bi .list (.sl (.var 0) (.some (.int 1)) .none) .nil)) .nil
noncomputable def Fp:ISs:=.cons (.ret (.lst .nil)) .nil
def Mj:ISs:=.cons (.ite (.or (.cmp .Eq (.ix (.var 0) (.int 0)) (.str "num")) (.cmp .Eq (.ix (.var 0) (.int 0)) (.str "var"))) Fp .nil) Fo
abbrev Fq:ISs:=Mj
def Ml:GI:=⟨GB,GL,[],[],[],GC⟩
theorem _c3:chkSs Ml (X5 AB) ["T"] Fq (Xh AB)=true:=by decide+kernel
noncomputable def Mm:ISs:=.cons (.ret (.tup (.cons (.var 1) (.cons (.bin .Add (.var 2) (.int 1)) .nil)))) .nil
noncomputable def Mn:ISs:=.cons (.set 2 (.bi .max (.var 2) (.cons (.ix (.var 4) (.int 1)) .nil))) .nil
def Mo:ISs:=.cons (.set 1 (.bin .Add (.var 1) (.ix (.var 4) (.int 0)))) Mn
def Mp:ISs:=.cons (.set 4 (.call 1 (.var 3) .nil)) Mo
def Mq:ISs:=.cons (.for_ (.nm 3) (.seq (.call 0 (.var 0) .nil)) Mp) Mm
def Mr:ISs:=.cons (.set 2 (.int 0)) Mq
def Ms:ISs:=.cons (.set 1 (.int 1)) Mr
abbrev Ft:ISs:=Ms
def Mt:GI:=⟨GB,GL,["parts_within","size_of"],[],[],GC⟩
theorem _i4:chkSs Mt (X5 AC) ["T","parts","deepest","part","size"] Ft (Xh AC)=true:=by decide+kernel
noncomputable def Mu:ISs:=.cons (.ret (.var 1)) .nil
noncomputable def Mv:ISs:=.cons (.expr (.mt .extend (.var 1) (.cons (.call 0 (.var 2) .nil) .nil))) .nil
def Mw:ISs:=.cons (.for_ (.nm 2) (.seq (.call 1 (.var 0) .nil)) Mv) Mu
def Fu:ISs:=.cons (.set 1 (.lst .nil)) Mw
noncomputable def Mx:ISs:=.cons (.ret (.lst (.cons (.ix (.var 0) (.int 1)) .nil))) .nil
def Mz:ISs:=.cons (.ite (.cmp .Eq (.ix (.var 0) (.int 0)) (.str "var")) Mx .nil) Fu
abbrev Fv:ISs:=Mz
def MA:GI:=⟨GB,GL,["names_read","parts_within"],[],[],GC⟩
theorem _ea:chkSs MA (X5 AD) ["T","names","part"] Fv (Xh AD)=true:=by decide+kernel
noncomputable def MB:ISs:=.cons (.ret (.b2 .ssrt (.call 0 (.var 0) .nil))) .nil
abbrev Fw:ISs:=MB
def MC:GI:=⟨GB,GL,["names_read"],[],[],GC⟩
theorem _i3:chkSs MC (X5 AE) ["T"] Fw (Xh AE)=true:=by decide+kernel
noncomputable def MD:ISs:=.cons (.ret (.ife (.cmp .Eq (.var 1) (.var 2)) (.int 1) (.int 0))) .nil
noncomputable def ME:ISs:=.cons (.ret (.ife (.cmp .Lt (.var 1) (.var 2)) (.int 1) (.int 0))) .nil
def Fy:ISs:=.cons (.ite (.cmp .Eq (.var 0) (.str "less")) ME .nil) MD
noncomputable def MF:ISs:=.cons (.ret (.call 0 (.var 3) (.cons (.bin .Mult (.var 1) (.var 2)) .nil))) .nil
def Df:ISs:=.cons (.ite (.cmp .Eq (.var 0) (.str "times")) MF .nil) Fy
noncomputable def MG:ISs:=.cons (.ret (.call 0 (.var 3) (.cons (.bin .Sub (.var 1) (.var 2)) .nil))) .nil
def Bu:ISs:=.cons (.ite (.cmp .Eq (.var 0) (.str "minus")) MG .nil) Df
noncomputable def MI:ISs:=.cons (.ret (.call 0 (.var 3) (.cons (.bin .Add (.var 1) (.var 2)) .nil))) .nil
def MJ:ISs:=.cons (.ite (.cmp .Eq (.var 0) (.str "plus")) MI .nil) Bu
abbrev Fz:ISs:=MJ
def MK:GI:=⟨GB,GL,["cut"],[],[],GC⟩
theorem _c1:chkSs MK (X5 AF) ["form","left","right","width"] Fz (Xh AF)=true:=by decide+kernel
noncomputable def ML:ISs:=.cons (.ret (.call 2 (.ix (.var 0) (.int 0)) (.cons (.var 3) (.cons (.call 1 (.ix (.var 0) (.int 2)) (.cons (.var 1) (.cons (.var 2) .nil))) (.cons (.var 1) .nil))))) .nil
noncomputable def MM:ISs:=.cons (.ret (.call 1 (.ife (.cmp .NotEq (.var 3) (.int 0)) (.ix (.var 0) (.int 2)) (.ix (.var 0) (.int 3))) (.cons (.var 1) (.cons (.var 2) .nil)))) .nil
def FA:ISs:=.cons (.ite (.cmp .Eq (.ix (.var 0) (.int 0)) (.str "pick")) MM .nil) ML
def FB:ISs:=.cons (.set 3 (.call 1 (.ix (.var 0) (.int 1)) (.cons (.var 1) (.cons (.var 2) .nil)))) FA
noncomputable def MN:ISs:=.cons (.ret (.ix (.var 2) (.ix (.var 0) (.int 1)))) .nil
def Dh:ISs:=.cons (.ite (.cmp .Eq (.ix (.var 0) (.int 0)) (.str "var")) MN .nil) FB
noncomputable def MP:ISs:=.cons (.ret (.call 0 (.var 1) (.cons (.ix (.var 0) (.int 1)) .nil))) .nil
def MQ:ISs:=.cons (.ite (.cmp .Eq (.ix (.var 0) (.int 0)) (.str "num")) MP .nil) Dh
abbrev FC:ISs:=MQ
def MR:GI:=⟨GB,GL,["cut","worth","worth_of_two"],[],[],GC⟩
theorem _lD:chkSs MR (X5 AG) ["T","width","words","first"] FC (Xh AG)=true:=by decide+kernel
noncomputable def FD:ISs:=.cons (.ret (.tup (.cons (.str "own") .nil))) .nil
noncomputable def MS:ISs:=.cons (.ret (.tup (.cons (.str "give") (.cons (.ix (.var 4) (.int 1)) (.cons (.call 0 (.ix (.var 4) (.int 2)) (.cons (.var 0) (.cons (.var 3) .nil))) .nil))))) .nil
def Di:ISs:=.cons (.ite (.cmp .Eq (.ix (.var 4) (.int 0)) (.str "give")) MS .nil) FD
noncomputable def MU:ISs:=.cons (.ret (.tup (.cons (.str "take") (.cons (.ix (.var 4) (.int 1)) .nil)))) .nil
def FE:ISs:=.cons (.ite (.cmp .Eq (.ix (.var 4) (.int 0)) (.str "take")) MU .nil) Di
def FF:ISs:=.cons (.set 4 (.ix (.var 1) (.var 2))) FE
noncomputable def FG:ISs:=.cons (.ret .non) .nil
def MW:ISs:=.cons (.ite (.cmp .Eq (.var 2) (.bi .len (.var 1) .nil)) FG .nil) FF
abbrev FH:ISs:=MW
def MX:GI:=⟨GB,GL,["worth"],[],[],GC⟩
theorem _oC:chkSs MX (X5 AH) ["width","steps","number","words","step"] FH (Xh AH)=true:=by decide+kernel
noncomputable def Bv:ISs:=.cons (.ret (.bin .Add (.var 2) (.int 1))) .nil
noncomputable def MY:ISs:=.cons (.ret (.ix (.var 4) (.int 2))) .nil
def MZ:ISs:=.cons (.ite (.and (.cmp .Eq (.ix (.var 4) (.int 0)) (.str "jump")) (.cmp .NotEq (.call 0 (.ix (.var 4) (.int 1)) (.cons (.var 0) (.cons (.var 3) .nil))) (.int 0))) MY .nil) Bv
def N0:ISs:=.cons (.set 4 (.ix (.var 1) (.var 2))) MZ
abbrev FI:ISs:=N0
def N1:GI:=⟨GB,GL,["worth"],[],[],GC⟩
theorem _c4:chkSs N1 (X5 AI) ["width","steps","number","words","step"] FI (Xh AI)=true:=by decide+kernel
noncomputable def Bw:ISs:=.cons (.ret (.var 4)) .nil
noncomputable def N2:ISs:=.cons (.put (.var 4) (.ix (.var 1) (.int 1)) (.call 0 (.ix (.var 1) (.int 2)) (.cons (.var 0) (.cons (.var 2) .nil)))) .nil
def Bx:ISs:=.cons (.ite (.cmp .Eq (.ix (.var 1) (.int 0)) (.str "put")) N2 .nil) Bw
noncomputable def N3:ISs:=.cons (.put (.var 4) (.ix (.var 1) (.int 2)) (.var 3)) .nil
def N4:ISs:=.cons (.ite (.cmp .Eq (.ix (.var 1) (.int 0)) (.str "take")) N3 .nil) Bx
def N5:ISs:=.cons (.set 4 (.bi .dict (.var 2) .nil)) N4
abbrev FJ:ISs:=N5
def N6:GI:=⟨GB,GL,["worth"],[],[],GC⟩
theorem _cM:chkSs N6 (X5 AJ) ["width","step","words","word","behind"] FJ (Xh AJ)=true:=by decide+kernel
noncomputable def N7:ISs:=.cons (.ret (.tup (.cons (.call 0 (.var 0) (.cons (.var 1) (.cons (.var 2) (.cons (.var 3) .nil)))) (.cons (.call 1 (.var 0) (.cons (.ix (.var 1) (.var 2)) (.cons (.var 3) (.cons (.var 4) .nil)))) .nil)))) .nil
abbrev FK:ISs:=N7
def N8:GI:=⟨GB,GL,["number_after","words_after"],[],[],GC⟩
theorem _lG:chkSs N8 (X5 AK) ["width","steps","number","words","word"] FK (Xh AK)=true:=by decide+kernel
noncomputable def N9:ISs:=.cons (.ret (.and (.chn .LtE .LtE (.int 1) (.bi .len (.var 0) .nil) (.glb "MOST_LETTERS" 8)) (.bi .all (.comp ["sign"] [] (.seq (.var 0)) (.nm 0) .none (.chn .LtE .LtE (.str "a") (.var 0) (.str "z"))) .nil))) .nil
abbrev FL:ISs:=N9
def Na:GI:=⟨GB,GL,[],[],[],GC⟩
theorem _i6:chkSs Na (X5 AL) ["text"] FL (Xh AL)=true:=by decide+kernel
noncomputable def ZcG:ISs:=.cons .never .nil
def Nb:ISs:=.cons (.ite (.cmp .In (.var 0) (.var 1)) ZcG .nil) .nil
noncomputable def ZcH:ISs:=.cons .never .nil
def Nc:ISs:=.cons (.ite (.not (.call 0 (.var 0) .nil)) ZcH .nil) Nb
abbrev FM:ISs:=Nc
def Nd:GI:=⟨GB,GL,["is_name"],[],[],GC⟩
theorem _cP:chkSs Nd (X5 AM) ["text","earlier"] FM (Xh AM)=true:=by decide+kernel
noncomputable def Z9t:ISs:=.cons .never .nil
def FN:ISs:=.cons (.ite (.cmp .NotIn (.var 0) (.var 1)) Z9t .nil) .nil
abbrev By:ISs:=FN
def FO:GI:=⟨GB,GL,[],[],[],GC⟩
theorem Nf:chkSs FO (X5 AN) ["name","known"] By (Xh AN)=true:=by decide+kernel
noncomputable def Nh:ISs:=.cons (.expr (.mt .append (.var 1) (.cons (.ix (.var 2) (.int 0)) .nil))) .nil
def Ni:ISs:=.cons (.expr (.call 0 (.ix (.var 2) (.int 0)) (.cons (.var 1) .nil))) Nh
def Nj:ISs:=.cons (.for_ (.nm 2) (.seq (.var 0)) Ni) .nil
def Nk:ISs:=.cons (.set 1 (.lst .nil)) Nj
abbrev FP:ISs:=Nk
def Nm:GI:=⟨GB,GL,["refuse_name"],[],[],GC⟩
theorem _6L:chkSs Nm (X5 AO) ["ferries","earlier","ferry"] FP (Xh AO)=true:=by decide+kernel
noncomputable def Z8c:ISs:=.cons .never .nil
def Nn:ISs:=.cons (.ite (.not (.call 0 (.var 0) (.cons (.ix (.var 3) (.int 1)) .nil))) Z8c .nil) .nil
def No:ISs:=.cons (.expr (.mt .append (.var 2) (.cons (.var 4) .nil))) Nn
def Np:ISs:=.cons (.expr (.call 1 (.var 4) (.cons (.var 2) .nil))) No
def Nq:ISs:=.cons (.set 4 (.ix (.var 3) (.int 0))) Np
def Nr:ISs:=.cons (.for_ (.nm 3) (.seq (.var 1)) Nq) .nil
def Nu:ISs:=.cons (.set 2 (.lst .nil)) Nr
abbrev FQ:ISs:=Nu
def Nv:GI:=⟨GB,GL,["fits","refuse_name"],[],[],GC⟩
theorem _8j:chkSs Nv (X5 AQ) ["width","pairs","earlier","pair","name"] FQ (Xh AQ)=true:=by decide+kernel
noncomputable def Nw:ISs:=.cons (.expr (.call 0 (.var 3) (.cons (.var 1) .nil))) .nil
def Ny:ISs:=.cons (.for_ (.nm 3) (.seq (.call 2 (.var 0) .nil)) Nw) .nil
noncomputable def ZcF:ISs:=.cons .never .nil
def Nz:ISs:=.cons (.ite (.or (.cmp .Gt (.ix (.var 2) (.int 0)) (.glb "MOST_PARTS" 30)) (.cmp .Gt (.ix (.var 2) (.int 1)) (.glb "MOST_DEPTH" 8))) ZcF .nil) Ny
def NA:ISs:=.cons (.set 2 (.call 1 (.var 0) .nil)) Nz
abbrev FR:ISs:=NA
def NB:GI:=⟨GB,GL,["refuse_unknown","size_of","vars_in"],[],[],GC⟩
theorem _cN:chkSs NB (X5 AR) ["T","known","size","name"] FR (Xh AR)=true:=by decide+kernel
noncomputable def NC:ISs:=.cons (.expr (.call 1 (.ix (.var 0) (.int 2)) (.cons (.var 1) .nil))) .nil
def ND:ISs:=.cons (.expr (.call 1 (.ix (.var 0) (.int 1)) (.cons (.var 3) .nil))) NC
noncomputable def NE:ISs:=.cons (.expr (.call 0 (.ix (.var 0) (.int 2)) (.cons (.var 1) .nil))) .nil
def NF:ISs:=.cons (.expr (.call 1 (.ix (.var 0) (.int 1)) (.cons (.var 3) .nil))) NE
noncomputable def NG:ISs:=.cons (.expr (.call 0 (.ix (.var 0) (.int 2)) (.cons (.var 1) .nil))) .nil
def NH:ISs:=.cons (.expr (.call 1 (.ix (.var 0) (.int 1)) (.cons (.var 1) .nil))) NG
noncomputable def ZbB:ISs:=.cons .never .nil
def NI:ISs:=.cons (.ite (.not (.chn .LtE .LtE (.int 0) (.ix (.var 0) (.int 2)) (.var 2))) ZbB .nil) .nil
def NJ:ISs:=.cons (.expr (.call 0 (.ix (.var 0) (.int 1)) (.cons (.var 1) .nil))) NI
def FS:ISs:=.cons (.ite (.cmp .Eq (.ix (.var 0) (.int 0)) (.str "put")) NH NJ) .nil
def Dj:ISs:=.cons (.ite (.cmp .Eq (.ix (.var 0) (.int 0)) (.str "give")) NF FS) .nil
def NK:ISs:=.cons (.ite (.cmp .Eq (.ix (.var 0) (.int 0)) (.str "take")) ND Dj) .nil
abbrev FT:ISs:=NK
def NL:GI:=⟨GB,GL,["refuse_term","refuse_unknown"],[],[],GC⟩
theorem _cO:chkSs NL (X5 AS) ["step","known","count","ferry_names"] FT (Xh AS)=true:=by decide+kernel
noncomputable def NM:ISs:=.cons (.expr (.call 0 (.var 4) (.cons (.var 3) (.cons (.bi .len (.ix (.var 1) (.int 2)) .nil) (.cons (.var 2) .nil))))) .nil
def NN:ISs:=.cons (.for_ (.nm 4) (.seq (.ix (.var 1) (.int 2))) NM) .nil
def NO:ISs:=.cons (.set 3 (.comp ["pair"] [] (.seq (.ix (.var 1) (.int 1))) (.nm 0) .none (.ix (.var 0) (.int 0)))) NN
def NP:ISs:=.cons (.expr (.call 1 (.var 0) (.cons (.ix (.var 1) (.int 1)) .nil))) NO
noncomputable def ZaR:ISs:=.cons .never .nil
def NQ:ISs:=.cons (.ite (.cmp .Gt (.bi .len (.ix (.var 1) (.int 2)) .nil) (.glb "MOST_STEPS" 12)) ZaR .nil) NP
noncomputable def ZaS:ISs:=.cons .never .nil
def NR:ISs:=.cons (.ite (.cmp .Gt (.bi .len (.ix (.var 1) (.int 1)) .nil) (.glb "MOST_VARS" 6)) ZaS .nil) NQ
abbrev FU:ISs:=NR
def NS:GI:=⟨GB,GL,["refuse_step","refuse_variables"],[],[],GC⟩
theorem _aT:chkSs NS (X5 AT) ["width","island","ferry_names","known","step"] FU (Xh AT)=true:=by decide+kernel
noncomputable def NT:ISs:=.cons (.expr (.call 0 (.var 0) (.cons (.var 4) (.cons (.var 2) .nil)))) .nil
def NU:ISs:=.cons (.expr (.mt .append (.var 3) (.cons (.ix (.var 4) (.int 0)) .nil))) NT
def NV:ISs:=.cons (.expr (.call 1 (.ix (.var 4) (.int 0)) (.cons (.var 3) .nil))) NU
def NW:ISs:=.cons (.for_ (.nm 4) (.seq (.var 1)) NV) .nil
def NX:ISs:=.cons (.set 3 (.bi .list (.var 2) .nil)) NW
abbrev FV:ISs:=NX
def NY:GI:=⟨GB,GL,["refuse_island","refuse_name"],[],[],GC⟩
theorem _9B:chkSs NY (X5 AU) ["width","islands","ferry_names","earlier","island"] FV (Xh AU)=true:=by decide+kernel
noncomputable def ZbC:ISs:=.cons .never .nil
def NZ:ISs:=.cons (.ite (.not (.chn .LtE .LtE (.int 1) (.ix (.var 0) (.int 4)) (.glb "MOST_STAGES" 3))) ZbC .nil) .nil
noncomputable def ZbD:ISs:=.cons .never .nil
def O0:ISs:=.cons (.ite (.not (.chn .LtE .LtE (.int 0) (.ix (.var 0) (.int 3)) (.glb "MOST_K" 3))) ZbD .nil) NZ
noncomputable def ZbE:ISs:=.cons .never .nil
def O1:ISs:=.cons (.ite (.cmp .Eq (.ix (.var 0) (.int 1)) (.ix (.var 0) (.int 2))) ZbE .nil) O0
def O3:ISs:=.cons (.expr (.call 0 (.ix (.var 0) (.int 2)) (.cons (.var 1) .nil))) O1
def O4:ISs:=.cons (.expr (.call 0 (.ix (.var 0) (.int 1)) (.cons (.var 1) .nil))) O3
abbrev FW:ISs:=O4
def O5:GI:=⟨GB,GL,["refuse_unknown"],[],[],GC⟩
theorem _c2:chkSs O5 (X5 AV) ["ferry","island_names"] FW (Xh AV)=true:=by decide+kernel
noncomputable def Z8a:ISs:=.cons .never .nil
def Bz:ISs:=.cons (.ite (.and (.cmp .Eq (.ix (.var 1) (.int 0)) (.str "give")) (.cmp .NotEq (.ix (.var 2) (.ix (.var 1) (.int 1))) (.var 0))) Z8a .nil) .nil
noncomputable def Z8b:ISs:=.cons .never .nil
def O6:ISs:=.cons (.ite (.and (.cmp .Eq (.ix (.var 1) (.int 0)) (.str "take")) (.cmp .NotEq (.ix (.var 3) (.ix (.var 1) (.int 1))) (.var 0))) Z8b .nil) Bz
abbrev FX:ISs:=O6
def O7:GI:=⟨GB,GL,[],[],[],GC⟩
theorem _8i:chkSs O7 (X5 AW) ["name","step","givers","takers"] FX (Xh AW)=true:=by decide+kernel
noncomputable def O8:ISs:=.cons (.expr (.call 0 (.ix (.var 4) (.int 0)) (.cons (.var 5) (.cons (.var 2) (.cons (.var 3) .nil))))) .nil
def Oa:ISs:=.cons (.for_ (.nm 5) (.seq (.ix (.var 4) (.int 2))) O8) .nil
def Ob:ISs:=.cons (.for_ (.nm 4) (.seq (.var 0)) Oa) .nil
def Oc:ISs:=.cons (.set 3 (.bi .dictL (.comp ["ferry"] [] (.seq (.var 1)) (.nm 0) .none (.tup (.cons (.ix (.var 0) (.int 0)) (.cons (.ix (.var 0) (.int 2)) .nil)))) .nil)) Ob
def Od:ISs:=.cons (.set 2 (.bi .dictL (.comp ["ferry"] [] (.seq (.var 1)) (.nm 0) .none (.tup (.cons (.ix (.var 0) (.int 0)) (.cons (.ix (.var 0) (.int 1)) .nil)))) .nil)) Oc
abbrev FY:ISs:=Od
def Oe:GI:=⟨GB,GL,["refuse_wrong_end"],[],[],GC⟩
theorem _75:chkSs Oe (X5 AX) ["islands","ferries","givers","takers","island","step"] FY (Xh AX)=true:=by decide+kernel
noncomputable def W3:ISs:=.cons (.ret (.var 0)) .nil
noncomputable def FZ:ISs:=.cons (.ret (.bi .tuple (.comp ["part"] [] (.seq (.var 0)) (.nm 0) .none (.call 0 (.var 0) .nil)) .nil)) .nil
def G0:ISs:=.cons (.ite (.bi .isinst (.var 0) (.cons (.tup (.cons (.ty .list) (.cons (.ty .tuple) .nil))) .nil)) FZ .nil) W3
abbrev W4:ISs:=G0
def G1:GI:=⟨GB,GL,["frozen"],[],[],GC⟩
theorem Of:chkSs G1 (X5 AY) ["value"] W4 (Xh AY)=true:=by decide+kernel
noncomputable def Og:ISs:=.cons (.ret (.call 0 (.tup (.cons (.var 0) (.cons (.var 1) (.cons (.var 2) .nil)))) .nil)) .nil
def Oh:ISs:=.cons (.expr (.call 5 (.var 1) (.cons (.var 2) .nil))) Og
noncomputable def Oi:ISs:=.cons (.expr (.call 2 (.var 4) (.cons (.var 3) .nil))) .nil
def Oj:ISs:=.cons (.for_ (.nm 4) (.seq (.var 2)) Oi) Oh
def Ol:ISs:=.cons (.set 3 (.comp ["island"] [] (.seq (.var 1)) (.nm 0) .none (.ix (.var 0) (.int 0)))) Oj
def Om:ISs:=.cons (.expr (.call 4 (.var 0) (.cons (.var 1) (.cons (.comp ["ferry"] [] (.seq (.var 2)) (.nm 0) .none (.ix (.var 0) (.int 0))) .nil)))) Ol
def On:ISs:=.cons (.expr (.call 3 (.var 2) .nil)) Om
noncomputable def Zom:ISs:=.cons .never .nil
def Oo:ISs:=.cons (.ite (.cmp .Gt (.bi .len (.var 2) .nil) (.glb "MOST_FERRIES" 6)) Zom .nil) On
noncomputable def Zon:ISs:=.cons .never .nil
def Op:ISs:=.cons (.ite (.cmp .Gt (.bi .len (.var 1) .nil) (.glb "MOST_ISLANDS" 5)) Zon .nil) Oo
noncomputable def Zoo:ISs:=.cons .never .nil
def Oq:ISs:=.cons (.ite (.not (.call 1 (.var 0) .nil)) Zoo .nil) Op
abbrev G2:ISs:=Oq
def Os:GI:=⟨GB,GL,["frozen","is_width","refuse_ferry","refuse_ferry_names","refuse_islands","refuse_wrong_ends"],[],[],GC⟩
theorem _oE:chkSs Os (X5 AZ) ["width","islands","ferries","island_names","ferry"] G2 (Xh AZ)=true:=by decide+kernel
noncomputable def Ze1:ISs:=.cons .never .nil
noncomputable def Ot:ISs:=.cons (.ret (.var 2)) .nil
def Ou:ISs:=.cons (.ite (.cmp .Eq (.ix (.var 2) (.int 0)) (.var 1)) Ot .nil) .nil
def Ov:ISs:=.cons (.for_ (.nm 2) (.seq (.var 0)) Ou) Ze1
abbrev G3:ISs:=Ov
def Ow:GI:=⟨GB,GL,[],[],[],GC⟩
theorem _e9:chkSs Ow (X5 B0) ["row","name","one"] G3 (Xh B0)=true:=by decide+kernel
noncomputable def Ox:ISs:=.cons (.ret (.call 0 (.ix (.var 0) (.int 1)) (.cons (.var 1) .nil))) .nil
abbrev G4:ISs:=Ox
def Oy:GI:=⟨GB,GL,["one_called"],[],[],GC⟩
theorem _fn:chkSs Oy (X5 B1) ["world","name"] G4 (Xh B1)=true:=by decide+kernel
noncomputable def Oz:ISs:=.cons (.ret (.tup (.cons (.str "wait") (.cons (.ix (.var 0) (.int 1)) .nil)))) .nil
noncomputable def OA:ISs:=.cons (.ret (.tup (.cons (.str "own") .nil))) .nil
def OB:ISs:=.cons (.ite (.cmp .Eq (.ix (.var 0) (.int 0)) (.str "own")) OA .nil) Oz
noncomputable def OC:ISs:=.cons (.ret (.tup (.cons (.str "done") .nil))) .nil
def OD:ISs:=.cons (.ite (.cmp .Is (.var 0) .non) OC .nil) OB
abbrev G5:ISs:=OD
def OE:GI:=⟨GB,GL,[],[],[],GC⟩
theorem _e8:chkSs OE (X5 B7) ["asked"] G5 (Xh B7)=true:=by decide+kernel
noncomputable def OF:ISs:=.cons (.ret (.and (.cmp .IsNot (.var 0) .non) (.and (.cmp .NotEq (.ix (.var 0) (.int 0)) (.str "own")) (.cmp .Eq (.ix (.var 0) (.int 1)) (.var 1))))) .nil
abbrev G6:ISs:=OF
def OG:GI:=⟨GB,GL,[],[],[],GC⟩
theorem _eb:chkSs OG (X5 Ba) ["asked","ferry_name"] G6 (Xh Ba)=true:=by decide+kernel
noncomputable def OH:ISs:=.cons (.ret (.ix (.var 0) (.var 1))) .nil
def OI:ISs:=.cons (.expr (.call 0 (.var 1) (.cons (.var 0) .nil))) OH
abbrev G7:ISs:=OI
def OJ:GI:=⟨GB,GL,["refuse_unknown"],[],[],GC⟩
theorem _fm:chkSs OJ (X5 Bb) ["named","name"] G7 (Xh Bb)=true:=by decide+kernel
noncomputable def OK:ISs:=.cons (.fset "Run" (.var 0) "taken_so_far" (.bi .dictL (.comp ["ferry"] [] (.seq (.ix (.var 1) (.int 2))) (.nm 0) .none (.tup (.cons (.ix (.var 0) (.int 0)) (.cons (.lst .nil) .nil)))) .nil)) .nil
def OL:ISs:=.cons (.fset "Run" (.var 0) "given_so_far" (.bi .dictL (.comp ["ferry"] [] (.seq (.ix (.var 1) (.int 2))) (.nm 0) .none (.tup (.cons (.ix (.var 0) (.int 0)) (.cons (.lst .nil) .nil)))) .nil)) OK
def OM:ISs:=.cons (.fset "Run" (.var 0) "boats" (.bi .dictL (.comp ["ferry"] [] (.seq (.ix (.var 1) (.int 2))) (.nm 0) .none (.tup (.cons (.ix (.var 0) (.int 0)) (.cons (.make 0 "Ferry" (.ix (.var 0) (.int 3)) (.cons (.ix (.var 0) (.int 4)) .nil)) .nil)))) .nil)) OL
def ON:ISs:=.cons (.fset "Run" (.var 0) "steps_so_far" (.bi .dictL (.comp ["island"] [] (.seq (.ix (.var 1) (.int 1))) (.nm 0) .none (.tup (.cons (.ix (.var 0) (.int 0)) (.cons (.int 0) .nil)))) .nil)) OM
def OO:ISs:=.cons (.fset "Run" (.var 0) "words_now" (.bi .dictL (.comp ["island"] [] (.seq (.ix (.var 1) (.int 1))) (.nm 0) .none (.tup (.cons (.ix (.var 0) (.int 0)) (.cons (.bi .dict (.ix (.var 0) (.int 1)) .nil) .nil)))) .nil)) ON
def OP:ISs:=.cons (.fset "Run" (.var 0) "next_numbers" (.bi .dictL (.comp ["island"] [] (.seq (.ix (.var 1) (.int 1))) (.nm 0) .none (.tup (.cons (.ix (.var 0) (.int 0)) (.cons (.int 0) .nil)))) .nil)) OO
def OQ:ISs:=.cons (.fset "Run" (.var 0) "moment" (.int 0)) OP
def OR:ISs:=.cons (.fset "Run" (.var 0) "world" (.var 1)) OQ
abbrev G8:ISs:=OR
def OS:GI:=⟨GB,GL,[],[],[(0,"Ferry")],GC⟩
theorem _c6:chkSs OS (X5 Bc) ["self","world"] G8 (Xh Bc)=true:=by decide+kernel
noncomputable def BA:ISs:=.cons (.ret (.tup (.cons (.var 1) (.cons (.var 4) (.cons (.var 6) (.cons (.var 7) .nil)))))) .nil
noncomputable def BB:ISs:=.cons (.expr (.mcall 4 "Run" "go_on" (.var 0) (.cons (.var 1) (.cons (.var 3) (.cons (.ife (.cmp .Eq (.ix (.var 6) (.int 0)) (.str "take")) (.ix (.var 6) (.int 2)) .non) .nil))))) .nil
def OT:ISs:=.cons (.ite (.cmp .NotIn (.ix (.var 6) (.int 0)) (.tup (.cons (.str "done") (.cons (.str "wait") .nil)))) BB .nil) BA
def OU:ISs:=.cons (.fset "Run" (.var 0) "moment" (.bin .Add (.fld "Run" (.var 0) "moment") (.int 1))) OT
noncomputable def G9:ISs:=.cons (.set 6 (.ix (.var 10) (.int 0))) .nil
def OV:ISs:=.cons (.ite (.cmp .IsNot (.ix (.var 10) (.int 0)) .non) G9 .nil) .nil
def OW:ISs:=.cons (.expr (.mt .append (.var 7) (.cons (.tup (.cons (.ix (.var 9) (.int 0)) (.cons (.ix (.var 10) (.int 1)) .nil))) .nil))) OV
def OX:ISs:=.cons (.set 10 (.mcall 5 "Run" "ring_ferry" (.var 0) (.cons (.var 9) (.cons (.var 1) (.cons (.bin .FloorDiv (.var 2) (.call 1 (.bin .Mult (.glb "BITS_A_FERRY" 8) (.var 8)) .nil)) (.cons (.var 5) .nil)))))) OW
def OY:ISs:=.cons (.ite (.cmp .In (.var 1) (.tup (.cons (.ix (.var 9) (.int 1)) (.cons (.ix (.var 9) (.int 2)) .nil)))) OX .nil) .nil
def OZ:ISs:=.cons (.set 9 (.ix (.ix (.fld "Run" (.var 0) "world") (.int 2)) (.var 8))) OY
def P0:ISs:=.cons (.for_ (.nm 8) (.rng (.bi .len (.ix (.fld "Run" (.var 0) "world") (.int 2)) .nil)) OZ) OU
def P1:ISs:=.cons (.set 7 (.lst .nil)) P0
def P2:ISs:=.cons (.set 6 (.call 2 (.var 5) .nil)) P1
def P3:ISs:=.cons (.set 5 (.call 3 (.ix (.fld "Run" (.var 0) "world") (.int 0)) (.cons (.var 3) (.cons (.var 4) (.cons (.ix (.fld "Run" (.var 0) "words_now") (.var 1)) .nil))))) P2
def P4:ISs:=.cons (.set 4 (.ix (.fld "Run" (.var 0) "next_numbers") (.var 1))) P3
def P5:ISs:=.cons (.set 3 (.ix (.call 0 (.fld "Run" (.var 0) "world") (.cons (.var 1) .nil)) (.int 2))) P4
abbrev Ga:ISs:=P5
def P6:GI:=⟨GB,GL,["island_of","two_to","what_alone","wish"],[(4,"Run","go_on"),(5,"Run","ring_ferry")],[],GC⟩
theorem _gw:chkSs P6 (X5 Bd) ["self","name","choice","steps","number","asked","what","samples","j","ferry","told"] Ga (Xh Bd)=true:=by decide+kernel
noncomputable def P7:ISs:=.cons (.ret (.tup (.cons (.tup (.cons (.str "take") (.cons (.ix (.var 1) (.int 0)) (.cons (.ix (.var 7) (.int 0)) .nil)))) (.cons (.ix (.var 7) (.int 1)) .nil)))) .nil
def P8:ISs:=.cons (.expr (.mt .append (.ix (.fld "Run" (.var 0) "taken_so_far") (.ix (.var 1) (.int 0))) (.cons (.ix (.var 7) (.int 0)) .nil))) P7
noncomputable def P9:ISs:=.cons (.ret (.var 7)) .nil
def Pa:ISs:=.cons (.ite (.cmp .Is (.ix (.var 7) (.int 0)) .non) P9 .nil) P8
def Gb:ISs:=.cons (.set 7 (.mcall 2 "Ferry" "ring_taker" (.var 5) (.cons (.fld "Run" (.var 0) "moment") (.cons (.var 3) (.cons (.var 6) .nil))))) Pa
noncomputable def Pb:ISs:=.cons (.ret (.tup (.cons (.var 4) (.cons (.ix (.var 7) (.int 1)) .nil)))) .nil
def Pc:ISs:=.cons (.expr (.mt .append (.ix (.fld "Run" (.var 0) "given_so_far") (.ix (.var 1) (.int 0))) (.cons (.ix (.var 4) (.int 2)) .nil))) Pb
noncomputable def Pd:ISs:=.cons (.ret (.tup (.cons .non (.cons (.ix (.var 7) (.int 1)) .nil)))) .nil
def Gc:ISs:=.cons (.ite (.not (.ix (.var 7) (.int 0))) Pd .nil) Pc
def Pe:ISs:=.cons (.set 7 (.mcall 1 "Ferry" "ring_giver" (.var 5) (.cons (.fld "Run" (.var 0) "moment") (.cons (.var 3) (.cons (.ife (.var 6) (.ix (.var 4) (.int 2)) .non) .nil))))) Gc
def Pf:ISs:=.cons (.ite (.cmp .Eq (.ix (.var 1) (.int 1)) (.var 2)) Pe .nil) Gb
def Pg:ISs:=.cons (.set 6 (.call 0 (.var 4) (.cons (.ix (.var 1) (.int 0)) .nil))) Pf
def Ph:ISs:=.cons (.set 5 (.ix (.fld "Run" (.var 0) "boats") (.ix (.var 1) (.int 0)))) Pg
abbrev Gd:ISs:=Ph
def Pi:GI:=⟨GB,GL,["is_wish_of"],[(1,"Ferry","ring_giver"),(2,"Ferry","ring_taker")],[],GC⟩
theorem _9D:chkSs Pi (X5 Be) ["self","ferry","name","choice","asked","boat","wished","told"] Gd (Xh Be)=true:=by decide+kernel
noncomputable def Pj:ISs:=.cons (.put (.fld "Run" (.var 0) "steps_so_far") (.var 1) (.bin .Add (.ix (.fld "Run" (.var 0) "steps_so_far") (.var 1)) (.int 1))) .nil
def Pk:ISs:=.cons (.put (.fld "Run" (.var 0) "words_now") (.var 1) (.ix (.var 4) (.int 1))) Pj
def Pl:ISs:=.cons (.put (.fld "Run" (.var 0) "next_numbers") (.var 1) (.ix (.var 4) (.int 0))) Pk
def Pn:ISs:=.cons (.set 4 (.call 0 (.ix (.fld "Run" (.var 0) "world") (.int 0)) (.cons (.var 2) (.cons (.ix (.fld "Run" (.var 0) "next_numbers") (.var 1)) (.cons (.ix (.fld "Run" (.var 0) "words_now") (.var 1)) (.cons (.var 3) .nil)))))) Pl
abbrev Ge:ISs:=Pn
def Po:GI:=⟨GB,GL,["after"],[],[],GC⟩
theorem _fv:chkSs Po (X5 Bf) ["self","name","steps","word","went"] Ge (Xh Bf)=true:=by decide+kernel
noncomputable def Pp:ISs:=.cons (.ret (.call 0 (.fld "Run" (.var 0) "next_numbers") (.cons (.var 1) .nil))) .nil
abbrev Gf:ISs:=Pp
def Pq:GI:=⟨GB,GL,["looked_up"],[],[],GC⟩
theorem _ee:chkSs Pq (X5 Bg) ["self","name"] Gf (Xh Bg)=true:=by decide+kernel
noncomputable def Pr:ISs:=.cons (.ret (.bi .dict (.call 0 (.fld "Run" (.var 0) "words_now") (.cons (.var 1) .nil)) .nil)) .nil
abbrev Gg:ISs:=Pr
def Ps:GI:=⟨GB,GL,["looked_up"],[],[],GC⟩
theorem _ft:chkSs Ps (X5 Bh) ["self","name"] Gg (Xh Bh)=true:=by decide+kernel
noncomputable def Pt:ISs:=.cons (.ret (.call 0 (.fld "Run" (.var 0) "steps_so_far") (.cons (.var 1) .nil))) .nil
abbrev Gh:ISs:=Pt
def Pu:GI:=⟨GB,GL,["looked_up"],[],[],GC⟩
theorem _9C:chkSs Pu (X5 Bi) ["self","name"] Gh (Xh Bi)=true:=by decide+kernel
noncomputable def Pv:ISs:=.cons (.ret (.bi .list (.call 0 (.fld "Run" (.var 0) "given_so_far") (.cons (.var 1) .nil)) .nil)) .nil
abbrev Gi:ISs:=Pv
def Pw:GI:=⟨GB,GL,["looked_up"],[],[],GC⟩
theorem _fw:chkSs Pw (X5 Bj) ["self","name"] Gi (Xh Bj)=true:=by decide+kernel
noncomputable def Px:ISs:=.cons (.ret (.bi .list (.call 0 (.fld "Run" (.var 0) "taken_so_far") (.cons (.var 1) .nil)) .nil)) .nil
abbrev Gj:ISs:=Px
def Py:GI:=⟨GB,GL,["looked_up"],[],[],GC⟩
theorem _fu:chkSs Py (X5 Bk) ["self","name"] Gj (Xh Bk)=true:=by decide+kernel
noncomputable def Pz:ISs:=.cons (.ret (.int 0)) .nil
noncomputable def PB:ISs:=.cons (.ret (.ix (.var 0) (.var 1))) .nil
def PC:ISs:=.cons (.ite (.cmp .Lt (.var 1) (.bi .len (.var 0) .nil)) PB .nil) Pz
abbrev Gk:ISs:=PC
def PD:GI:=⟨GB,GL,[],[],[],GC⟩
theorem _c5:chkSs PD (X5 Bl) ["script","k"] Gk (Xh Bl)=true:=by decide+kernel
noncomputable def PF:ISs:=.cons (.ret (.bin .Add (.bin .Add (.bin .Mult (.ix (.var 2) (.var 3)) (.var 6)) (.var 7)) (.bin .Mult (.ix (.var 2) (.var 3)) (.bin .Sub (.bin .Sub (.var 5) (.int 1)) (.var 6))))) .nil
def PH:ISs:=.cons (.set 7 (.ix (.var 2) (.bin .Mod (.bin .Add (.bin .FloorDiv (.var 0) (.int 4992)) (.bin .Mult (.int 7) (.var 1))) (.int 26)))) PF
def PJ:ISs:=.cons (.set 6 (.bin .Mod (.bin .Mod (.bin .FloorDiv (.var 0) (.int 24)) (.int 8)) (.var 5))) PH
def PK:ISs:=.cons (.set 5 (.bin .Add (.int 1) (.bin .Mod (.bin .FloorDiv (.var 0) (.int 3)) (.int 8)))) PJ
noncomputable def PL:ISs:=.cons (.ret (.bin .Add (.bin .Mult (.ix (.var 2) (.var 3)) (.bin .Add (.int 1) (.bin .Mod (.bin .Add (.bin .Mult (.int 3) (.var 1)) (.bin .FloorDiv (.var 0) (.int 192))) (.int 7)))) (.bin .Mult (.var 4) (.bin .FloorDiv (.var 1) (.int 7))))) .nil
def PM:ISs:=.cons (.set 4 (.ix (.var 2) (.bin .Mod (.bin .Add (.bin .Add (.var 3) (.int 1)) (.bin .Mod (.bin .FloorDiv (.var 0) (.int 4992)) (.int 25))) (.int 26)))) PL
def PN:ISs:=.cons (.ite (.cmp .Eq (.bin .Mod (.var 0) (.int 3)) (.int 2)) PM .nil) PK
def PP:ISs:=.cons (.set 3 (.bin .Mod (.bin .FloorDiv (.var 0) (.int 192)) (.int 26))) PN
def PQ:ISs:=.cons (.set 2 (.str "abcdefghijklmnopqrstuvwxyz")) PP
abbrev Gm:ISs:=PQ
def PR:GI:=⟨GB,GL,[],[],[],GC⟩
theorem _fr:chkSs PR (X5 Bm) ["number","k","letters","fill","other","long","at","sign"] Gm (Xh Bm)=true:=by decide+kernel
noncomputable def PU:ISs:=.cons (.ret (.tup (.cons (.str "plus") (.cons (.var 2) (.cons (.tup (.cons (.str "var") (.cons (.ix (.var 1) (.bin .Mod (.bin .FloorDiv (.var 0) (.int 224)) (.int 2))) .nil))) .nil))))) .nil
noncomputable def PV:ISs:=.cons (.ret (.tup (.cons (.str "pick") (.cons (.tup (.cons (.str "less") (.cons (.var 2) (.cons (.var 3) .nil)))) (.cons (.var 3) (.cons (.var 2) .nil)))))) .nil
def PX:ISs:=.cons (.ite (.cmp .Eq (.bin .Mod (.var 0) (.int 8)) (.int 5)) PV .nil) PU
noncomputable def PY:ISs:=.cons (.ret (.tup (.cons (.ix (.lst (.cons (.str "plus") (.cons (.str "minus") (.cons (.str "times") .nil)))) (.bin .Sub (.bin .Mod (.var 0) (.int 8)) (.int 2))) (.cons (.var 2) (.cons (.var 3) .nil))))) .nil
def PZ:ISs:=.cons (.ite (.cmp .Lt (.bin .Mod (.var 0) (.int 8)) (.int 5)) PY .nil) PX
noncomputable def Q0:ISs:=.cons (.ret (.ix (.lst (.cons (.var 2) (.cons (.var 3) .nil))) (.bin .Mod (.var 0) (.int 2)))) .nil
def Q1:ISs:=.cons (.ite (.cmp .Lt (.bin .Mod (.var 0) (.int 8)) (.int 2)) Q0 .nil) PZ
def Q2:ISs:=.cons (.set 3 (.tup (.cons (.str "num") (.cons (.ix (.lst (.cons (.bin .Sub (.bin .Mod (.bin .FloorDiv (.var 0) (.int 16)) (.int 7)) (.int 3)) (.cons (.bin .Mod (.bin .Mult (.bin .FloorDiv (.var 0) (.int 16)) (.int 1000000007)) (.bin .Pow (.int 10) (.int 20))) .nil))) (.bin .Mod (.bin .FloorDiv (.var 0) (.int 112)) (.int 2))) .nil)))) Q1
def Q3:ISs:=.cons (.set 2 (.tup (.cons (.str "var") (.cons (.ix (.var 1) (.bin .Mod (.bin .FloorDiv (.var 0) (.int 8)) (.int 2))) .nil)))) Q2
abbrev Gn:ISs:=Q3
def Q4:GI:=⟨GB,GL,[],[],[],GC⟩
theorem _fp:chkSs Q4 (X5 Bn) ["number","names","one","other"] Gn (Xh Bn)=true:=by decide+kernel
noncomputable def Q5:ISs:=.cons (.ret (.tup (.cons (.str "put") (.cons (.ix (.var 2) (.bin .Mod (.bin .FloorDiv (.var 0) (.int 8)) (.int 2))) (.cons (.call 0 (.var 7) (.cons (.var 2) .nil)) .nil))))) .nil
noncomputable def Q6:ISs:=.cons (.ret (.tup (.cons (.str "jump") (.cons (.call 0 (.var 7) (.cons (.var 2) .nil)) (.cons (.bin .Mod (.bin .FloorDiv (.var 0) (.int 8)) (.bin .Add (.var 4) (.int 1))) .nil))))) .nil
def Go:ISs:=.cons (.ite (.cmp .Eq (.bin .Mod (.var 0) (.int 8)) (.int 7)) Q6 .nil) Q5
noncomputable def Q7:ISs:=.cons (.ret (.tup (.cons (.str "give") (.cons (.ix (.var 6) (.bin .Mod (.bin .FloorDiv (.var 0) (.int 8)) (.bi .len (.var 6) .nil))) (.cons (.call 0 (.var 7) (.cons (.var 2) .nil)) .nil))))) .nil
def Gp:ISs:=.cons (.ite (.and (.cmp .Lt (.bin .Mod (.var 0) (.int 8)) (.int 6)) (.cmp .NotEq (.var 6) (.lst .nil))) Q7 .nil) Go
noncomputable def Q8:ISs:=.cons (.ret (.tup (.cons (.str "take") (.cons (.ix (.var 5) (.bin .Mod (.bin .FloorDiv (.var 0) (.int 8)) (.bi .len (.var 5) .nil))) (.cons (.ix (.var 2) (.bin .Mod (.var 7) (.int 2))) .nil))))) .nil
def Q9:ISs:=.cons (.ite (.and (.cmp .Lt (.bin .Mod (.var 0) (.int 8)) (.int 3)) (.cmp .NotEq (.var 5) (.lst .nil))) Q8 .nil) Gp
def Qa:ISs:=.cons (.set 7 (.bin .FloorDiv (.var 0) (.int 128))) Q9
def Qb:ISs:=.cons (.set 6 (.comp ["ferry"] [1] (.seq (.var 3)) (.nm 0) (.some (.cmp .Eq (.ix (.var 0) (.int 1)) (.var 1))) (.ix (.var 0) (.int 0)))) Qa
def Qc:ISs:=.cons (.set 5 (.comp ["ferry"] [1] (.seq (.var 3)) (.nm 0) (.some (.cmp .Eq (.ix (.var 0) (.int 2)) (.var 1))) (.ix (.var 0) (.int 0)))) Qb
abbrev Gq:ISs:=Qc
def Qd:GI:=⟨GB,GL,["_law_term"],[],[],GC⟩
theorem _fq:chkSs Qd (X5 Bo) ["number","name","names","ferries","many","takes","gives","rest"] Gq (Xh Bo)=true:=by decide+kernel
noncomputable def Gr:ISs:=.cons (.ret (.tup (.cons (.var 5) (.cons (.var 7) (.cons (.var 10) .nil))))) .nil
noncomputable def Qe:ISs:=.cons (.expr (.mt .append (.var 10) (.cons (.tup (.cons (.str "jump") (.cons (.tup (.cons (.str "num") (.cons (.int 1) .nil))) (.cons (.int 0) .nil)))) .nil))) .nil
def Qf:ISs:=.cons (.ite (.cmp .Eq (.var 9) (.int 1)) Qe .nil) Gr
noncomputable def Qg:ISs:=.cons (.set 0 (.bin .FloorDiv (.var 0) (.bin .Pow (.int 10) (.int 8)))) .nil
def Qh:ISs:=.cons (.expr (.mt .append (.var 10) (.cons (.call 1 (.bin .Mod (.var 0) (.bin .Pow (.int 10) (.int 8))) (.cons (.var 5) (.cons (.var 6) (.cons (.var 3) (.cons (.bin .Add (.var 8) (.var 9)) .nil))))) .nil))) Qg
def Qi:ISs:=.cons (.for_ (.nm 11) (.rng (.var 8)) Qh) Qf
def Qj:ISs:=.cons (.set 10 (.lst .nil)) Qi
def Qk:ISs:=.cons (.set 0 (.bin .FloorDiv (.var 0) (.int 112))) Qj
def Ql:ISs:=.cons (.set 9 (.bi .int (.cmp .Lt (.bin .Mod (.bin .FloorDiv (.var 0) (.int 28)) (.int 4)) (.var 4)) .nil)) Qk
def Qm:ISs:=.cons (.set 8 (.bin .Mod (.bin .FloorDiv (.var 0) (.int 4)) (.int 7))) Ql
def Qn:ISs:=.cons (.set 7 (.lst (.cons (.tup (.cons (.ix (.var 6) (.int 0)) (.cons (.bin .Mod (.var 0) (.int 2)) .nil))) (.cons (.tup (.cons (.ix (.var 6) (.int 1)) (.cons (.bin .Mod (.bin .FloorDiv (.var 0) (.int 2)) (.int 2)) .nil))) .nil)))) Qm
def Qo:ISs:=.cons (.set 6 (.lst (.cons (.call 0 (.var 2) (.cons (.int 9) .nil)) (.cons (.call 0 (.var 2) (.cons (.int 10) .nil)) .nil)))) Qn
def Qp:ISs:=.cons (.set 5 (.call 0 (.var 2) (.cons (.var 1) .nil))) Qo
abbrev Gs:ISs:=Qp
def Qq:GI:=⟨GB,GL,["_law_name","_law_step"],[],[],GC⟩
theorem _cS:chkSs Qq (X5 Bp) ["number","k","naming","ferries","around","name","names","pairs","many","ending","steps","j"] Gs (Xh Bp)=true:=by decide+kernel
noncomputable def Qr:ISs:=.cons (.ret (.tup (.cons (.var 4) (.cons (.var 12) (.cons (.var 6) .nil))))) .nil
noncomputable def Qs:ISs:=.cons (.expr (.mt .append (.var 12) (.cons (.call 1 (.bin .Mod (.call 0 (.var 0) (.cons (.bin .Add (.int 6) (.var 7)) .nil)) (.bin .Pow (.int 10) (.int 60))) (.cons (.var 7) (.cons (.var 3) (.cons (.var 6) (.cons (.var 1) .nil))))) .nil))) .nil
def Qt:ISs:=.cons (.for_ (.nm 7) (.rng (.var 5)) Qs) Qr
def Qu:ISs:=.cons (.set 12 (.lst .nil)) Qt
noncomputable def Qv:ISs:=.cons (.expr (.mt .append (.var 6) (.cons (.tup (.cons (.call 2 (.var 3) (.cons (.bin .Add (.int 5) (.var 7)) .nil)) (.cons (.ix (.var 11) (.int 0)) (.cons (.ix (.var 11) (.int 1)) (.cons (.bin .Mod (.bin .FloorDiv (.var 8) (.int 20)) (.int 4)) (.cons (.bin .Add (.int 1) (.bin .Mod (.bin .FloorDiv (.var 8) (.int 80)) (.int 3))) .nil)))))) .nil))) .nil
def Qw:ISs:=.cons (.set 11 (.tup (.cons (.call 2 (.var 3) (.cons (.var 9) .nil)) (.cons (.call 2 (.var 3) (.cons (.var 10) .nil)) .nil)))) Qv
def Qx:ISs:=.cons (.set 10 (.bin .Mod (.bin .Add (.bin .Add (.var 9) (.int 1)) (.bin .Mod (.bin .FloorDiv (.var 8) (.int 5)) (.bin .Sub (.var 5) (.int 1)))) (.var 5))) Qw
def Qy:ISs:=.cons (.set 9 (.bin .Mod (.var 8) (.var 5))) Qx
def Qz:ISs:=.cons (.set 8 (.bin .FloorDiv (.bin .Mod (.call 0 (.var 0) (.cons (.bin .Add (.int 2) (.bin .Mod (.var 7) (.int 4))) .nil)) (.bin .Pow (.int 10) (.int 15))) (.ix (.lst (.cons (.int 1) (.cons (.int 1000000) .nil))) (.bin .FloorDiv (.var 7) (.int 4))))) Qy
def QA:ISs:=.cons (.for_ (.nm 7) (.rng (.bi .min (.bin .Sub (.bin .Mult (.int 6) (.var 5)) (.int 6)) (.cons (.bin .Mod (.bin .FloorDiv (.var 2) (.int 2048)) (.int 7)) .nil))) Qz) Qu
def QB:ISs:=.cons (.set 6 (.lst .nil)) QA
def QC:ISs:=.cons (.set 5 (.bin .Add (.int 1) (.bin .Mod (.var 2) (.int 5)))) QB
def QD:ISs:=.cons (.set 4 (.ix (.lst (.cons (.bin .Add (.int 1) (.bin .Mod (.bin .FloorDiv (.var 2) (.int 16)) (.int 64))) (.cons (.bin .Add (.int 1) (.bin .Mod (.bin .FloorDiv (.var 2) (.int 16)) (.int 5))) .nil))) (.bin .Mod (.bin .FloorDiv (.var 2) (.int 1024)) (.int 2)))) QC
def QE:ISs:=.cons (.set 3 (.bin .Mod (.call 0 (.var 0) (.cons (.int 1) .nil)) (.bin .Pow (.int 10) (.int 9)))) QD
def QF:ISs:=.cons (.set 2 (.bin .Mod (.call 0 (.var 0) (.cons (.int 0) .nil)) (.bin .Pow (.int 10) (.int 9)))) QE
abbrev Gu:ISs:=QF
def QG:GI:=⟨GB,GL,["_law_cell_at","_law_island","_law_name"],[],[],GC⟩
theorem _cR:chkSs QG (X5 Bq) ["script","around","head","naming","width","many","ferries","k","number","giver","taker","ends","islands"] Gu (Xh Bq)=true:=by decide+kernel
noncomputable def QH:ISs:=.cons (.ret (.var 2)) .nil
noncomputable def QI:ISs:=.cons (.expr (.mt .append (.var 2) (.cons (.tup (.cons (.ix (.ix (.var 1) (.bin .Mod (.var 3) (.bi .len (.var 1) .nil))) (.int 0)) (.cons (.bin .Mod (.bin .FloorDiv (.var 3) (.bi .len (.var 1) .nil)) (.bin .Pow (.int 10) (.int 30))) .nil))) .nil))) .nil
def QJ:ISs:=.cons (.for_ (.nm 3) (.seq (.var 0)) QI) QH
def QK:ISs:=.cons (.set 2 (.lst .nil)) QJ
abbrev Gw:ISs:=QK
def QL:GI:=⟨GB,GL,[],[],[],GC⟩
theorem _ed:chkSs QL (X5 Br) ["cells","islands","rings","cell"] Gw (Xh Br)=true:=by decide+kernel
noncomputable def QN:ISs:=.cons (.ret (.cmp .Eq (.sl (.var 0) .none (.some (.var 2))) (.sl (.var 1) .none (.some (.var 2))))) .nil
def QO:ISs:=.cons (.set 2 (.bi .min (.bi .len (.var 0) .nil) (.cons (.bi .len (.var 1) .nil) .nil))) QN
abbrev Gx:ISs:=QO
def QP:GI:=⟨GB,GL,[],[],[],GC⟩
theorem _cT:chkSs QP (X5 Bs) ["one","other","many"] Gx (Xh Bs)=true:=by decide+kernel
noncomputable def QQ:ISs:=.cons (.ret (.bl true)) .nil
noncomputable def Zop:ISs:=.cons (.ret (.bl false)) .nil
def QR:ISs:=.cons (.ite (.cmp .NotEq (.tup (.cons (.mcall 7 "Run" "number" (.var 5) (.cons (.var 12) .nil)) (.cons (.mcall 11 "Run" "words" (.var 5) (.cons (.var 12) .nil)) .nil))) (.tup (.cons (.mcall 7 "Run" "number" (.var 6) (.cons (.var 12) .nil)) (.cons (.mcall 11 "Run" "words" (.var 6) (.cons (.var 12) .nil)) .nil)))) Zop .nil) .nil
def QS:ISs:=.cons (.ite (.cmp .Eq (.mcall 9 "Run" "steps_done" (.var 5) (.cons (.var 12) .nil)) (.mcall 9 "Run" "steps_done" (.var 6) (.cons (.var 12) .nil))) QR .nil) .nil
def QT:ISs:=.cons (.set 12 (.ix (.var 11) (.int 0))) QS
def QU:ISs:=.cons (.for_ (.nm 11) (.seq (.var 2)) QT) .nil
noncomputable def Zoq:ISs:=.cons (.ret (.bl false)) .nil
def QV:ISs:=.cons (.ite (.not (.call 0 (.mcall 10 "Run" "taken" (.var 5) (.cons (.ix (.var 10) (.int 0)) .nil)) (.cons (.mcall 10 "Run" "taken" (.var 6) (.cons (.ix (.var 10) (.int 0)) .nil)) .nil))) Zoq .nil) .nil
noncomputable def Zor:ISs:=.cons (.ret (.bl false)) .nil
def QW:ISs:=.cons (.ite (.not (.call 0 (.mcall 6 "Run" "given" (.var 5) (.cons (.ix (.var 10) (.int 0)) .nil)) (.cons (.mcall 6 "Run" "given" (.var 6) (.cons (.ix (.var 10) (.int 0)) .nil)) .nil))) Zor .nil) QV
def QX:ISs:=.cons (.for_ (.nm 10) (.seq (.var 3)) QW) QU
def QY:ISs:=.cons (.expr (.mcall 8 "Run" "ring" (.var 6) (.cons (.ix (.ix (.var 8) (.var 9)) (.int 0)) (.cons (.ix (.ix (.var 8) (.var 9)) (.int 1)) .nil)))) QX
def QZ:ISs:=.cons (.expr (.mcall 8 "Run" "ring" (.var 5) (.cons (.ix (.ix (.var 7) (.var 9)) (.int 0)) (.cons (.ix (.ix (.var 7) (.var 9)) (.int 1)) .nil)))) QY
def Gy:ISs:=.cons (.for_ (.nm 9) (.rng (.bi .len (.var 7) .nil)) QZ) QQ
noncomputable def R0:ISs:=.cons (.expr (.mt .reverse (.var 8) .nil)) .nil
def R4:ISs:=.cons (.ite (.cmp .Eq (.bin .Mod (.bin .FloorDiv (.call 1 (.var 0) (.cons (.int 0) .nil)) (.bin .Pow (.int 10) (.int 9))) (.int 2)) (.int 1)) R0 .nil) Gy
def R5:ISs:=.cons (.set 8 (.comp ["ring"] [] (.seq (.var 7)) (.nm 0) .none (.tup (.cons (.ix (.var 0) (.int 0)) (.cons (.bin .Add (.bin .FloorDiv (.ix (.var 0) (.int 1)) (.int 7)) (.int 1)) .nil))))) R4
def R6:ISs:=.cons (.set 7 (.call 2 (.sl (.var 0) (.some (.int 10)) (.some (.int 90))) (.cons (.var 2) .nil))) R5
def R7:ISs:=.cons (.set 6 (.make 5 "Run" (.var 4) .nil)) R6
def R8:ISs:=.cons (.set 5 (.make 5 "Run" (.var 4) .nil)) R7
def R9:ISs:=.cons (.set 4 (.call 4 (.var 1) (.cons (.bi .list (.var 2) .nil) (.cons (.bi .list (.var 3) .nil) .nil)))) R8
def Ra:ISs:=.cons (.asg (.cons (.nm 1) (.cons (.nm 2) (.cons (.nm 3) .nil))) (.call 3 (.var 0) (.cons (.int 3) .nil))) R9
abbrev Gz:ISs:=Ra
def Rb:GI:=⟨GB,GL,["_law_begins","_law_cell_at","_law_rings","_law_things","made"],[(6,"Run","given"),(7,"Run","number"),(8,"Run","ring"),(9,"Run","steps_done"),(10,"Run","taken"),(11,"Run","words")],[(5,"Run")],GC⟩
theorem _qN:chkSs Rb (X5 Bt) ["script","width","islands","ferries","world","one","other","rings","turned","k","ferry","island","name"] Gz (Xh Bt)=true:=by decide+kernel
theorem szl:sizeLine=16777216:=by decide
theorem na10:Int.natAbs 10=10:=rfl
theorem at0{j:Type}{x:j}{xs:List j}:atI (x::xs) 0=some x:=by unfold atI ixN;simp
theorem at1{l:Type}{x y:l}{xs:List l}:atI (x::y::xs) 1=some y:=Yr (j:=1) (by rfl)
theorem at2{l:Type}{x y z:l}{xs:List l}:atI (x::y::z::xs) 2=some z:=Yr (j:=2) (by rfl)
theorem at3{l:Type}{x y z u:l}{xs:List l}:atI (x::y::z::u::xs) 3=some u:=Yr (j:=3) (by rfl)
theorem at4{l:Type}{x y z u v:l}{xs:List l}:atI (x::y::z::u::v::xs) 4=some v:=Yr (j:=4) (by rfl)
theorem W5{a b:String}:(Yd a=Yd b)↔a=b:=by
 constructor
 .intro h;rw[Str.ofString_eq_toList,Str.ofString_eq_toList]at h;have u:a.toList.map CM=b.toList.map CM:=by
   have:=congrArg (λs:Str=>s.cps.toList) h
   simpa using this
  have inj:∀(l j:List Char),l.map CM=j.map CM->l=j:=by
   intro l
   induction l with
   |nil=>
    intro j e;cases j with
    |nil=>rfl
    |cons _ _=>cases e
   |cons x r w=>
    intro j e;cases j with
    |nil=>cases e
    |cons y s=>
     rw[Xx,Xx]at e;injection e with e1 e2;rw[w s e2,Char.toNat_inj.mp e1]
  exact String.toList_inj.mp (inj _ _ u)
 .intro h;rw[h]
theorem Y3{c A B:Prop} [Decidable c] (h1:c->A)(h2:¬c->B):if c then A else B:=by
 split
 .exact h1 ‹_›
 .exact h2 ‹_›
theorem _ow{a:Str}{b:SpM}{R:SpM->Prop}:(∃f sp,(a=f/\b=sp)/\R sp)↔R b:=⟨fun⟨_,_,⟨_,e⟩,h⟩=>e▸h,λh=>⟨a,b,⟨rfl,rfl⟩,h⟩⟩
theorem isN0:UE .non=true:=rfl
theorem isN2{b:Int}:UE (.int b)=false:=rfl
theorem isN4{b:List MV}:UE (.tup b)=false:=rfl
local macro_rules|`(tactic|walk_at "s")=>do
 let a<-("seval szl na10 Nat.zero_add Nat.reduceAdd Nat.zero_le at0 at1 at2 at3 at4 W5 _ow X9 _ra _pi _r8 _r7 _rd _r9 _pg _ph _rb _rc _n3 v_s b_0 f_s _sg _sn _si e_bl _sk _sp e_ty _st _sl _sj _sr _ss _su e_or _so _sh _sm e_ix e_sl _qK e_bi e_b2 e_mt _sq _oy _qJ _qI _ox _qh _qg _rr _rq _rp isN0 isN2 isN4 isTy _rZ _rs _rM _pK _rN _rD _rX _rh _pO _px _pN _pw q_lt q_le _rO q_gt _rV _rL _rT _rJ q_is _nd _py _pI _nc _ru _rU _rK _rI q_in _rH KM KN _nb KO _rQ _rP _rx _pr _ry _rw _pB _pE _pC _pD _na _rR _pH _rl _rj _ri _rk _po _n8 _n9 _pp _pL _ne _nf _rY _rW _pM _rS _pv _pu _pt _rC _ps _n7 _rz _rv _pq _ro _rn _rm _rG _rF _rE _rt _rA _rB _pA _pz _pJ WU CMul CPow List.getElem?_cons_zero List.getElem?_cons_succ Option.some.injEq MV.int.injEq MV.bl.injEq MV.tup.injEq MV.ref.injEq MO.lst.injEq MO.dic.injEq MO.ins.injEq Prod.mk.injEq exists_eq_left' exists_eq_left exists_and_left true_and and_true false_and and_false true_or or_true false_or or_false reduceCtorEq ne_eq not_false_eq_true not_true_eq_false List.set_cons_zero List.set_cons_succ decide_eq_true_eq Bool.not_eq_true' decide_eq_false_iff_not if_true if_false Bool.false_eq_true reduceIte List.length_cons List.length_nil and_self String.reduceEq String.reduceNe Int.reduceLT Int.reduceLE Int.reducePow Int.reduceNeg Int.reduceToNat Int.reduceSub Int.reduceAdd Int.reduceMul Nat.reduceLT Nat.reducePow Nat.reduceLeDiff".splitOn " ").toArray.mapM λs=>`(Lean.Parser.Tactic.simpLemma|$(Lean.mkIdent s.toName):term)
 `(tactic|simp only[$[$a:simpLemma],*])
local macro_rules|`(tactic|simp!)=>`(tactic|walk_at "s")
local macro_rules|`(tactic|simp! [$l,*])=>`(tactic|repeat (first|walk_at "s"|simp only [$l,*]))
theorem _ov{j:Sort _}{p q:j->Prop}(h:∀a,p a->q a):(∃a,p a)->∃a,q a:=fun⟨a,x⟩=>⟨a,h a x⟩
theorem _lO{a b c:Prop}(h:b->c):a/\b->a/\c:=λx=>⟨x.1,h x.2⟩
theorem _kk{a b c d:Prop}(h:a->c)(g:b->d):a/\b->c/\d:=λx=>⟨h x.1,g x.2⟩
theorem _nw{a b c d:Prop}(h:a->c)(g:b->d):a\/b->c\/d:=λx=>x.elim (λy=>.inl (h y)) λy=>.inr (g y)
theorem _lQ{j:Sort _}{p q:j->Prop}(h:∀a,p a->q a):(∀a,p a)->∀a,q a:=λx a=>h a (x a)
local macro_rules | `(tactic| walk_at "m") => `(tactic| (intro vs M Q Q' hq; repeat (first | exact hq _ _ | exact id | refine _ov fun _ => ?_ | refine _lO ?_ | refine _kk ?_ ?_ | refine _lQ fun _ => ?_ | refine _nw ?_ ?_)))
noncomputable def SameM(M M':MH):Prop:=∀a o,M a=some o->M' a=some o
theorem SameM.refl(M:MH):SameM M M:=λ_ _ h=>h
theorem SameM.trans{M M1 M2:MH}(a:SameM M M1)(b:SameM M1 M2):SameM M M2:=λc o h=>b c o (a c o h)
theorem neM{M:MH}{a p:Addr}{o:MO}(h:M a=some o)(j:M p=none):a≠p:=by intro e;subst e;rw[h]at j;cases j
theorem SameM.new{M:MH}{p:Addr}(h:M p=none)(o:MO):SameM M (updM M p o):=λa u e=>by rw[Xc (neM e h)];exact e
theorem SameM.free{M M':MH}(s:SameM M M'){p:Addr}(h:M' p=none):M p=none:=by
 cases e:M p with
 |none=>rfl
 |some o=>rw[s _ _ e]at h;cases h
theorem SameM.upd{M M':MH}(s:SameM M M'){p:Addr}(h:M p=none)(o:MO):SameM M (updM M' p o):=λa u e=>by rw[Xc (neM e h)];exact s a u e
theorem W6{lo:Int}{n i:Nat}{x:MV}(h:(Src.rng lo n).items[i]?=some x):i<n/\x=.int (lo+(i:Nat)):=by
 have j:=(XF.mp h).1;rw[Src.items_len]at j;refine⟨j,?_⟩;have l:((Xt n).map λi=>MV.int (lo+(i:Nat)))[i]?=some x:=h;rw[Xq,X8 (by simpa using(show i<n from j))]at l
 simpa using l.symm
theorem YZ{l:Type}{f:l->MV}{xs:List l}{i:Nat}{x:MV}(h:(xs.map f)[i]?=some x):∃j:i<xs.length,x=f xs[i]:=by
 have j:=(XF.mp h).1;rw[Xd]at j;refine⟨j,?_⟩;rw[Xq,X8 j]at h;exact(Y9 h).symm
theorem UH{Φ:List (Str×SpM)}(l:∀p∈Φ,MonW p.2):∀(j:Nat)f sp,Φ[j]?=some (f,sp)->MonW sp:=λj f sp h=>l (f,sp) (Xo h)
theorem Rc(xs:List MV)(k:Nat):cutM xs none (some (k:Int))=xs.take k:=by
 unfold cutM;rw[HT.sIx_none,HT.sIx_nat];simp
theorem _i1(xs:List MV)(k:Nat):cutM xs (some (k:Int)) none=xs.drop k:=by
 unfold cutM;rw[HT.sIx_none,HT.sIx_nat];by_cases h:k<=xs.length
 .rw[Nat.min_eq_left h,Wr (by rw[C8];exact Xe _)]
 .rw[Nat.min_eq_right (by lia),HG (Xe _),HG (by lia)]
  simp
theorem Dk{w:Type} [DecidableEq w] (k:w)(v:MV)(j:w):∀l:List (w×MV),valM (putM l k v) j=if j=k then some v else valM l j
 |[]=>by
  unfold putM valM;by_cases e:k=j
  .rw[if_pos e,if_pos e.symm]
  .rw[if_neg e,if_neg (λz=>e z.symm)]
   rfl
 |(i,u)::r=>by
  unfold putM;by_cases e:i=k
  .rw[if_pos e];subst e;unfold valM;by_cases f:i=j
   .rw[if_pos f,if_pos f.symm]
   .rw[if_neg f,if_neg (λz=>f z.symm),if_neg f]
  .rw[if_neg e];unfold valM;by_cases f:i=j
   .rw[if_pos f,if_neg (λz=>e (f.trans z)),if_pos f]
   .rw[if_neg f,Dk k v j r,if_neg f]
inductive Form where|plus|minus|times|less|same
noncomputable def Form.str:Form->Str
 |.plus=>"plus"|.minus=>"minus"|.times=>"times"|.less=>"less"|.same=>"same"
inductive Tm where
 |num (n:Int)|var (x:Str)|two (f:Form)(a b:Tm)|pick (c a b:Tm)
noncomputable def Tm.depth:Tm->Nat
 |.num _=>1|.var _=>1|.two _ a b=>1+max a.depth b.depth|.pick c a b=>1+max c.depth (max a.depth b.depth)
noncomputable def Tm.size:Tm->Nat
 |.num _=>1|.var _=>1|.two _ a b=>1+(a.size+b.size)|.pick c a b=>1+(c.size+(a.size+b.size))
noncomputable def Tm.reads:Tm->List Str
 |.num _=>[]|.var x=>[x]|.two _ a b=>a.reads++b.reads|.pick c a b=>c.reads++(a.reads++b.reads)
noncomputable def twoV(w:Nat)(l r:Int):Form->Int
 |.plus=>(l+r)%2^w
 |.minus=>(l - r)%2^w
 |.times=>(l*r)%2^w
 |.less=>if l<r then 1 else 0
 |.same=>if l=r then 1 else 0
def Tm.val(ρ:Str->Int)(w:Nat):Tm->Int
 |.num n=>n%2^w
 |.var x=>ρ x
 |.two f a b=>twoV w (a.val ρ w) (b.val ρ w) f
 |.pick c a b=>if c.val ρ w≠0 then a.val ρ w else b.val ρ w
theorem BC(w:Nat):(0:Int)<2^w:=Int.pow_pos (by decide)
theorem Re{w:Nat}(h:1<=w):(2:Int)<=2^w:=by
 obtain⟨k,rfl⟩:∃k,w=k+1:=⟨w - 1,by lia⟩
 rw[Int.pow_succ];have:=BC k;lia
theorem Rf{w:Nat}(h:w<=64):(2:Int)^w<=2^64:=by
 have:=Ck (n:=2) (by decide) h
 have j:(2:Int)^w=((2^w:Nat):Int):=by rw[WF];rfl
 have l:(2:Int)^64=((2^64:Nat):Int):=by decide
 rw[j,l];exact Int.ofNat_le.mpr this
theorem Dl(x:Int)(w:Nat):0<=x%2^w/\x%2^w<2^w:=⟨ZG _ (Int.ne_of_gt (BC w)),U7 _ (BC w)⟩
theorem twoV_in{w:Nat}(hw:1<=w)(l r:Int)(f:Form):0<=twoV w l r f/\twoV w l r f<2^w:=by
 have:=Re hw;cases f
 .exact Dl _ _
 .exact Dl _ _
 .exact Dl _ _
 .unfold twoV;split<;>lia
 .unfold twoV;split<;>lia
theorem Tm.val_in{ρ:Str->Int}{w:Nat}(hw:1<=w):∀{T:Tm},(∀x∈T.reads,0<=ρ x/\ρ x<2^w)->0<=T.val ρ w/\T.val ρ w<2^w
 |.num n,_=>Dl _ _
 |.var x,h=>h x (by simp[Tm.reads])
 |.two f a b,_=>twoV_in hw _ _ f
 |.pick c a b,h=>by
  unfold Tm.val;split
  .exact a.val_in hw λx j=>h x (by simp[Tm.reads,j])
  .exact b.val_in hw λx j=>h x (by simp[Tm.reads,j])
theorem Tm.depth_pos:∀T:Tm,1<=T.depth
 |.num _=>Xe _
 |.var _=>Xe _
 |.two _ _ _=>Nat.le_add_right _ _
 |.pick _ _ _=>Nat.le_add_right _ _
noncomputable def Tm.mv:Tm->MV
 |.num n=>.tup [.str "num",.int n]
 |.var x=>.tup [.str "var",.str x]
 |.two f a b=>.tup [.str f.str,a.mv,b.mv]
 |.pick c a b=>.tup [.str "pick",c.mv,a.mv,b.mv]
theorem Rg(f:Form):¬f.str="num":=by cases f<;>decide+kernel
theorem GA(f:Form):¬f.str="var":=by cases f<;>decide+kernel
theorem _jQ(f:Form):¬f.str="pick":=by cases f<;>decide+kernel
inductive Stp where
 |take (f x:Str)|give (f:Str)(T:Tm)|put (x:Str)(T:Tm)|jump (T:Tm)(i:Int)
noncomputable def Stp.mv:Stp->MV
 |.take f x=>.tup [.str "take",.str f,.str x]
 |.give f T=>.tup [.str "give",.str f,T.mv]
 |.put x T=>.tup [.str "put",.str x,T.mv]
 |.jump T i=>.tup [.str "jump",T.mv,.int i]
noncomputable def tmOk(j:List Str)(T:Tm):Prop:=T.depth<=8/\T.size<=30/\∀x∈T.reads,x∈j
def Stp.ok(j:List Str)(n:Nat):Stp->Prop
 |.take _ x=>x∈j
 |.give _ T=>tmOk j T
 |.put x T=>x∈j/\tmOk j T
 |.jump T i=>tmOk j T/\0<=i/\i<=n
noncomputable def Dm(M:MH)(x:MV)(xs:List MV):Prop:=x=.tup xs\/∃a,x=.ref a/\M a=some (.lst xs)
def readsOk(l:List Str)(j:List (Key×MV))(ρ:Str->Int)(w:Nat):Prop:=∀x∈l,valM j (Xs x)=some (.int (ρ x))/\0<=ρ x/\ρ x<2^w
theorem readsOk.tm{l:List Str}{j:List (Key×MV)}{ρ:Str->Int}{w:Nat}(h:readsOk l j ρ w){T:Tm}(o:tmOk l T):∀x∈T.reads,valM j (Xs x)=some (.int (ρ x))/\0<=ρ x/\ρ x<2^w:=λx u=>h x (o.2.2 x u)
section
variable{P:Xw}{w:Xm}{K:X4}{mg:Str->Option X0}{base:Heap}{t:Adr}
noncomputable abbrev Zr:SpM:=λj M Q=>∃k:Nat,j=[.int k]/\k<=64/\Q (.int (2^k)) M
theorem Do:MonW Zr:=by walk_at "m"
theorem Dp(T:Txt K mg t):FnOk P w K mg base CX0 1 t.gF t.cP ["exponent"] (liSp K Zr):=by
 refine T.aF.F.okM _iD (fC (G:=L4) (Φ:=[]) T rfl nl0 nl0) F1 _k2 (λu M Q h=>?_) (λu M Q h=>?_)
 .obtain⟨k,rfl,_⟩:=h;rfl
 obtain⟨k,rfl,z,q⟩:=h;show wSs _ _ _ [some (.int k),none,none] M;delta F1 L3;simp!;delta L1;simp!;refine⟨by lia,by lia,λi j l=>l=M/\∃v,j=[some (.int k),some (.int (2^i)),v],⟨rfl,_,rfl⟩,λ_ _ _ _=>trivial,?_,?_⟩
 .rintro i x j l y ⟨rfl,v,rfl⟩;obtain⟨m,rfl⟩:=W6 y;delta L0;simp!;exact⟨_,by rw[Int.pow_succ]⟩
 .rintro j l ⟨rfl,v,rfl⟩;delta KZ;simp!;exact q
noncomputable abbrev Dq:SpM:=λj M Q=>∃(w:Nat) (n:Int),j=[.int w,.int n]/\w<=64/\Q (.int (n%2^w)) M
theorem Rh:MonW Dq:=by walk_at "m"
theorem Ri(T:Txt K mg t):FnOk P w K mg base CX0 2 t.dy t.iA ["width","number"] (liSp K Dq):=by
 refine T.aG.F.okM _pf (fC (G:=L8) (Φ:=[("two_to",Zr)]) T rfl (fMc ⟨Do,nl0⟩) (fMc ⟨fE T.aF (Dp T),nl0⟩)) F3 _qO (fun j M Q h=>?_) (fun j M Q h=>?_)
 .obtain⟨k,n,rfl,_⟩:=h;rfl
 obtain⟨w,n,rfl,l,q⟩:=h;show wSs _ _ _ [some (.int w),some (.int n)] M;delta F3 L7;simp!;exact⟨w,rfl,l,BC w,q⟩
abbrev GD:SpM:=λj M Q=>∃(f:Form) (l r:Int) (w:Nat),j=[.str f.str,.int l,.int r,.int w]/\w<=64/\(-(2^64)<l/\l<2^64)/\Q (.int (twoV w l r f)) M
theorem _88:MonW GD:=by walk_at "m"
theorem _bo(T:Txt K mg t):FnOk P w K mg base CX0 3 t.gQ t.gK ["form","left","right","width"] (liSp K GD):=by
 refine T.aN.F.okM _ba (fC (G:=MK) (Φ:=[("cut",Dq)]) T rfl (fMc ⟨Rh,nl0⟩) (fMc ⟨fE T.aG (Ri T),nl0⟩)) Fz _c1 (fun u M Q h=>?_) (fun u M Q h=>?_)
 .obtain⟨f,l,r,w,rfl,_⟩:=h;rfl
 obtain⟨f,l,r,w,rfl,j,y,q⟩:=h;show wSs _ _ _ [some (.str f.str),some (.int l),some (.int r),some (.int w)] M;delta Fz MJ;simp!;cases f with
 |plus=>
  rw[if_pos (by rfl),MI]
  simp!;exact⟨w,_,rfl,j,q⟩
 |minus=>
  rw[if_neg (by decide+kernel),Bu]
  simp!;rw[if_pos (by rfl),MG]
  simp!;exact⟨w,_,rfl,j,q⟩
 |times=>
  rw[if_neg (by decide+kernel),Bu]
  simp!;rw[if_neg (by decide+kernel),Df]
  simp!;rw[if_pos (by rfl),MF]
  simp!;exact⟨.inl y,w,_,rfl,j,q⟩
 |less=>
  rw[if_neg (by decide+kernel),Bu]
  simp!;rw[if_neg (by decide+kernel),Df]
  simp!;rw[if_neg (by decide+kernel),Fy]
  simp!;rw[if_pos (by rfl),ME]
  simp!;unfold twoV at q;split<;>simp_all
 |same=>
  rw[if_neg (by decide+kernel),Bu]
  simp!;rw[if_neg (by decide+kernel),Df]
  simp!;rw[if_neg (by decide+kernel),Fy]
  simp!;rw[if_neg (by decide+kernel),MD]
  simp!;unfold twoV at q;split<;>simp_all
abbrev UI(n:Nat):SpM:=λu M Q=>∃(T:Tm) (w:Nat) (d:Addr) (j:List (Key×MV)) (l:Str->Int),u=[T.mv,.int w,.ref d]/\T.depth<=n/\1<=w/\w<=64/\M d=some (.dic j)/\
 (∀x∈T.reads,valM j (Xs x)=some (.int (l x))/\0<=l x/\l x<2^w)/\Q (.int (T.val l w)) M
theorem Dr(n:Nat):MonW (UI n):=by walk_at "m"
theorem Ds(T:Txt K mg t):∀n:Nat,FnOk P w K mg base CX0 (n+3) t.ft t.ef ["T","width","words"] (liSp K (UI n))
 |0=>by
  have I:∀R M Q,¬UI 0 R M Q:=λR M Q h=>by
   obtain⟨T,w,d,u,j,_,B,_⟩:=h;have:=T.depth_pos;lia
  exact⟨λR H Q E ⟨S,M,r,X,h⟩=>absurd h (I _ _ _),λA C s H J a R Q E _ _ _ _ ⟨S,M,r,X,h⟩=>absurd h (I _ _ _)⟩
 |n+1=>by
  have v:=Ds T n;refine T.ae.F.okM _kM (fC (G:=MR) (Φ:=[("cut",Dq),("worth",(UI n)),("worth_of_two",GD)]) T rfl (fMc ⟨Rh,(fMc ⟨(Dr _),(fMc ⟨_88,nl0⟩)⟩)⟩) (fMc ⟨⟨_,_,_,FnOk.mono (Ri T) (by lia),T.aG.m,T.aG.F.kp,T.aG.b⟩,(fMc ⟨⟨_,_,_,v,T.ae.m,T.ae.F.kp,T.ae.b⟩,(fMc ⟨⟨_,_,_,FnOk.mono (_bo T) (by lia),T.aN.m,T.aN.F.kp,T.aN.b⟩,nl0⟩)⟩)⟩)) FC _lD (fun R M Q h=>?_) (fun R M Q h=>?_)
  .obtain⟨T,w,d,u,j,rfl,_⟩:=h;rfl
  obtain⟨U,w,d,u,j,rfl,Z,y,p,W,Y,q⟩:=h;show wSs _ _ _ [some U.mv,some (.int w),some (.ref d),none] M;have o:=Rf p;delta FC MQ;cases U with
  |num m=>
   simp only[Tm.mv];simp!;delta MP;simp!;exact⟨w,m,rfl,p,q⟩
  |var x=>
   have i:=(Y x (by simp[Tm.reads])).1
   simp only[Tm.mv];simp!;delta Dh;simp!;delta MN;simp!;simp only[W];simp!;exact⟨_,i,q⟩
  |two f l r=>
   have L:l.depth<=n:=by unfold Tm.depth at Z;lia
   have N:r.depth<=n:=by unfold Tm.depth at Z;lia
   have g:∀x∈l.reads,valM u (Xs x)=some (.int (j x))/\0<=j x/\j x<2^w:=λx z=>Y x (by simp[Tm.reads,z])
   have O:∀x∈r.reads,valM u (Xs x)=some (.int (j x))/\0<=j x/\j x<2^w:=λx z=>Y x (by simp[Tm.reads,z])
   have b:=l.val_in y λx z=>(g x z).2;simp only[Tm.mv];simp!;rw[if_neg (Rg f),Dh];simp!;rw[if_neg (GA f),FB];simp!;refine⟨l,w,d,u,j,rfl,L,y,p,W,g,?_⟩;delta FA;simp!;rw[if_neg (_jQ f),ML];simp!;exact⟨r,w,d,u,j,rfl,N,y,p,W,O,f,_,_,w,rfl,p,⟨by lia,by lia⟩,q⟩
  |pick c l r=>
   have D:c.depth<=n:=by unfold Tm.depth at Z;lia
   have L:l.depth<=n:=by unfold Tm.depth at Z;lia
   have N:r.depth<=n:=by unfold Tm.depth at Z;lia
   have F:∀x∈c.reads,valM u (Xs x)=some (.int (j x))/\0<=j x/\j x<2^w:=λx z=>Y x (by simp[Tm.reads,z])
   have g:∀x∈l.reads,valM u (Xs x)=some (.int (j x))/\0<=j x/\j x<2^w:=λx z=>Y x (by simp[Tm.reads,z])
   have O:∀x∈r.reads,valM u (Xs x)=some (.int (j x))/\0<=j x/\j x<2^w:=λx z=>Y x (by simp[Tm.reads,z])
   simp only[Tm.mv];simp!;delta Dh;simp!;delta FB;simp!;refine⟨c,w,d,u,j,rfl,D,y,p,W,F,?_⟩;delta FA;simp!;delta MM;simp!;refine Y3 (λB=>?_) (λB=>?_)
   .have e:Tm.val j w (.pick c l r)=l.val j w:=if_pos B;rw[e]at q;exact⟨l,w,d,u,j,rfl,L,y,p,W,g,q⟩
   .have e:Tm.val j w (.pick c l r)=r.val j w:=if_neg B;rw[e]at q;exact⟨r,w,d,u,j,rfl,N,y,p,W,O,q⟩
noncomputable def dueM(j:List Stp)(ρ:Str->Int)(w:Nat)(i:Nat):MV:=match j[i]? with
 |none=>.non
 |some (.take f _)=>.tup [.str "take",.str f]
 |some (.give f T)=>.tup [.str "give",.str f,.int (T.val ρ w)]
 |some _=>.tup [.str "own"]
abbrev Va:SpM:=λm M Q=>∃(x:MV) (u:Addr) (j:List Stp) (i w:Nat) (l:List (Key×MV)) (y:Str->Int) (z:List Str),m=[.int w,x,.int i,.ref u]/\Dm M x (j.map Stp.mv)/\(∀s∈j,s.ok z j.length)/\i<=j.length/\1<=w/\w<=64/\M u=some (.dic l)/\readsOk z l y w/\
 Q (dueM j y w i) M
theorem _g1:MonW Va:=by walk_at "m"
theorem _nE(T:Txt K mg t):FnOk P w K mg base CX0 50 t.cY t.gM ["width","steps","number","words"] (liSp K Va):=by
 refine T.cu.F.okM _mY (fC (G:=MX) (Φ:=[("worth",(UI 40))]) T rfl (fMc ⟨(Dr _),nl0⟩) (fMc ⟨⟨_,_,_,FnOk.mono (Ds T 40) (by decide),T.ae.m,T.ae.F.kp,T.ae.b⟩,nl0⟩)) FH _oC (fun O M Q h=>?_) (fun O M Q h=>?_)
 .obtain⟨_,_,_,_,_,_,_,_,rfl,_⟩:=h;rfl
 obtain⟨x,m,u,i,w,g,z,B,rfl,W,d,C,r,p,e,Y,q⟩:=h;show wSs _ _ _ [some (.int w),some x,some (.int i),some (.ref m),none] M;delta FH MW;have len:∀R:Prop,R->R:=λ_ h=>h;have rest:∀l:i<u.length,wSs [("worth",UI 40)] FE {nx:=fun x Z=>Q MV.non Z,rt:=Q} [some (.int w),some x,some (.int i),some (.ref m),some u[i].mv] M:=by
  intro l;have ok:=d u[i] (XU _);have A:dueM u z w i=dueM [u[i]] z w 0:=by unfold dueM;rw[X8 l];rfl
  rw[A]at q;obtain⟨s,L⟩:∃s,u[i]=s:=⟨_,rfl⟩;rw[L]at ok q;rw[L];delta FE;cases s with
  |take f x=>
   simp only[Stp.mv];simp!;delta MU;simp!;exact q
  |give f U=>
   simp only[Stp.mv];simp!;delta Di;simp!;delta MS;simp!;exact⟨U,w,m,g,z,rfl,XY ok.1 (by decide),r,p,e,Y.tm ok,q⟩
  |put x U=>
   simp only[Stp.mv];simp!;delta Di;simp!;delta FD;simp!;exact q
  |jump U j=>
   simp only[Stp.mv];simp!;delta Di;simp!;delta FD;simp!;exact q
 have N:¬i<u.length->dueM u z w i=.non:=λc=>by unfold dueM;rw[HE.mpr (by lia)]
 rcases W with rfl|⟨D,rfl,y⟩
 .simp!;rw[Xd];refine Y3 (λc=>?_) (λc=>?_)
  .delta FG;simp!;rw[<-N (by lia)]
   exact q
  have l:i<u.length:=by lia
  delta FF;simp!;exact⟨_,Yr (by rw[Xq,X8 l];rfl),rest l⟩
 .simp![y]
  rw[Xd];refine Y3 (λc=>?_) (λc=>?_)
  .delta FG;simp!;rw[<-N (by lia)]
   exact q
  have l:i<u.length:=by lia
  delta FF
  simp![y]
  exact⟨_,Yr (by rw[Xq,X8 l];rfl),rest l⟩
noncomputable def Zs(s:Stp)(ρ:Str->Int)(w i:Nat):Int:=match s with
 |.jump T j=>if T.val ρ w≠0 then j else(i:Int)+1
 |_=>(i:Int)+1
def Uh(s:Stp)(j:List (Key×MV))(ρ:Str->Int)(w:Nat)(wd:MV):List (Key×MV):=match s with
 |.take _ x=>putM j (Xs x) wd
 |.put x T=>putM j (Xs x) (.int (T.val ρ w))
 |_=>j
abbrev GE:SpM:=λm M Q=>∃(x:MV) (u:Addr) (l:List Stp) (i w:Nat) (j:List (Key×MV)) (y:Str->Int) (z:List Str) (s:Stp),m=[.int w,x,.int i,.ref u]/\Dm M x (l.map Stp.mv)/\l[i]?=some s/\s.ok z l.length/\1<=w/\w<=64/\M u=some (.dic j)/\readsOk z j y w/\
 Q (.int (Zs s y w i)) M
theorem _89:MonW GE:=by walk_at "m"
theorem Rj{M:MH}{x:MV}{l:List Stp}{i:Nat}{s:Stp}{Q:QM}(u:Dm M x (l.map Stp.mv))(y:l[i]?=some s)(q:Q s.mv M):wIx x (.int i) M Q:=by
 have j:atI (l.map Stp.mv) (i:Int)=some s.mv:=Yr (by rw[Xq,y];rfl)
 rcases u with rfl|⟨a,rfl,h⟩
 .rw[KO];exact⟨_,j,q⟩
 .rw[KM,h,KN];exact⟨_,j,q⟩
theorem _bq(T:Txt K mg t):FnOk P w K mg base CX0 50 t.fh t.fG ["width","steps","number","words"] (liSp K GE):=by
 refine T.aQ.F.okM _bd (fC (G:=N1) (Φ:=[("worth",(UI 40))]) T rfl (fMc ⟨(Dr _),nl0⟩) (fMc ⟨⟨_,_,_,FnOk.mono (Ds T 40) (by decide),T.ae.m,T.ae.F.kp,T.ae.b⟩,nl0⟩)) FI _c4 (fun d M Q h=>?_) (fun d M Q h=>?_)
 .obtain⟨_,_,_,_,_,_,_,_,_,rfl,_⟩:=h;rfl
 obtain⟨x,g,N,i,w,l,u,O,s,rfl,r,p,ok,y,z,m,L,q⟩:=h;show wSs _ _ _ [some (.int w),some x,some (.int i),some (.ref g),none] M;delta FI N0;simp!;refine Rj r p ?_;delta MZ;cases s with
 |take f x=>
  simp only[Stp.mv];simp!;delta Bv;simp!;exact q
 |give f U=>
  simp only[Stp.mv];simp!;delta Bv;simp!;exact q
 |put x U=>
  simp only[Stp.mv];simp!;delta Bv;simp!;exact q
 |jump U j=>
  simp only[Stp.mv];simp!;refine⟨U,w,g,l,u,rfl,XY ok.1.1 (by decide),y,z,m,L.tm ok.1,?_⟩
  simp!;refine Y3 (λc=>?_) (λc=>?_)
  .have e:Zs (.jump U j) u w i=j:=if_pos c;rw[e]at q;delta MY;simp!;exact q
  .have e:Zs (.jump U j) u w i=(i:Int)+1:=if_neg c;rw[e]at q;delta Bv;simp!;exact q
abbrev GF:SpM:=λm M Q=>∃(l:Addr) (w:Nat) (j:List (Key×MV)) (u:Str->Int) (y:List Str) (s:Stp) (k:Nat) (z:MV),m=[.int w,s.mv,.ref l,z]/\s.ok y k/\1<=w/\w<=64/\M l=some (.dic j)/\j.length<=1000/\readsOk y j u w/\
 ∀p,M p=none->Q (.ref p) (updM M p (.dic (Uh s j u w z)))
theorem _8z:MonW GF:=by walk_at "m"
theorem _cv(T:Txt K mg t):FnOk P w K mg base CX0 50 t.dj t.iD ["width","step","words","word"] (liSp K GF):=by
 refine T.aK.F.okM _cm (fC (G:=N6) (Φ:=[("worth",(UI 40))]) T rfl (fMc ⟨(Dr _),nl0⟩) (fMc ⟨⟨_,_,_,FnOk.mono (Ds T 40) (by decide),T.ae.m,T.ae.F.kp,T.ae.b⟩,nl0⟩)) FJ _cM (fun c M Q h=>?_) (fun c M Q h=>?_)
 .obtain⟨_,_,_,_,_,_,_,_,rfl,_⟩:=h;rfl
 obtain⟨g,w,l,r,R,s,k,e,rfl,ok,z,m,u,L,N,q⟩:=h;show wSs _ _ _ [some (.int w),some s.mv,some (.ref g),some e,none] M;delta FJ N5
 simp![u]
 intro p d;have y:=SameM.new d (.dic l) _ _ u;have O:updM M p (.dic l) p=some (.dic l):=X9;have q:=q p d;delta N4;cases s with
 |take f x=>
  simp only[Stp.mv];simp!;delta N3;simp!;refine⟨by lia,?_⟩
  rw[YF];delta Bx;simp!;delta Bw;simp!;exact q
 |give f U=>
  simp only[Stp.mv];simp!;delta Bx;simp!;delta Bw;simp!;exact q
 |put x U=>
  simp only[Stp.mv];simp!;delta Bx;simp!;delta N2;simp!;refine⟨U,w,g,l,r,rfl,XY ok.2.1 (by decide),z,m,y,N.tm ok.2,?_⟩
  simp!;refine⟨by lia,?_⟩
  rw[YF];delta Bw;simp!;exact q
 |jump U j=>
  simp only[Stp.mv];simp!;delta Bx;simp!;delta Bw;simp!;exact q
abbrev GG:SpM:=λg M Q=>∃(x:MV) (y:Addr) (l:List Stp) (i w:Nat) (j:List (Key×MV)) (u:Str->Int) (z:List Str) (s:Stp) (m:MV),g=[.int w,x,.int i,.ref y,m]/\Dm M x (l.map Stp.mv)/\l[i]?=some s/\s.ok z l.length/\1<=w/\w<=64/\M y=some (.dic j)/\j.length<=1000/\readsOk z j u w/\
 ∀p,M p=none->Q (.tup [.int (Zs s u w i),.ref p]) (updM M p (.dic (Uh s j u w m)))
theorem _eZ:MonW GG:=by walk_at "m"
theorem _le(T:Txt K mg t):FnOk P w K mg base CX0 51 t.dQ t.gB ["width","steps","number","words","word"] (liSp K GG):=by
 refine T.bW.F.okM _kP (fC (G:=N8) (Φ:=[("number_after",GE),("words_after",GF)]) T rfl (fMc ⟨_89,(fMc ⟨_8z,nl0⟩)⟩) (fMc ⟨⟨_,_,_,FnOk.mono (_bq T) (by decide),T.aQ.m,T.aQ.F.kp,T.aQ.b⟩,(fMc ⟨⟨_,_,_,FnOk.mono (_cv T) (by decide),T.aK.m,T.aK.F.kp,T.aK.b⟩,nl0⟩)⟩)) FK _lG (fun L M Q h=>?_) (fun L M Q h=>?_)
 .obtain⟨_,_,_,_,_,_,_,_,_,_,rfl,_⟩:=h;rfl
 obtain⟨x,z,N,i,w,j,g,d,s,c,rfl,f,r,ok,l,u,y,m,e,q⟩:=h;show wSs _ _ _ [some (.int w),some x,some (.int i),some (.ref z),some c] M;delta FK N7;simp!;refine⟨x,z,N,i,w,j,g,d,s,rfl,f,r,ok,l,u,y,e,?_⟩;refine Rj f r ?_;refine⟨z,w,j,g,d,s,_,c,rfl,ok,l,u,y,m,e,λp O=>?_⟩;exact q p O
def szs(j:List Tm):Nat:=(j.map Tm.size).sum
theorem Rk(a b:List Tm):szs (a++b)=szs a+szs b:=by unfold szs;rw[Y0,List.sum_append]
theorem _mS(a:Tm):szs [a]=a.size:=by simp[szs]
theorem Rm{T:Tm}:∀{j:List Tm},T∈j->T.size<=szs j
 |U::j,h=>by
  have e:szs (U::j)=U.size+szs j:=by simp[szs]
  rcases Xk.mp h with z|z
  .subst z;lia
  .have:=Rm z;lia
noncomputable def Tm.kids:Tm->List Tm
 |.num _=>[]
 |.var _=>[]
 |.two _ a b=>[a,b]
 |.pick c a b=>[c,a,b]
theorem Tm.size_kids:∀T:Tm,T.size=1+szs T.kids
 |.num _=>rfl
 |.var _=>rfl
 |.two _ a b=>by simp[Tm.size,Tm.kids,szs]
 |.pick c a b=>by simp[Tm.size,Tm.kids,szs]
noncomputable def mxd(j:List Tm):Nat:=j.foldl (λa T=>max a T.depth) 0
theorem _nP(j:List Tm)(T:Tm):mxd (j++[T])=max (mxd j) T.depth:=by unfold mxd;rw[DV];rfl
theorem Tm.depth_kids:∀T:Tm,T.depth=mxd T.kids+1
 |.num _=>rfl
 |.var _=>rfl
 |.two _ a b=>by simp[Tm.depth,Tm.kids,mxd];lia
 |.pick c a b=>by simp[Tm.depth,Tm.kids,mxd];lia
theorem Tm.kid_depth{T U:Tm}(h:U∈T.kids):U.depth<T.depth:=by
 cases T<;>simp[Tm.kids]at h
 .rcases h with rfl|rfl<;>(simp only[Tm.depth];lia)
 .rcases h with rfl|rfl|rfl<;>(simp only[Tm.depth];lia)
theorem Tm.kid_size{T U:Tm}(h:U∈T.kids):U.size<T.size:=by
 rw[T.size_kids];have:=Rm h;lia
def rds(j:List Tm):List Str:=(j.map Tm.reads).flatten
theorem _n4(j:List Tm)(T:Tm):rds (j++[T])=rds j++T.reads:=by simp[rds]
theorem Tm.reads_kids:∀T:Tm,(∀x,T≠.var x)->T.reads=rds T.kids
 |.num _,_=>rfl
 |.var x,h=>absurd rfl (h x)
 |.two _ a b,_=>by simp[Tm.reads,Tm.kids,rds]
 |.pick c a b,_=>by simp[Tm.reads,Tm.kids,rds]
theorem Tm.reads_len:∀T:Tm,T.reads.length<=T.size
 |.num _=>by simp[Tm.reads]
 |.var _=>by simp[Tm.reads,Tm.size]
 |.two _ a b=>by
  have:=a.reads_len;have:=b.reads_len;simp[Tm.reads,Tm.size];lia
 |.pick c a b=>by
  have:=a.reads_len;have:=b.reads_len;have:=c.reads_len;simp[Tm.reads,Tm.size];lia
theorem Rn:∀j:List Tm,(rds j).length<=szs j
 |[]=>Xe _
 |T::j=>by
  have:=Rn j;have:=T.reads_len;have e:szs (T::j)=T.size+szs j:=by simp[szs]
  have l:rds (T::j)=T.reads++rds j:=by simp[rds]
  rw[e,l,Yt];lia
theorem _kE(j:List Tm)(i:Nat):szs (j.take i)<=szs j:=by
 have l:=Rk (j.take i) (j.drop i);rw[List.take_append_drop]at l;lia
theorem Ro(x:MV)(xs:List MV):cutM (x::xs) (some 1) none=xs:=by
 have:=_i1 (x::xs) 1
 simpa using this
abbrev BD:SpM:=λj M Q=>∃T:Tm,j=[T.mv]/\∀p,M p=none->Q (.ref p) (updM M p (.lst (T.kids.map Tm.mv)))
theorem Rp:MonW BD:=by walk_at "m"
theorem Rq(T:Txt K mg t):FnOk P w K mg base CX0 1 t.fQ t.gP ["T"] (liSp K BD):=by
 refine T.aA.F.okM _bc (fC (G:=Ml) (Φ:=[]) T rfl nl0 nl0) Fq _c3 (λj M Q h=>?_) (λj M Q h=>?_)
 .obtain⟨T,rfl,_⟩:=h;rfl
 obtain⟨U,rfl,q⟩:=h;show wSs _ _ _ [some U.mv] M;delta Fq Mj;cases U with
 |num m=>
  simp only[Tm.mv];simp!;delta Fp;simp!;exact q
 |var x=>
  simp only[Tm.mv];simp!;delta Fp;simp!;exact q
 |two f a b=>
  simp only[Tm.mv];simp!;rw[if_neg (Rg f),if_neg (GA f),Fo];simp!;rw[Ro];exact q
 |pick c a b=>
  simp only[Tm.mv];simp!;delta Fo;simp!;rw[Ro];exact q
abbrev BE(n:Nat):SpM:=λl M Q=>∃T:Tm,l=[T.mv]/\T.depth<=n/\∀j,SameM M j->Q (.tup [.int (T.size:Nat),.int (T.depth:Nat)]) j
theorem Rr(n:Nat):MonW (BE n):=by walk_at "m"
theorem Rs(T:Txt K mg t):∀n:Nat,FnOk P w K mg base CX0 (n+8) t.ik t.dU ["T"] (liSp K (BE n))
 |0=>by
  have p:∀j M Q,¬BE 0 j M Q:=λj M Q h=>by
   obtain⟨T,_,S,_⟩:=h;have:=T.depth_pos;lia
  exact⟨λj H Q E ⟨W,M,r,Y,h⟩=>absurd h (p _ _ _),λA g s H L X j Q E _ _ _ _ ⟨W,M,r,Y,h⟩=>absurd h (p _ _ _)⟩
 |n+1=>by
  have Z:=Rs T n;refine T.aB.F.okM _hy (fC (G:=Mt) (Φ:=[("parts_within",BD),("size_of",(BE n))]) T rfl (fMc ⟨Rp,(fMc ⟨(Rr _),nl0⟩)⟩) (fMc ⟨⟨_,_,_,FnOk.mono (Rq T) (by lia),T.aA.m,T.aA.F.kp,T.aA.b⟩,(fMc ⟨⟨_,_,_,Z,T.aB.m,T.aB.F.kp,T.aB.b⟩,nl0⟩)⟩)) Ft _i4 (fun j M Q h=>?_) (fun j M Q h=>?_)
  .obtain⟨T,rfl,_⟩:=h;rfl
  obtain⟨U,rfl,v,q⟩:=h;show wSs _ _ _ [some U.mv,none,none,none,none] M;delta Ft Ms;simp!;delta Mr;simp!;delta Mq;simp!;refine⟨U,rfl,λm d=>?_⟩;have B:=SameM.new d (.lst (U.kids.map Tm.mv));have N:updM M m (.lst (U.kids.map Tm.mv)) m=some (.lst (U.kids.map Tm.mv)):=X9;generalize updM M m (.lst (U.kids.map Tm.mv))=M1 at*
  simp![N]
  obtain⟨J,l⟩:∃J:Nat->Sm->MH->Prop,∀i u M2,J i u M2↔∃(c f:Option MV),SameM M1 M2/\u=[some U.mv,some (.int ((1+szs (U.kids.take i):Nat):Int)),some (.int ((mxd (U.kids.take i):Nat):Int)),c,f]:=⟨_,λ_ _ _=>Ye⟩;refine⟨J,(l _ _ _).2 ⟨_,_,SameM.refl _,rfl⟩,λi u M2 y=>?_,λi x u M2 C y=>?_,λu M2 y=>?_⟩
  .obtain⟨_,_,z,_⟩:=(l _ _ _).1 y;exact z _ _ N
  .obtain⟨c,f,z,rfl⟩:=(l _ _ _).1 y;obtain⟨O,rfl⟩:=YZ C;have o:=U.kid_depth (XU O);delta Mp;simp!;refine⟨U.kids[i],rfl,by lia,λb D=>?_⟩
   delta Mo;simp!;delta Mn;simp!;have R:U.kids.take (i+1)=U.kids.take i++[U.kids[i]]:=by rw[U1,X8 O];rfl
   have F:((1+szs (U.kids.take i):Nat):Int)+(U.kids[i].size:Nat)=((1+szs (U.kids.take (i+1)):Nat):Int):=by rw[R,Rk,_mS];lia
   have I:(if((U.kids[i].depth:Nat):Int)>(mxd (U.kids.take i):Nat)then((U.kids[i].depth:Nat):Int)else(mxd (U.kids.take i):Nat))=((mxd (U.kids.take (i+1)):Nat):Int):=by
    rw[R,_nP];split<;>lia
   rw[F,I];exact(l _ _ _).2 ⟨_,_,z.trans D,rfl⟩
  .obtain⟨c,f,z,rfl⟩:=(l _ _ _).1 y;have e:U.kids.take (Src.lst m (U.kids.map Tm.mv)).len=U.kids:=by simp[Src.len]
   rw[e];delta Mm;simp!;have:=q M2 (B.trans z);rw[U.size_kids,U.depth_kids]at this;exact this
abbrev W7(n:Nat):SpM:=λl M Q=>∃T:Tm,l=[T.mv]/\T.depth<=n/\T.size<=4000/\∀p j,SameM M j->M p=none->j p=some (.lst (T.reads.map MV.str))->Q (.ref p) j
theorem Rt(n:Nat):MonW (W7 n):=by walk_at "m"
theorem Ru(T:Txt K mg t):∀n:Nat,FnOk P w K mg base CX0 (n+8) t.e9 t.gX ["T"] (liSp K (W7 n))
 |0=>by
  have S:∀z M Q,¬W7 0 z M Q:=λz M Q h=>by
   obtain⟨T,_,O,_⟩:=h;have:=T.depth_pos;lia
  exact⟨λz H Q E ⟨ms,M,r,rh,h⟩=>absurd h (S _ _ _),λA W s H X us z Q E _ _ _ _ ⟨ms,M,r,rh,h⟩=>absurd h (S _ _ _)⟩
 |n+1=>by
  have ih:=Ru T n;refine T.aw.F.okM _dD (fC (G:=MA) (Φ:=[("names_read",(W7 n)),("parts_within",BD)]) T rfl (fMc ⟨(Rt _),(fMc ⟨Rp,nl0⟩)⟩) (fMc ⟨⟨_,_,_,ih,T.aw.m,T.aw.F.kp,T.aw.b⟩,(fMc ⟨⟨_,_,_,FnOk.mono (Rq T) (by lia),T.aA.m,T.aA.F.kp,T.aA.b⟩,nl0⟩)⟩)) Fv _ea (fun z M Q h=>?_) (fun z M Q h=>?_)
  .obtain⟨T,rfl,_⟩:=h;rfl
  obtain⟨U,rfl,hn,hz,q⟩:=h;show wSs _ _ _ [some U.mv,none,none] M;have rest:(∀x,U≠.var x)->wSs [("names_read",W7 n),("parts_within",BD)] Fu {nx:=fun x M'=>Q MV.non M',rt:=Q} [some U.mv,none,none] M:=by
   intro hv;delta Fu;simp!;intro l u;have v:=SameM.new u (.lst []);have O:updM M l (.lst []) l=some (.lst ([]:List MV)):=X9;generalize updM M l (.lst [])=M0 at*;delta Mw;simp!;refine⟨U,rfl,λy j=>?_⟩;have o:=SameM.new j (.lst (U.kids.map Tm.mv));have h1:updM M0 y (.lst (U.kids.map Tm.mv)) y=some (.lst (U.kids.map Tm.mv)):=X9;have Y:=o _ _ O;have t1:=v.trans o;have nk:M y=none:=v.free j;generalize updM M0 y (.lst (U.kids.map Tm.mv))=M1 at*
   simp![h1]
   have ne:l≠y:=by
    intro e;rw[e]at O;rw[O]at j;cases j
   obtain⟨J,g⟩:∃J:Nat->Sm->MH->Prop,∀i d M2,J i d M2↔∃(Z:Option MV),SameM M M2/\M2 y=some (.lst (U.kids.map Tm.mv))/\M2 l=some (.lst ((rds (U.kids.take i)).map MV.str))/\d=[some U.mv,some (.ref l),Z]:=⟨_,λ_ _ _=>Ye⟩;refine⟨J,(g _ _ _).2 ⟨_,t1,h1,Y,rfl⟩,λi d M2 L=>?_,λi x d M2 hx L=>?_,λd M2 L=>?_⟩
   .obtain⟨_,_,R,_⟩:=(g _ _ _).1 L;exact R
   .obtain⟨Z,B,R,N,rfl⟩:=(g _ _ _).1 L;obtain⟨C,rfl⟩:=YZ hx;have hk:=U.kid_depth (XU C);have hk2:=U.kid_size (XU C);delta Mv;simp!;simp only[N];simp!;refine⟨⟨_,rfl⟩,?_⟩;refine⟨U.kids[i],rfl,by lia,by lia,λp3 M3 D n3 g3=>?_⟩
    have F:=D _ _ R;have I:=D _ _ N;simp!;have l1:=Rn (U.kids.take i);have l2:=_kE U.kids i;have l3:=U.size_kids;have l4:=U.kids[i].reads_len;refine⟨_,I,_,g3,by simp only[Xd];lia,(g _ _ _).2 ⟨_,(B.trans D).upd u _,by rw[Xc ne.symm];exact F,?_,rfl⟩⟩
    rw[X9,U1,X8 C,Eo,_n4,Y0]
   .obtain⟨Z,B,R,N,rfl⟩:=(g _ _ _).1 L;have e:U.kids.take (Src.lst y (U.kids.map Tm.mv)).len=U.kids:=by simp[Src.len]
    rw[e,<-U.reads_kids hv]at N;delta Mu;simp!;exact q l M2 B u N
  delta Fv Mz;cases U with
  |num m=>
   simp only[Tm.mv];simp!;exact rest (λ_ e=>by cases e)
  |var x=>
   simp only[Tm.mv];simp!;delta Mx;simp!;exact λp hp=>q p _ (SameM.new hp _) hp X9
  |two f a b=>
   simp only[Tm.mv];simp!;rw[if_neg (GA f)];exact rest (λ_ e=>by cases e)
  |pick c a b=>
   simp only[Tm.mv];simp!;exact rest (λ_ e=>by cases e)
abbrev GH:SpM:=λu M Q=>∃(T:Tm) (N:List Str),u=[T.mv]/\T.depth<=40/\T.size<=4000/\(∀x∈T.reads,x∈N)/\N.length<64/\
 ∀p l (j:List Str),SameM M l->M p=none->l p=some (.lst (j.map MV.str))->j.Nodup->(∀y,y∈j↔y∈T.reads)->PyProof.Rows.sortedS j=true->Q (.ref p) l
theorem _cC:MonW GH:=by walk_at "m"
theorem _hH(T:Txt K mg t):FnOk P w K mg base CX0 50 t.du t.ee ["T"] (liSp K GH):=by
 refine T.aL.F.okM _hx (fC (G:=MC) (Φ:=[("names_read",(W7 40))]) T rfl (fMc ⟨(Rt _),nl0⟩) (fMc ⟨⟨_,_,_,FnOk.mono (Ru T 40) (by decide),T.aw.m,T.aw.F.kp,T.aw.b⟩,nl0⟩)) Fw _i3 (fun u M Q h=>?_) (fun u M Q h=>?_)
 .obtain⟨T,N,rfl,_⟩:=h;rfl
 obtain⟨U,N,rfl,y,z,m,g,q⟩:=h;show wSs _ _ _ [some U.mv] M;delta Fw MB;simp!;refine⟨U,rfl,y,z,λd M1 j O c=>?_⟩;have R:scanBound=4096:=rfl;have:=U.reads_len;exact⟨d,U.reads,N,rfl,c,by lia,m,g,λp f l r e L=>q p _ f (j.trans (SameM.new l _)) (j.free l) X9 r e L⟩
noncomputable abbrev Rv:SpM:=λ_ _ _=>False
theorem _nX:MonW Rv:=λ_ h=>h.elim
theorem _ot{P:Xw}{w:Xm}{K:X4}{mg:Str->Option X0}{base:Heap}{k:Nat}{f:Addr}{j:Xb}{ps:List Str}:FnOk P w K mg base CX0 k f j ps (liSp K λ_ _ _=>False):=
 ⟨λ_ _ _ _ ⟨_,_,_,_,h⟩=>h.elim,λ_ _ _ _ _ _ _ _ _ _ _ _ _ ⟨_,_,_,_,h⟩=>h.elim⟩
noncomputable def Zt(z:Str):Prop:=1<=z.length/\z.length<=8/\∀c∈z.cps.toList,97<=c/\c<=122
theorem Rw{a b:Nat}:([a]:List Nat)<[b]↔a<b:=by
 rw[List.cons_lt_cons_iff];constructor
 .rintro(h|⟨_,h⟩)
  .exact h
  .exact absurd h (by simp)
 .exact .inl
theorem _sy:(("a":Str)).cps.toList=[97]:=by decide+kernel
theorem _sx:(("z":Str)).cps.toList=[122]:=by decide+kernel
theorem le_a{c:Nat}(h:97<=c):(!decide ((⟨#[c]⟩:Str).cps.toList<(("a":Str)).cps.toList))=true:=by
 rw[_sy];have:¬((⟨#[c]⟩:Str).cps.toList<[97]):=λz=>by
  have z:([c]:List Nat)<[97]:=z;rw[Rw]at z;lia
 simpa using this
theorem le_z{c:Nat}(h:c<=122):(!decide ((("z":Str)).cps.toList<(⟨#[c]⟩:Str).cps.toList))=true:=by
 rw[_sx];have:¬([122]<(⟨#[c]⟩:Str).cps.toList):=λz=>by
  have z:([122]:List Nat)<[c]:=z;rw[Rw]at z;lia
 simpa using this
abbrev GJ:SpM:=λl M Q=>∃z:Str,l=[.str z]/\Zt z/\∀j,SameM M j->Q (.bl true) j
theorem _cD:MonW GJ:=by walk_at "m"
theorem _hI(T:Txt K mg t):FnOk P w K mg base CX0 1 t.eU t.eG ["text"] (liSp K GJ):=by
 refine T.cf.F.okM _hA (fC (G:=Na) (Φ:=[]) T rfl nl0 nl0) FL _i6 (λl M Q h=>?_) (λl M Q h=>?_)
 .obtain⟨z,rfl,_⟩:=h;rfl
 obtain⟨z,rfl,⟨r,p,u⟩,q⟩:=h;show wSs _ _ _ [some (.str z)] M;delta FL N9;simp!;refine⟨by lia,?_⟩
 rw[if_pos (by lia:(1:Int)<=(z.length:Int))]
 rw[if_pos (by lia:(z.length:Int)<=8)]
 refine _q z.cps.toList (λc=>.str ⟨#[c]⟩) (λ_=>.bl true) ?_ ?_ (λj f L h=>by simp at h) λD y=>?_
 .simp!;have:z.cps.toList.length=z.length:=Yq;exact⟨rfl,by lia,trivial⟩
 .intro c m N s;obtain⟨g,d⟩:=u c m;simp only[sCm,Xx,Yc,Yn,Yo,Yg,Y7];simp!;rw[if_pos (by simpa using le_a g)]
  simpa using le_z d
 simp!;refine⟨z.cps.toList.map λ_=>true,by rw[Yi];rfl,?_⟩
 have e:((z.cps.toList.map λ_=>true).all id)=true:=by simp
 rw[e];exact q _ (SameM.new y _)
theorem GK{z:Str}{zs:List Str}:inV (toV (.str z)) ((zs.map MV.str).map toV)=decide (z∈zs):=by
 unfold inV
 induction zs with
 |nil=>simp
 |cons a r j=>
  rw[Xx,Xx,ZE,j];have e:eqV (toV (.str a)) (toV (.str z))=decide (a=z):=by
   show(a==z)=decide (a=z);by_cases h:a=z
   .subst h;simp
   .simp[h]
  rw[e];by_cases h:a=z
  .simp[h]
  .have l:¬z=a:=λw=>h w.symm;simp[h,l]
theorem Rx(zs:List Str):(zs.map MV.str).all Yl=true:=by
 rw[C9];intro v j;obtain⟨x,_,rfl⟩:=XQ.mp j
 rfl
abbrev BF:SpM:=λu M Q=>∃(z:Str) (e:Addr) (j:List Str),u=[.str z,.ref e]/\M e=some (.lst (j.map MV.str))/\Zt z/\z∉j/\∀l,SameM M l->Q .non l
theorem GM:MonW BF:=by walk_at "m"
theorem GN(T:Txt K mg t):FnOk P w K mg base CX0 2 t.gI t.cT ["text","earlier"] (liSp K BF):=by
 refine T.aM.F.okM _cp (fC (G:=Nd) (Φ:=[("is_name",GJ)]) T rfl (fMc ⟨_cD,nl0⟩) (fMc ⟨fE T.cf (_hI T),nl0⟩)) FM _cP (fun u M Q h=>?_) (fun u M Q h=>?_)
 .obtain⟨z,a,j,rfl,_⟩:=h;rfl
 obtain⟨z,a,j,rfl,y,m,g,q⟩:=h;show wSs _ _ _ [some (.str z),some (.ref a)] M;delta FM Nc;simp!;refine⟨z,rfl,m,λM1 l=>?_⟩;simp!;delta Nb;simp!;refine .inl ⟨_,l _ _ y,rfl,Rx j,?_⟩;rw[GK,decide_eq_false g];simp!;exact q M1 l
noncomputable def Leaf(v:MV):Prop:=(∃i,v=.int i)\/∃z,v=.str z
def FroD:Nat->MH->MV->MV->Prop
 |0,_,v,v'=>Leaf v/\v'=v
 |n+1,M,v,v'=>(Leaf v/\v'=v)\/∃j:List (MV×MV),(v=.tup (j.map (·.1))\/∃a,v=.ref a/\M a=some (.lst (j.map (·.1))))/\v'=.tup (j.map (·.2))/\j.length<=1000/\∀p∈j,FroD n M p.1 p.2
theorem FroD.keep{M M':MH}(s:SameM M M'):∀{n:Nat} {v l:MV},FroD n M v l->FroD n M' v l
 |0,_,_,h=>h
 |n+1,v,l,h=>by
  rcases h with h|⟨u,j,y,z,m⟩
  .exact .inl h
  .refine .inr ⟨u,?_,y,z,λp g=>(m p g).keep s⟩;rcases j with j|⟨a,e,j⟩
   .exact .inl j
   .exact .inr ⟨a,e,s _ _ j⟩
abbrev ZR(n:Nat):SpM:=λu M Q=>∃v j,u=[v]/\FroD n M v j/\∀l,SameM M l->Q j l
theorem Du(n:Nat):MonW (ZR n):=by walk_at "m"
theorem _gp{n:Nat}(y:∀(j:Nat)f sp,([("frozen",ZR n)]:List (Str×SpM))[j]?=some (f,sp)->MonW sp){vs:List MV} {M:MH} {Q:QM} (h:ZR (n+1) vs M Q):wSs [("frozen",ZR n)] W4 {nx:=fun _ M'=>Q .non M',rt:=Q} (Ae 1 vs) M:=by
 obtain⟨v,O,rfl,g,q⟩:=h;show wSs _ _ _ [some v] M;delta W4 G0;rcases g with⟨l,rfl⟩|⟨d,m,rfl,R,c⟩
 .rcases l with⟨i,rfl⟩|⟨z,rfl⟩
  .simp!;simp only[decide_false,VD,Yj,if_false,reduceCtorEq,ne_eq,not_false_eq_true,true_and];delta W3;simp!;exact q M (SameM.refl _)
  .simp!;simp only[decide_false,VD,Yj,if_false,reduceCtorEq,ne_eq,not_false_eq_true,true_and];delta W3;simp!;exact q M (SameM.refl _)
 .have go:wSs [("frozen",ZR n)] FZ {nx:=fun r M=>wSs [("frozen",ZR n)] W3 {nx:=fun _ M'=>Q .non M',rt:=Q} r M,rt:=Q} [some v] M:=by
   delta FZ;simp!;refine _k0 d (·.1) (·.2) ?_ ?_ y λD M' T s e=>?_
   .rcases m with rfl|⟨a,rfl,u⟩
    .simp!;exact⟨rfl,by lia,trivial,λ_ _ h=>h⟩
    .simp![u]
     exact⟨rfl,by lia,u,λ_ _ h=>h⟩
   .intro p L M' s;simp only[sCm,Xx,Yc,Yn,Yo,Yg,Y7];simp!;exact⟨p.1,p.2,rfl,(c p L).keep s,λM2 N=>⟨rfl,N⟩⟩
   simp![e]
   exact q M' s
  rcases m with rfl|⟨a,rfl,u⟩
  .simp!;simp only[decide_true,Bool.or_true,Bool.true_or,if_true,reduceCtorEq,ne_eq,not_false_eq_true,true_and];exact go
  .simp![u]
   simp only[decide_true,Bool.or_true,Bool.true_or,if_true,reduceCtorEq,ne_eq,not_false_eq_true,true_and];exact go
theorem Ry(T:Txt K mg t):∀n:Nat,FnOk P w K mg base CX0 (n+8) t.i9 t.dL ["value"] (liSp K (ZR n))
 |0=>by
  refine T.ak.F.okM KR (fC (G:=G1) (Φ:=[("frozen",Rv)]) T rfl (fMc ⟨@_nX,nl0⟩) (fMc ⟨⟨_,_,_,_ot,T.ak.m,T.ak.F.kp,T.ak.b⟩,nl0⟩)) W4 Of (fun j M Q h=>?_) (fun j M Q h=>?_)
  .obtain⟨v,u,rfl,_⟩:=h;rfl
  obtain⟨v,u,rfl,⟨l,rfl⟩,q⟩:=h;show wSs _ _ _ [some u] M;delta W4 G0;rcases l with⟨i,rfl⟩|⟨z,rfl⟩
  .simp!;simp only[decide_false,VD,Yj,if_false,reduceCtorEq,ne_eq,not_false_eq_true,true_and];delta W3;simp!;exact q M (SameM.refl _)
  .simp!;simp only[decide_false,VD,Yj,if_false,reduceCtorEq,ne_eq,not_false_eq_true,true_and];delta W3;simp!;exact q M (SameM.refl _)
 |n+1=>by
  have y:=Ry T n;refine T.ak.F.okM KR (fC (G:=G1) (Φ:=[("frozen",(ZR n))]) T rfl (fMc ⟨(Du _),nl0⟩) (fMc ⟨⟨_,_,_,y,T.ak.m,T.ak.F.kp,T.ak.b⟩,nl0⟩)) W4 Of (fun j M Q h=>?_) (fun j M Q h=>?_)
  .obtain⟨v,u,rfl,_⟩:=h;rfl
  exact _gp (UH (fMc ⟨Du n,nl0⟩)) h
structure Isl where
 name:Str
 prs:List (Str×Int)
 stps:List Stp
structure Fer where
 name:Str
 giver:Str
 taker:Str
 k:Nat
 st:Nat
structure Wld where
 w:Nat
 isl:List Isl
 fer:List Fer
noncomputable def prV(p:Str×Int):MV:=.tup [.str p.1,.int p.2]
noncomputable def Fer.mv(f:Fer):MV:=.tup [.str f.name,.str f.giver,.str f.taker,.int f.k,.int f.st]
def Isl.mv(I:Isl):MV:=.tup [.str I.name,.tup (I.prs.map prV),.tup (I.stps.map Stp.mv)]
def Wld.mv(W:Wld):MV:=.tup [.int W.w,.tup (W.isl.map Isl.mv),.tup (W.fer.map Fer.mv)]
noncomputable def Isl.vars(I:Isl):List Str:=I.prs.map (·.1)
noncomputable def Wld.fns(W:Wld):List Str:=W.fer.map (·.name)
noncomputable def Wld.ins(W:Wld):List Str:=W.isl.map (·.name)
noncomputable def TmIn(j:List Str)(T:Tm):Prop:=T.depth<=8/\T.size<=30/\∀x∈T.reads,x∈j
def ZS(fs:List Str)(j:List Str)(n:Nat):Stp->Prop
 |.take f x=>f∈fs/\x∈j
 |.give f T=>f∈fs/\TmIn j T
 |.put x T=>x∈j/\TmIn j T
 |.jump T i=>TmIn j T/\0<=i/\i<=(n:Int)
structure IslOk (w:Nat)(fs:List Str)(I:Isl):Prop where
 nv:I.prs.length<=6
 ns:I.stps.length<=12
 nd:I.vars.Nodup
 gd:∀x∈I.vars,Zt x
 wd:∀p∈I.prs,0<=p.2/\p.2<2^w
 st:∀s∈I.stps,ZS fs I.vars I.stps.length s
structure FerOk (is:List Str)(f:Fer):Prop where
 g:f.giver∈is
 t:f.taker∈is
 ne:f.giver≠f.taker
 k3:f.k<=3
 s1:1<=f.st
 s3:f.st<=3
noncomputable def ZT(F:List Fer)(z:Str):Stp->Prop
 |.take f _=>∀x∈F,x.name=f->x.taker=z
 |.give f _=>∀x∈F,x.name=f->x.giver=z
 |_=>True
structure Wld.Good (W:Wld):Prop where
 w1:1<=W.w
 w2:W.w<=64
 i5:W.isl.length<=5
 f6:W.fer.length<=6
 fg:∀z∈W.fns,Zt z
 ig:∀z∈W.ins,Zt z
 nd:(W.fns++W.ins).Nodup
 io:∀I∈W.isl,IslOk W.w W.fns I
 fo:∀f∈W.fer,FerOk W.ins f
 en:∀I∈W.isl,∀s∈I.stps,ZT W.fer I.name s
def IslIn(M:MH)(I:Isl)(y:MV):Prop:=∃a b,y=.tup [.str I.name,.ref a,.ref b]/\M a=some (.lst (I.prs.map prV))/\M b=some (.lst (I.stps.map Stp.mv))
theorem IslIn.keep{M M':MH}(s:SameM M M'){I:Isl}{y:MV}(h:IslIn M I y):IslIn M' I y:=by
 obtain⟨a,b,e,j,l⟩:=h;exact⟨a,b,e,s _ _ j,s _ _ l⟩
def IslsIn(M:MH)(Is:List Isl)(ys:List MV):Prop:=ys.length=Is.length/\∀(i:Nat)(I:Isl)(y:MV),Is[i]?=some I->ys[i]?=some y->IslIn M I y
theorem IslsIn.keep{M M':MH}(s:SameM M M'){Is:List Isl}{ys:List MV}(h:IslsIn M Is ys):IslsIn M' Is ys:=⟨h.1,λi z y a b=>(h.2 i z y a b).keep s⟩
theorem IslsIn.mem{M:MH}{Is:List Isl}{ys:List MV}(h:IslsIn M Is ys){y:MV}(u:y∈ys):∃I∈Is,IslIn M I y:=by
 obtain⟨i,l,rfl⟩:=Y5 u;have j:i<Is.length:=by rw[<-h.1];exact l
 exact⟨Is[i],XU j,h.2 i _ _ (X8 j) (X8 l)⟩
theorem IslsIn.fst{M:MH}{Is:List Isl}{ys:List MV}(h:IslsIn M Is ys){f:MV->MV}(l:∀z r,f (.tup (.str z::r))=.str z):ys.map f=(Is.map (·.name)).map MV.str:=by
 apply Wv;intro i;rw[Xq,Xq,Xq];by_cases hi:i<ys.length
 .have j:i<Is.length:=by rw[<-h.1];exact hi
  obtain⟨a,b,e,_⟩:=h.2 i _ _ (X8 j) (X8 hi);rw[X8 j,X8 hi,e];show some (f _)=_;rw[l];rfl
 .have j:¬i<Is.length:=by rw[<-h.1];exact hi
  rw[ZC (by lia),ZC (by lia)];rfl
noncomputable abbrev Dv:SpM:=λj M Q=>∃i:Int,j=[.int i]/\Q (.bl true) M
theorem Rz:MonW Dv:=by walk_at "m"
theorem RA(T:Txt K mg t):FnOk P w K mg base CX0 1 t.dq t.iz ["value"] (liSp K Dv):=by
 refine T.aT.F.okM _fT (fC (G:=KU) (Φ:=[]) T rfl nl0 nl0) EZ _gv (λj M Q h=>?_) (λj M Q h=>?_)
 .obtain⟨i,rfl,_⟩:=h;rfl
 obtain⟨i,rfl,q⟩:=h;show wSs _ _ _ [some (.int i)] M;delta EZ KS;simp!
 simpa using q
noncomputable abbrev Dw:SpM:=λj M Q=>∃i:Int,j=[.int i]/\1<=i/\i<=64/\Q (.bl true) M
theorem RB:MonW Dw:=by walk_at "m"
theorem _fW(T:Txt K mg t):FnOk P w K mg base CX0 2 t.gE t.iP ["number"] (liSp K Dw):=by
 refine T.aP.F.okM _fS (fC (G:=KY) (Φ:=[("is_whole",Dv)]) T rfl (fMc ⟨Rz,nl0⟩) (fMc ⟨fE T.aT (RA T),nl0⟩)) F0 _gu (fun j M Q h=>?_) (fun j M Q h=>?_)
 .obtain⟨i,rfl,_⟩:=h;rfl
 obtain⟨i,rfl,l,u,q⟩:=h;show wSs _ _ _ [some (.int i)] M;delta F0 KW;simp!;refine⟨i,rfl,?_⟩;simp!;rw[if_pos l,decide_eq_true u];exact q
noncomputable abbrev GO:SpM:=λj M Q=>∃(k:Nat) (i:Int),j=[.int k,.int i]/\k<=64/\0<=i/\i<2^k/\Q (.bl true) M
theorem _g3:MonW GO:=by walk_at "m"
theorem _nH(T:Txt K mg t):FnOk P w K mg base CX0 2 t.fB t.iK ["width","number"] (liSp K GO):=by
 refine T.bS.F.okM _n1 (fC (G:=L6) (Φ:=[("is_whole",Dv),("two_to",Zr)]) T rfl (fMc ⟨Rz,(fMc ⟨Do,nl0⟩)⟩) (fMc ⟨fE T.aT (RA T),(fMc ⟨fE T.aF (Dp T),nl0⟩)⟩)) F2 _oF (fun j M Q h=>?_) (fun j M Q h=>?_)
 .obtain⟨k,i,rfl,_⟩:=h;rfl
 obtain⟨k,i,rfl,l,u,y,q⟩:=h;show wSs _ _ _ [some (.int k),some (.int i)] M;delta F2 L5;simp!;refine⟨i,rfl,?_⟩;simp!;rw[if_pos u];refine⟨k,rfl,l,?_⟩;simp!;rw[decide_eq_true y];exact q
noncomputable abbrev BG:SpM:=λl M Q=>∃(z:Str) (e:Addr) (j:List Str),l=[.str z,.ref e]/\M e=some (.lst (j.map MV.str))/\z∈j/\Q .non M
theorem GP:MonW BG:=by walk_at "m"
theorem GQ(T:Txt K mg t):FnOk P w K mg base CX0 1 t.bw t.bg ["name","known"] (liSp K BG):=by
 refine T.ao.F.okM KQ (fC (G:=FO) (Φ:=[]) T rfl nl0 nl0) By Nf (λl M Q h=>?_) (λl M Q h=>?_)
 .obtain⟨z,a,j,rfl,_⟩:=h;rfl
 obtain⟨z,a,j,rfl,u,y,q⟩:=h;show wSs _ _ _ [some (.str z),some (.ref a)] M;delta By FN;simp!;refine .inl ⟨_,u,rfl,Rx j,?_⟩;rw[GK,decide_eq_true y];simp!;exact q
theorem GR{l:Type} [DecidableEq l] {zs:List l}(y:zs.Nodup){j:Nat}{z:l}(m:zs[j]?=some z):z∉zs.take j:=λg=>by
 obtain⟨f,rfl⟩:=XF.mp m;obtain⟨k,d,u⟩:=Y5 g;have c:k<j:=by rw[Z6]at d;lia
 rw[List.getElem_take]at u;have:=(C7 y).mp u;lia
theorem GS{l u:Type}{f:l->u}{zs:List l}{j:Nat}{z:l}(y:zs[j]?=some z):(zs.take j).map f++[f z]=(zs.take (j+1)).map f:=by
 rw[U1,y,Y0];rfl
abbrev Dx:SpM:=λl M Q=>∃(f:Addr) (F:List Fer),l=[.ref f]/\M f=some (.lst (F.map Fer.mv))/\F.length<=6/\(F.map (·.name)).Nodup/\(∀x∈F,Zt x.name)/\∀j,SameM M j->Q .non j
theorem RC:MonW Dx:=by walk_at "m"
theorem _5M(T:Txt K mg t):FnOk P w K mg base CX0 3 t.eW t.dk ["ferries"] (liSp K Dx):=by
 refine T.aR.F.okM _5E (fC (G:=Nm) (Φ:=[("refuse_name",BF)]) T rfl (fMc ⟨GM,nl0⟩) (fMc ⟨fE T.aM (GN T),nl0⟩)) FP _6L (fun Y M Q h=>?_) (fun Y M Q h=>?_)
 .obtain⟨f,F,rfl,_⟩:=h;rfl
 obtain⟨f,F,rfl,N,C,Z,A,q⟩:=h;show wSs _ _ _ [some (.ref f),none,none] M;delta FP Nk;simp!;intro p O;have R:=SameM.new O (.lst []);have d:=R _ _ N;have c:updM M p (.lst []) p=some (.lst []):=X9;have r:∀a o,M a=some o->a≠p:=λa o h=>neM h O;generalize updM M p _=M1 at*;delta Nj
 simp![d]
 obtain⟨J,u⟩:∃J:Nat->Sm->MH->Prop,∀j z l,J j z l↔SameM M l/\l p=some (.lst (((F.map (·.name)).take j).map MV.str))/\∃v,z=[some (.ref f),some (.ref p),v]:=⟨_,λ_ _ _=>Ye⟩;refine⟨J,(u _ _ _).mpr ⟨R,by simpa using c,_,rfl⟩,λj z l h=>((u _ _ _).mp h).1 _ _ N,?_,?_⟩
 .rintro j y z l B h;obtain⟨e,m,v,rfl⟩:=(u _ _ _).mp h;obtain⟨g,rfl⟩:=YZ B;have g:j<F.length:=g;have U:(F.map (·.name))[j]?=some F[j].name:=by rw[Xq,X8 g];rfl
  delta Ni
  simp![Fer.mv]
  refine⟨F[j].name,p,(F.map (·.name)).take j,rfl,m,A _ (XU g),GR Z U,λD W=>?_⟩;have L:=W _ _ m;simp!;delta Nh
  simp![Fer.mv,L,Xd,Z6]
  refine⟨⟨_,rfl⟩,by lia,(u _ _ _).mpr ⟨λa o h=>by rw[Xc (r a o h)];exact W _ _ (e _ _ h),?_,_,rfl⟩⟩
  rw[X9,GS U]
 .rintro z l h;obtain⟨e,_⟩:=(u _ _ _).mp h;exact q _ e
abbrev Dy:SpM:=λu M Q=>∃(k:Nat) (f:Addr) (j:List (Str×Int)),u=[.int k,.ref f]/\M f=some (.lst (j.map prV))/\k<=64/\j.length<=6/\(j.map (·.1)).Nodup/\(∀x∈j,Zt x.1/\0<=x.2/\x.2<2^k)/\∀l,SameM M l->Q .non l
theorem RD:MonW Dy:=by walk_at "m"
theorem _85(T:Txt K mg t):FnOk P w K mg base CX0 3 t.cD t.dD ["width","pairs"] (liSp K Dy):=by
 refine T.bP.F.okM _81 (fC (G:=Nv) (Φ:=[("fits",GO),("refuse_name",BF)]) T rfl (fMc ⟨_g3,(fMc ⟨GM,nl0⟩)⟩) (fMc ⟨fE T.bS (_nH T),(fMc ⟨fE T.aM (GN T),nl0⟩)⟩)) FQ _8j (fun Z M Q h=>?_) (fun Z M Q h=>?_)
 .obtain⟨k,f,F,rfl,_⟩:=h;rfl
 obtain⟨k,f,F,rfl,N,A,X,B,C,q⟩:=h;show wSs _ _ _ [some (.int k),some (.ref f),none,none,none] M;delta FQ Nu;simp!;intro p O;have R:=SameM.new O (.lst []);have d:=R _ _ N;have c:updM M p (.lst []) p=some (.lst []):=X9;have r:∀a o,M a=some o->a≠p:=λa o h=>neM h O;generalize updM M p _=M1 at*;delta Nr
 simp![d]
 obtain⟨J,u⟩:∃J:Nat->Sm->MH->Prop,∀j z l,J j z l↔SameM M l/\l p=some (.lst (((F.map (·.1)).take j).map MV.str))/\∃v U,z=[some (.int k),some (.ref f),some (.ref p),v,U]:=⟨_,λ_ _ _=>Ye⟩;refine⟨J,(u _ _ _).mpr ⟨R,by simpa using c,_,_,rfl⟩,λj z l h=>((u _ _ _).mp h).1 _ _ N,?_,?_⟩
 .rintro j y z l D h;obtain⟨e,m,v,U,rfl⟩:=(u _ _ _).mp h;obtain⟨g,rfl⟩:=YZ D;have g:j<F.length:=g;have W:(F.map (·.1))[j]?=some F[j].1:=by rw[Xq,X8 g];rfl
  obtain⟨E,I,S⟩:=C _ (XU g);delta Nq
  simp![prV]
  delta Np;simp!;refine⟨F[j].1,p,(F.map (·.1)).take j,rfl,m,E,GR B W,λH Y=>?_⟩;have L:=Y _ _ m;simp!;delta No
  simp![L,Xd,Z6]
  refine⟨⟨_,rfl⟩,by lia,?_⟩
  delta Nn
  simp![prV]
  refine⟨k,F[j].2,rfl,A,I,S,?_⟩;simp!;refine(u _ _ _).mpr ⟨λa o h=>by rw[Xc (r a o h)];exact Y _ _ (e _ _ h),?_,_,_,rfl⟩
  rw[X9,GS W]
 .rintro z l h;obtain⟨e,_⟩:=(u _ _ _).mp h;exact q _ e
abbrev GT:SpM:=λu M Q=>∃(U:Tm) (e:Addr) (j:List Str),u=[U.mv,.ref e]/\M e=some (.lst (j.map MV.str))/\j.length<=6/\TmIn j U/\∀l,SameM M l->Q .non l
theorem _8A:MonW GT:=by walk_at "m"
theorem _cw(T:Txt K mg t):FnOk P w K mg base CX0 51 t.dt t.dG ["T","known"] (liSp K GT):=by
 refine T.bN.F.okM _cn (fC (G:=NB) (Φ:=[("refuse_unknown",BG),("size_of",(BE 8)),("vars_in",GH)]) T rfl (fMc ⟨GP,(fMc ⟨(Rr _),(fMc ⟨_cC,nl0⟩)⟩)⟩) (fMc ⟨⟨_,_,_,FnOk.mono (GQ T) (by decide),T.ao.m,T.ao.F.kp,T.ao.b⟩,(fMc ⟨⟨_,_,_,FnOk.mono (Rs T 8) (by decide),T.aB.m,T.aB.F.kp,T.aB.b⟩,(fMc ⟨⟨_,_,_,FnOk.mono (_hH T) (by decide),T.aL.m,T.aL.F.kp,T.aL.b⟩,nl0⟩)⟩)⟩)) FR _cN (fun e M Q h=>?_) (fun e M Q h=>?_)
 .obtain⟨U,a,g,rfl,_⟩:=h;rfl
 obtain⟨U,a,g,rfl,L,Z,⟨N,A,d⟩,q⟩:=h;show wSs _ _ _ [some U.mv,some (.ref a),none,none] M;delta FR NA;simp!;refine⟨U,rfl,N,λM1 c=>?_⟩;simp!;delta Nz;simp!;rw[if_neg (by lia:¬((U.size:Nat):Int)>30)]
 rw[if_neg (by lia:¬((U.depth:Nat):Int)>8)]
 delta Ny;simp!;refine⟨U,g,rfl,by lia,by lia,d,by lia,λp M2 O f B l C R _=>?_⟩
 simp![l]
 obtain⟨J,u⟩:∃J:Nat->Sm->MH->Prop,∀j z m,J j z m↔m=M2/\∃v r,z=[some U.mv,some (.ref a),v,r]:=⟨_,λ_ _ _=>Ye⟩;refine⟨J,(u _ _ _).mpr ⟨rfl,_,_,rfl⟩,λj z m h=>by rw[((u _ _ _).mp h).1];exact l,?_,?_⟩
 .rintro j y z m W h;obtain⟨rfl,v,r,rfl⟩:=(u _ _ _).mp h;obtain⟨Y,rfl⟩:=YZ W;delta Nw;simp!;refine⟨O[j],a,g,rfl,f _ _ (c _ _ L),d _ ((R _).mp (XU Y)),?_⟩;simp!;exact(u _ _ _).mpr ⟨rfl,_,_,rfl⟩
 .rintro z m h;obtain⟨rfl,_⟩:=(u _ _ _).mp h;exact q _ (c.trans f)
theorem GU{f x:Str}:(Stp.take f x).mv=.tup [.str "take",.str f,.str x]:=rfl
theorem GV{f:Str}{U:Tm}:(Stp.give f U).mv=.tup [.str "give",.str f,U.mv]:=rfl
theorem GW{f:Str}{U:Tm}:(Stp.put f U).mv=.tup [.str "put",.str f,U.mv]:=rfl
theorem GX{i:Int}{U:Tm}:(Stp.jump U i).mv=.tup [.str "jump",U.mv,.int i]:=rfl
abbrev Dz:SpM:=λu M Q=>∃(S:Stp) (a b:Addr) (j fs:List Str) (n:Nat),u=[S.mv,.ref a,.int n,.ref b]/\M a=some (.lst (j.map MV.str))/\M b=some (.lst (fs.map MV.str))/\j.length<=6/\ZS fs j n S/\∀l,SameM M l->Q .non l
theorem RE:MonW Dz:=by walk_at "m"
theorem _cx(T:Txt K mg t):FnOk P w K mg base CX0 52 t.ip t.cQ ["step","known","count","ferry_names"] (liSp K Dz):=by
 refine T.cw.F.okM _co (fC (G:=NL) (Φ:=[("refuse_term",GT),("refuse_unknown",BG)]) T rfl (fMc ⟨_8A,(fMc ⟨GP,nl0⟩)⟩) (fMc ⟨fE T.bN (_cw T),(fMc ⟨fE T.ao (GQ T),nl0⟩)⟩)) FT _cO (fun c M Q h=>?_) (fun c M Q h=>?_)
 .obtain⟨S,a,b,u,fs,n,rfl,_⟩:=h;rfl
 obtain⟨S,a,b,u,fs,n,rfl,y,d,g,m,q⟩:=h;show wSs _ _ _ [some S.mv,some (.ref a),some (.int n),some (.ref b)] M;delta FT NK;cases S with
 |take f x=>
  obtain⟨j,l⟩:=m
  simp![GU]
  delta ND;simp!;refine⟨f,b,fs,rfl,d,j,?_⟩;simp!;delta NC;simp!;refine⟨x,a,u,rfl,y,l,?_⟩;simp!;exact q _ (SameM.refl _)
 |give f U=>
  obtain⟨j,l⟩:=m
  simp![GV]
  delta Dj;simp!;delta NF;simp!;refine⟨f,b,fs,rfl,d,j,?_⟩;simp!;delta NE;simp!;refine⟨U,a,u,rfl,y,g,l,λM1 z=>?_⟩;simp!;exact q _ z
 |put f U=>
  obtain⟨j,l⟩:=m
  simp![GW]
  delta Dj;simp!;delta FS;simp!;delta NH;simp!;refine⟨f,a,u,rfl,y,j,?_⟩;simp!;delta NG;simp!;refine⟨U,a,u,rfl,y,g,l,λM1 z=>?_⟩;simp!;exact q _ z
 |jump U i=>
  obtain⟨j,l,r⟩:=m
  simp![GX]
  delta Dj;simp!;delta FS;simp!;delta NJ;simp!;refine⟨U,a,u,rfl,y,g,j,λM1 z=>?_⟩;simp!;delta NI;simp!;rw[if_pos l];rw[if_neg (by lia:¬¬i<=(n:Int))]
  exact q _ z
abbrev GY:SpM:=λl M Q=>∃(k:Nat) (I:Isl) (y:MV) (b:Addr) (fs:List Str),l=[.int k,y,.ref b]/\k<=64/\IslIn M I y/\M b=some (.lst (fs.map MV.str))/\IslOk k fs I/\∀j,SameM M j->Q .non j
theorem _73:MonW GY:=by walk_at "m"
theorem _aK(T:Txt K mg t):FnOk P w K mg base CX0 53 t.dH t.dJ ["width","island","ferry_names"] (liSp K GY):=by
 refine T.bH.F.okM _aI (fC (G:=NS) (Φ:=[("refuse_step",Dz),("refuse_variables",Dy)]) T rfl (fMc ⟨RE,(fMc ⟨RD,nl0⟩)⟩) (fMc ⟨fE T.cw (_cx T),(fMc ⟨fE T.bP (_85 T),nl0⟩)⟩)) FU _aT (fun A M Q h=>?_) (fun A M Q h=>?_)
 .obtain⟨k,I,y,b,fs,rfl,_⟩:=h;rfl
 obtain⟨k,I,y,f,fs,rfl,B,⟨a,b,rfl,r,U⟩,e,ok,q⟩:=h;show wSs _ _ _ [some (.int k),some (.tup [.str I.name,.ref a,.ref b]),some (.ref f),none,none] M;have W:=ok.nv;have X:=ok.ns;delta FU NR
 simp![r,Xd]
 refine Y3 (λz=>by lia) (λ_=>?_)
 delta NQ
 simp![U,Xd]
 refine Y3 (λz=>by lia) (λ_=>?_)
 delta NP;simp!;refine⟨k,a,I.prs,rfl,r,B,W,ok.nd,λx Y=>⟨ok.gd _ (XQ.mpr ⟨x,Y,rfl⟩),ok.wd _ Y⟩,λM1 Z=>?_⟩;simp!;have g:=Z _ _ r;delta NO;simp!;refine _q I.prs prV (fun p=>.str p.1) ?_ ?_ (UH (Φ:=[("refuse_step",Dz),("refuse_variables",Dy)]) (fMc ⟨RE,(fMc ⟨RD,nl0⟩)⟩)) fun D C=>?_
 .simp![g]
  exact⟨rfl,by lia,g⟩
 .intro p H u s;simp only[sCm,Xx,Yc,Yn,Yo,Yg,Y7]
  simp![prV]
  try exact⟨rfl,rfl⟩
 have E:(I.prs.map λp=>MV.str p.1)=I.vars.map MV.str:=by unfold Isl.vars;rw[Yi];rfl
 rw[E];have L:=Z.trans (SameM.new C (.lst (I.vars.map MV.str)));have N:updM M1 D (.lst (I.vars.map MV.str)) D=some (.lst (I.vars.map MV.str)):=X9;generalize updM M1 D _=M2 at*;have l:=L _ _ U;delta NN
 simp![l]
 obtain⟨J,d⟩:∃J:Nat->Sm->MH->Prop,∀j c u,J j c u↔SameM M2 u/\∃v,c=[some (.int k),some (.tup [.str I.name,.ref a,.ref b]),some (.ref f),some (.ref D),v]:=⟨_,λ_ _ _=>Ye⟩;refine⟨J,(d _ _ _).mpr ⟨SameM.refl _,_,rfl⟩,λj c u h=>((d _ _ _).mp h).1 _ _ l,?_,?_⟩
 .rintro j y c u F h;obtain⟨m,v,rfl⟩:=(d _ _ _).mp h;obtain⟨O,rfl⟩:=YZ F;have O:j<I.stps.length:=O;have R:=m _ _ l;delta NM
  simp![R,Xd]
  refine⟨I.stps[j],D,f,I.vars,fs,I.stps.length,rfl,m _ _ N,m _ _ (L _ _ e),by unfold Isl.vars;rw[Xd];exact W,ok.st _ (XU O),λo S=>?_⟩
  simp!;exact(d _ _ _).mpr ⟨m.trans S,_,rfl⟩
 .rintro c u h;obtain⟨m,_⟩:=(d _ _ _).mp h;exact q _ (L.trans m)
abbrev DA:SpM:=λy M Q=>∃(k:Nat) (p b:Addr) (j:List Isl) (l:List MV) (fs:List Str),y=[.int k,.ref p,.ref b]/\k<=64/\M p=some (.lst l)/\IslsIn M j l/\j.length<=5/\fs.length<=6/\M b=some (.lst (fs.map MV.str))/\(fs++j.map (·.name)).Nodup/\(∀I∈j,Zt I.name)/\(∀I∈j,IslOk k fs I)/\∀u,SameM M u->Q .non u
theorem RF:MonW DA:=by walk_at "m"
theorem _9l(T:Txt K mg t):FnOk P w K mg base CX0 54 t.gO t.gA ["width","islands","ferry_names"] (liSp K DA):=by
 refine T.aJ.F.okM _9h (fC (G:=NY) (Φ:=[("refuse_island",GY),("refuse_name",BF)]) T rfl (fMc ⟨_73,(fMc ⟨GM,nl0⟩)⟩) (fMc ⟨fE T.bH (_aK T),(fMc ⟨fE T.aM (GN T),nl0⟩)⟩)) FV _9B (fun x M Q h=>?_) (fun x M Q h=>?_)
 .obtain⟨k,p,b,l,E,fs,rfl,_⟩:=h;rfl
 obtain⟨k,p,f,l,E,fs,rfl,hk,F,L,h5,hf6,I,N,hg,ok,q⟩:=h;show wSs _ _ _ [some (.int k),some (.ref p),some (.ref f),none,none] M;delta FV NX
 simp![I]
 intro e S;have X:=SameM.new S (.lst (fs.map MV.str));have O:updM M e (.lst (fs.map MV.str)) e=some (.lst (fs.map MV.str)):=X9;have R:=X _ _ F;have U:∀a o,M a=some o->a≠e:=λa o h=>neM h S;generalize updM M e _=M1 at*;delta NW
 simp![R]
 obtain⟨J,m⟩:∃J:Nat->Sm->MH->Prop,∀j g u,J j g u↔SameM M u/\u e=some (.lst ((fs++(l.map (·.name)).take j).map MV.str))/\∃v,g=[some (.int k),some (.ref p),some (.ref f),some (.ref e),v]:=⟨_,λ_ _ _=>Ye⟩;refine⟨J,(m _ _ _).mpr ⟨X,by simpa using O,_,rfl⟩,λj g u h=>((m _ _ _).mp h).1 _ _ F,?_,?_⟩
 .rintro j y g u d h;obtain⟨r,c,v,rfl⟩:=(m _ _ _).mp h;have d:E[j]?=some y:=d;have H:j<l.length:=by rw[<-L.1];exact(XF.mp d).1
  have W:l[j]?=some l[j]:=X8 H;have s:(l.map (·.name))[j]?=some l[j].name:=by rw[Xq,W];rfl
  have Y:=XU H;obtain⟨a,b,rfl,_⟩:=(L.keep r).2 j l[j] y W d;have Z:l[j].name∉fs++(l.map (·.name)).take j:=by
   rw[Zg]at N;intro z;rcases Yh.mp z with z|z
   .exact N.2.2 _ z _ (XQ.mpr ⟨_,Y,rfl⟩) rfl
   .exact GR N.2.1 s z
  delta NV;simp!;refine⟨l[j].name,e,fs++(l.map (·.name)).take j,rfl,c,hg _ Y,Z,λA i=>?_⟩;have B:=i _ _ c;simp!;delta NU
  simp![B,Xd,Yt,Z6]
  refine⟨⟨_,rfl⟩,by lia,?_⟩
  have C:SameM M (updM A e (.lst ((fs++(l.map (·.name)).take j).map MV.str++[.str l[j].name]))):=λa o h=>by rw[Xc (U a o h)];exact i _ _ (r _ _ h)
  have D:updM A e (.lst ((fs++(l.map (·.name)).take j).map MV.str++[.str l[j].name])) e=some (.lst ((fs++(l.map (·.name)).take (j+1)).map MV.str)):=by
   rw[X9,Y0,Y0,Vr,GS s]
  generalize updM A e _=M4 at*;delta NT;simp!;refine⟨k,l[j],_,f,fs,rfl,hk,(L.keep C).2 j _ _ W d,C _ _ I,ok _ Y,λM5 n=>?_⟩;simp!;exact(m _ _ _).mpr ⟨C.trans n,n _ _ D,_,rfl⟩
 .rintro g u h;obtain⟨r,_⟩:=(m _ _ _).mp h;exact q _ r
noncomputable abbrev DB:SpM:=λl M Q=>∃(x:Fer) (e:Addr) (j:List Str),l=[x.mv,.ref e]/\M e=some (.lst (j.map MV.str))/\FerOk j x/\Q .non M
theorem RG:MonW DB:=by walk_at "m"
theorem _bp(T:Txt K mg t):FnOk P w K mg base CX0 2 t.cK t.cI ["ferry","island_names"] (liSp K DB):=by
 refine T.aI.F.okM _bb (fC (G:=O5) (Φ:=[("refuse_unknown",BG)]) T rfl (fMc ⟨GP,nl0⟩) (fMc ⟨fE T.ao (GQ T),nl0⟩)) FW _c2 (fun u M Q h=>?_) (fun u M Q h=>?_)
 .obtain⟨x,a,j,rfl,_⟩:=h;rfl
 obtain⟨x,a,j,rfl,l,ok,q⟩:=h;show wSs _ _ _ [some (.tup [.str x.name,.str x.giver,.str x.taker,.int x.k,.int x.st]),some (.ref a)] M;have y:=ok.k3;have z:=ok.s1;have m:=ok.s3;delta FW O4;simp!;refine⟨_,a,j,rfl,l,ok.g,?_⟩;simp!;delta O3;simp!;refine⟨_,a,j,rfl,l,ok.t,?_⟩;simp!;delta O1;simp!;rw[if_neg ok.ne];delta O0;simp!;rw[if_pos (by lia:(0:Int)<=(x.k:Int))]
 rw[if_neg (by lia:¬¬(x.k:Int)<=3)]
 delta NZ;simp!;rw[if_pos (by lia:(1:Int)<=(x.st:Int))]
 rw[if_neg (by lia:¬¬(x.st:Int)<=3)]
 exact q
theorem _hD{F:List Fer}{g:Fer->Str}:∀{c:List (Key×MV)},(F.map (·.name)).Nodup->(∀x∈F,valM c (Xs x.name)=none)->∀x∈F,valM ((F.map λy=>((Xs y.name:Key),MV.str (g y))).foldl (λc z=>putM c z.1 z.2) c) (Xs x.name)=some (.str (g x)):=by
 have stay:∀(F:List Fer)(c:List (Key×MV))(z:Str),(∀y∈F,y.name≠z)->valM ((F.map λy=>((Xs y.name:Key),MV.str (g y))).foldl (λc z=>putM c z.1 z.2) c) (Xs z)=valM c (Xs z):=by
  intro F
  induction F with
  |nil=>intro c z _;rfl
  |cons y r m=>
   intro c z h;rw[Xx,Vv,m _ _ (λy d=>h y (XM _ d)),Dk,if_neg (λe=>h y (Ya ..) (V1 e).symm)]
 induction F with
 |nil=>intro c _ _ x j;cases j
 |cons y r m=>
  intro c l h x j;rw[Xx,Yp]at l;rw[Xx,Vv];rcases Xk.mp j with rfl|j
  .rw[stay _ _ _ (λz u e=>l.1 (XQ.mpr ⟨z,u,e⟩)),Dk,if_pos rfl]
  .refine m l.2 (λz u=>?_) x j;rw[Dk,if_neg (λe=>l.1 (XQ.mpr ⟨z,u,V1 e⟩))];exact h z (XM _ u)
def dirK(F:List Fer)(g:Fer->Str):List (Key×MV):=YK (F.map λy=>((Xs y.name:Key),MV.str (g y)))
theorem RI{F:List Fer}{g:Fer->Str}(j:(F.map (·.name)).Nodup){x:Fer}(l:x∈F):valM (dirK F g) (Xs x.name)=some (.str (g x)):=_hD j (λ_ _=>rfl) x l
abbrev DC:SpM:=λj M Q=>∃(z:Str) (S:Stp) (a b:Addr) (F:List Fer),j=[.str z,S.mv,.ref a,.ref b]/\M a=some (.dic (dirK F (·.giver)))/\M b=some (.dic (dirK F (·.taker)))/\(F.map (·.name)).Nodup/\ZT F z S/\(∀f,(∃x,S=.take f x)\/(∃U,S=.give f U)->f∈F.map (·.name))/\Q .non M
theorem RJ:MonW DC:=by walk_at "m"
theorem _84(T:Txt K mg t):FnOk P w K mg base CX0 1 t.eQ t.dE ["name","step","givers","takers"] (liSp K DC):=by
 refine T.bB.F.okM _80 (fC (G:=O7) (Φ:=[]) T rfl nl0 nl0) FX _8i (λd M Q h=>?_) (λd M Q h=>?_)
 .obtain⟨z,S,a,b,F,rfl,_⟩:=h;rfl
 obtain⟨z,S,a,b,F,rfl,c,r,l,u,m,q⟩:=h;show wSs _ _ _ [some (.str z),some S.mv,some (.ref a),some (.ref b)] M;delta FX O6;cases S with
 |take f x=>
  obtain⟨y,j,rfl⟩:=XQ.mp (m f (.inl ⟨x,rfl⟩));have v:=RI (g:=(·.taker)) l j;have e:=u y j rfl
  simp![GU,r,v,e]
  delta Bz
  simp![GU]
  exact q
 |give f U=>
  obtain⟨y,j,rfl⟩:=XQ.mp (m f (.inr ⟨U,rfl⟩));have v:=RI (g:=(·.giver)) l j;have e:=u y j rfl
  simp![GV]
  delta Bz
  simp![GV,c,v,e]
  exact q
 |put f U=>
  simp![GW]
  delta Bz
  simp![GW]
  exact q
 |jump U i=>
  simp![GX]
  delta Bz
  simp![GX]
  exact q
theorem _dP{fs j:List Str}{n:Nat}{S:Stp}(h:ZS fs j n S):∀f,(∃x,S=.take f x)\/(∃U,S=.give f U)->f∈fs:=by
 rintro f (⟨x,rfl⟩|⟨U,rfl⟩)
 .exact h.1
 .exact h.1
abbrev DD:SpM:=λy M Q=>∃(p f:Addr) (l:List MV) (j:List Isl) (F:List Fer),y=[.ref p,.ref f]/\M p=some (.lst l)/\IslsIn M j l/\j.length<=5/\M f=some (.lst (F.map Fer.mv))/\F.length<=6/\(F.map (·.name)).Nodup/\
 (∀I∈j,I.stps.length<=12/\∀s∈I.stps,ZT F I.name s/\∃z n,ZS (F.map (·.name)) z n s)/\∀u,SameM M u->Q .non u
theorem RK:MonW DD:=by walk_at "m"
theorem RL(F:List Fer)(g:Fer->Str):(F.map λx=>MV.tup [.str x.name,.str (g x)])=(F.map λy=>((Xs y.name:Key),MV.str (g y))).map prM:=by rw[Yi];rfl
theorem _72(T:Txt K mg t):FnOk P w K mg base CX0 2 t.cS t.fH ["islands","ferries"] (liSp K DD):=by
 refine T.aO.F.okM _70 (fC (G:=Oe) (Φ:=[("refuse_wrong_end",DC)]) T rfl (fMc ⟨RJ,nl0⟩) (fMc ⟨fE T.bB (_84 T),nl0⟩)) FY _75 (fun vs M Q h=>?_) (fun vs M Q h=>?_)
 .obtain⟨p,f,ys,Is,F,rfl,_⟩:=h;rfl
 obtain⟨p,f,ys,Is,F,rfl,hp,hI,h5,N,h6,nd,hE,q⟩:=h;show wSs _ _ _ [some (.ref p),some (.ref f),none,none,none,none] M;have g:=(UH (Φ:=[("refuse_wrong_end",DC)]) (fMc ⟨RJ,nl0⟩));delta FY Od;simp!;refine _q F Fer.mv (λx=>.tup [.str x.name,.str x.giver]) ?_ ?_ g λD hD=>?_
 .simp![N]
  exact⟨rfl,by lia,N⟩
 .intro x O z s;simp only[sCm,Xx,Yc,Yn,Yo,Yg,Y7]
  simp![Fer.mv]
  try exact⟨rfl,rfl⟩
 rw[RL F (·.giver)];have s1:=SameM.new hD (.lst ((F.map λy=>((Xs y.name:Key),MV.str y.giver)).map prM));have d1:updM M D (.lst ((F.map λy=>((Xs y.name:Key),MV.str y.giver)).map prM)) D=some (.lst ((F.map λy=>((Xs y.name:Key),MV.str y.giver)).map prM)):=X9;generalize updM M D _=M1 at*;simp!;refine⟨_,d1,λa ha=>?_⟩;have H:=s1.trans (SameM.new ha (.dic (dirK F (·.giver))));have R:updM M1 a (.dic (dirK F (·.giver))) a=some (.dic (dirK F (·.giver))):=X9
 change wSs _ _ _ _ (updM M1 a (.dic (dirK F (·.giver))))
 generalize updM M1 a _=M2 at*;have r:=H _ _ N;delta Oc;simp!;refine _q F Fer.mv (λx=>.tup [.str x.name,.str x.taker]) ?_ ?_ g λU W=>?_
 .simp![r]
  exact⟨rfl,by lia,r⟩
 .intro x O z s;simp only[sCm,Xx,Yc,Yn,Yo,Yg,Y7]
  simp![Fer.mv]
  try exact⟨rfl,rfl⟩
 rw[RL F (·.taker)];have s3:=SameM.new W (.lst ((F.map λy=>((Xs y.name:Key),MV.str y.taker)).map prM));have d3:updM M2 U (.lst ((F.map λy=>((Xs y.name:Key),MV.str y.taker)).map prM)) U=some (.lst ((F.map λy=>((Xs y.name:Key),MV.str y.taker)).map prM)):=X9;generalize updM M2 U _=M3 at*;simp!;refine⟨_,d3,λb hb=>?_⟩;have o:=s3.trans (SameM.new hb (.dic (dirK F (·.taker))));have Y:updM M3 b (.dic (dirK F (·.taker))) b=some (.dic (dirK F (·.taker))):=X9
 change wSs _ _ _ _ (updM M3 b (.dic (dirK F (·.taker))))
 generalize updM M3 b _=M4 at*;have Z:=o _ _ R;have A:=H.trans o;have e:=A _ _ hp;have B:=hI.keep A;delta Ob
 simp![e]
 obtain⟨J,L⟩:∃J:Nat->Sm->MH->Prop,∀j l z,J j l z↔z=M4/\∃v m,l=[some (.ref p),some (.ref f),some (.ref a),some (.ref b),v,m]:=⟨_,λ_ _ _=>Ye⟩;refine⟨J,(L _ _ _).mpr ⟨rfl,_,_,rfl⟩,λj l z h=>by rw[((L _ _ _).mp h).1];exact e,?_,?_⟩
 .rintro j y l z hy h;obtain⟨rfl,v,m,rfl⟩:=(L _ _ _).mp h;obtain⟨I,hm,c,d,rfl,hc,hd⟩:=B.mem (Xo hy);obtain⟨l12,hS⟩:=hE I hm;delta Oa
  simp![hd]
  obtain⟨C,u⟩:∃C:Nat->Sm->MH->Prop,∀j l M,C j l M↔M=z/\∃m,l=[some (.ref p),some (.ref f),some (.ref a),some (.ref b),some (.tup [.str I.name,.ref c,.ref d]),m]:=⟨_,λ_ _ _=>Ye⟩;refine⟨C,(u _ _ _).mpr ⟨rfl,_,rfl⟩,λj l M h=>by rw[((u _ _ _).mp h).1];exact hd,?_,?_⟩
  .rintro i x l E O S;obtain⟨rfl,m,rfl⟩:=(u _ _ _).mp S;obtain⟨X,rfl⟩:=YZ O;have X:i<I.stps.length:=X;obtain⟨e1,ns,n,e2⟩:=hS _ (XU X);delta O8;simp!;refine⟨I.name,I.stps[i],a,b,F,rfl,Z,Y,nd,e1,_dP e2,?_⟩;simp!;exact(u _ _ _).mpr ⟨rfl,_,rfl⟩
  .rintro l E S;obtain⟨rfl,m,rfl⟩:=(u _ _ _).mp S
   try simp!
   exact(L _ _ _).mpr ⟨rfl,_,_,rfl⟩
 .rintro l z h;obtain⟨rfl,_⟩:=(L _ _ _).mp h;exact q _ A
theorem FroD.up{M:MH}:∀{n:Nat} {v j:MV},FroD n M v j->FroD (n+1) M v j
 |0,_,_,h=>.inl h
 |n+1,v,j,h=>by
  rcases h with h|⟨l,u,y,z,m⟩
  .exact .inl h
  .exact .inr ⟨l,u,y,z,λp g=>(m p g).up⟩
theorem FroD.to{M:MH}{n m:Nat}{v j:MV}(h:FroD n M v j)(l:n<=m):FroD m M v j:=by
 obtain⟨d,rfl⟩:∃d,m=n+d:=⟨m - n,by lia⟩
 clear l
 induction d with
 |zero=>exact h
 |succ d u=>exact u.up
theorem fro_str{M:MH}{z:Str}:FroD 0 M (.str z) (.str z):=⟨.inr ⟨z,rfl⟩,rfl⟩
theorem fro_int{M:MH}{i:Int}:FroD 0 M (.int i) (.int i):=⟨.inl ⟨i,rfl⟩,rfl⟩
theorem _U{M:MH}{n:Nat}{xs:List MV}(l:xs.length<=1000)(h:∀x∈xs,FroD n M x x):FroD (n+1) M (.tup xs) (.tup xs):=by
 have j:(xs.map λx=>(x,x)).map (·.1)=xs:=by rw[Yi];exact Cc xs
 have u:(xs.map λx=>(x,x)).map (·.2)=xs:=by rw[Yi];exact Cc xs
 refine .inr ⟨xs.map λx=>(x,x),.inl (by rw[j]),by rw[u],by rw[Xd];exact l,λp y=>?_⟩
 obtain⟨x,z,rfl⟩:=XQ.mp y;exact h x z
theorem GZ{M:MH}{n:Nat}{a:Addr}{xs:List MV}(e:M a=some (.lst xs))(l:xs.length<=1000)(h:∀x∈xs,FroD n M x x):FroD (n+1) M (.ref a) (.tup xs):=by
 have j:(xs.map λx=>(x,x)).map (·.1)=xs:=by rw[Yi];exact Cc xs
 have u:(xs.map λx=>(x,x)).map (·.2)=xs:=by rw[Yi];exact Cc xs
 refine .inr ⟨xs.map λx=>(x,x),.inr ⟨a,rfl,by rw[j];exact e⟩,by rw[u],by rw[Xd];exact l,λp y=>?_⟩
 obtain⟨x,z,rfl⟩:=XQ.mp y;exact h x z
theorem UJ{M:MH}:∀U:Tm,FroD U.depth M U.mv U.mv
 |.num n=>_U (xs:=[.str "num",.int n]) (by simp) (by
   intro x j;simp only[Xk,XJ,or_false]at j;rcases j with rfl|rfl
   .exact fro_str
   .exact fro_int)
 |.var z=>_U (xs:=[.str "var",.str z]) (by simp) (by
   intro x j;simp only[Xk,XJ,or_false]at j;rcases j with rfl|rfl
   .exact fro_str
   .exact fro_str)
 |.two f a b=>by
  have l:=UJ (M:=M) a;have u:=UJ (M:=M) b;show FroD (1+max a.depth b.depth) M (.tup [.str f.str,a.mv,b.mv]) (.tup [.str f.str,a.mv,b.mv]);rw[Nat.add_comm];refine _U (by simp) λx j=>?_
  simp only[Xk,XJ,or_false]at j;rcases j with rfl|rfl|rfl
  .exact fro_str.to (YS _)
  .exact l.to (by lia)
  .exact u.to (by lia)
 |.pick c a b=>by
  have y:=UJ (M:=M) c;have l:=UJ (M:=M) a;have u:=UJ (M:=M) b;show FroD (1+max c.depth (max a.depth b.depth)) M (.tup [.str "pick",c.mv,a.mv,b.mv]) (.tup [.str "pick",c.mv,a.mv,b.mv]);rw[Nat.add_comm];refine _U (by simp) λx j=>?_
  simp only[Xk,XJ,or_false]at j;rcases j with rfl|rfl|rfl|rfl
  .exact fro_str.to (YS _)
  .exact y.to (by lia)
  .exact l.to (by lia)
  .exact u.to (by lia)
theorem _mT{M:MH}{fs l:List Str}{n:Nat}{S:Stp}(h:ZS fs l n S):FroD 9 M S.mv S.mv:=by
 cases S with
 |take f x=>
  refine _U (xs:=[.str "take",.str f,.str x]) (by simp) fun v j=>?_
  simp only[Xk,XJ,or_false]at j;rcases j with rfl|rfl|rfl<;>exact fro_str.to (by decide)
 |give f U=>
  refine _U (xs:=[.str "give",.str f,U.mv]) (by simp) fun v j=>?_
  simp only[Xk,XJ,or_false]at j;rcases j with rfl|rfl|rfl
  .exact fro_str.to (by decide)
  .exact fro_str.to (by decide)
  .exact(UJ U).to h.2.1
 |put f U=>
  refine _U (xs:=[.str "put",.str f,U.mv]) (by simp) fun v j=>?_
  simp only[Xk,XJ,or_false]at j;rcases j with rfl|rfl|rfl
  .exact fro_str.to (by decide)
  .exact fro_str.to (by decide)
  .exact(UJ U).to h.2.1
 |jump U i=>
  refine _U (xs:=[.str "jump",U.mv,.int i]) (by simp) fun v j=>?_
  simp only[Xk,XJ,or_false]at j;rcases j with rfl|rfl|rfl
  .exact fro_str.to (by decide)
  .exact(UJ U).to h.1.1
  .exact fro_int.to (by decide)
theorem _o5{M:MH}{k:Nat}{fs:List Str}{I:Isl}{y:MV}(ok:IslOk k fs I)(h:IslIn M I y):FroD 11 M y I.mv:=by
 obtain⟨a,b,rfl,z,m⟩:=h;have d:=ok.nv;have c:=ok.ns;refine .inr ⟨[(.str I.name,.str I.name),(.ref a,.tup (I.prs.map prV)),(.ref b,.tup (I.stps.map Stp.mv))],.inl rfl,rfl,by simp,λp l=>?_⟩
 simp only[Xk,XJ,or_false]at l;rcases l with rfl|rfl|rfl
 .exact fro_str.to (by decide)
 .refine GZ z (by rw[Xd];lia) λx j=>?_
  obtain⟨q,_,rfl⟩:=XQ.mp j;refine(_U (n:=0) (xs:=[.str q.1,.int q.2]) (by simp) λv u=>?_).to (by decide)
  simp only[Xk,XJ,or_false]at u;rcases u with rfl|rfl
  .exact fro_str
  .exact fro_int
 .refine GZ m (by rw[Xd];lia) λx j=>?_
  obtain⟨S,g,rfl⟩:=XQ.mp j;exact _mT (ok.st S g)
theorem _ou{M:MH}(f:Fer):FroD 1 M f.mv f.mv:=by
 refine _U (xs:=[.str f.name,.str f.giver,.str f.taker,.int f.k,.int f.st]) (by simp) λv j=>?_
 simp only[Xk,XJ,or_false]at j;rcases j with rfl|rfl|rfl|rfl|rfl
 .exact fro_str
 .exact fro_str
 .exact fro_str
 .exact fro_int
 .exact fro_int
theorem _lp{M:MH}{k:Nat}{fs:List Str}{Is:List Isl}{ys:List MV}{p:Addr}(y:M p=some (.lst ys))(h:IslsIn M Is ys)(l:Is.length<=5)(ok:∀I∈Is,IslOk k fs I):FroD 12 M (.ref p) (.tup (Is.map Isl.mv)):=by
 have c:=h.1;have z:(ys.zip (Is.map Isl.mv)).map (·.1)=ys:=List.map_fst_zip (by rw[Xd];lia)
 have m:(ys.zip (Is.map Isl.mv)).map (·.2)=Is.map Isl.mv:=List.map_snd_zip (by rw[Xd];lia)
 refine .inr ⟨ys.zip (Is.map Isl.mv),.inr ⟨p,rfl,by rw[z];exact y⟩,by rw[m],by rw[List.length_zip,Xd];lia,λq g=>?_⟩
 obtain⟨i,d,rfl⟩:=Y5 g;rw[List.length_zip,Xd]at d;have u:i<ys.length:=by lia
 have j:i<Is.length:=by lia
 rw[List.getElem_zip,DY];exact _o5 (ok _ (XU j)) (h.2 i _ _ (X8 j) (X8 u))
noncomputable def fstM:MV->MV
 |.tup (x::_)=>x
 |v=>v
abbrev W8:SpM:=λu M Q=>∃(p f:Addr) (j:List MV) (W:Wld),u=[.int W.w,.ref p,.ref f]/\M p=some (.lst j)/\IslsIn M W.isl j/\M f=some (.lst (W.fer.map Fer.mv))/\W.Good/\∀l,SameM M l->Q W.mv l
theorem RN:MonW W8:=by walk_at "m"
theorem _nG(T:Txt K mg t):FnOk P w K mg base CX0 56 t.dO t.de ["width","islands","ferries"] (liSp K W8):=by
 refine T.cq.F.okM _n0 (fC (G:=Os) (Φ:=[("frozen",(ZR 13)),("is_width",Dw),("refuse_ferry",DB),("refuse_ferry_names",Dx),("refuse_islands",DA),("refuse_wrong_ends",DD)]) T rfl (fMc ⟨(Du _),(fMc ⟨RB,(fMc ⟨RG,(fMc ⟨RC,(fMc ⟨RF,(fMc ⟨RK,nl0⟩)⟩)⟩)⟩)⟩)⟩) (fMc ⟨⟨_,_,_,FnOk.mono (Ry T 13) (by decide),T.ak.m,T.ak.F.kp,T.ak.b⟩,(fMc ⟨⟨_,_,_,FnOk.mono (_fW T) (by decide),T.aP.m,T.aP.F.kp,T.aP.b⟩,(fMc ⟨⟨_,_,_,FnOk.mono (_bp T) (by decide),T.aI.m,T.aI.F.kp,T.aI.b⟩,(fMc ⟨⟨_,_,_,FnOk.mono (_5M T) (by decide),T.aR.m,T.aR.F.kp,T.aR.b⟩,(fMc ⟨⟨_,_,_,FnOk.mono (_9l T) (by decide),T.aJ.m,T.aJ.F.kp,T.aJ.b⟩,(fMc ⟨⟨_,_,_,FnOk.mono (_72 T) (by decide),T.aO.m,T.aO.F.kp,T.aO.b⟩,nl0⟩)⟩)⟩)⟩)⟩)⟩)) G2 _oE (fun vs M Q h=>?_) (fun vs M Q h=>?_)
 .obtain⟨p,f,d,W,rfl,_⟩:=h;rfl
 obtain⟨p,f,d,W,rfl,c,m,g,G,q⟩:=h;have e:=UH (Φ:=[("frozen",ZR 13),("is_width",Dw),("refuse_ferry",DB),("refuse_ferry_names",Dx),("refuse_islands",DA),("refuse_wrong_ends",DD)]) (fMc ⟨Du 13,fMc ⟨RB,fMc ⟨RG,fMc ⟨RC,fMc ⟨RF,fMc ⟨RK,fun _ h=>nomatch h⟩⟩⟩⟩⟩⟩);show wSs _ _ _ [some (.int W.w),some (.ref p),some (.ref f),none,none] M;have w1:=G.w1;have w2:=G.w2;have C:=G.i5;have E:=G.f6;have hl:=m.1;have nd:=Zg.mp G.nd;delta G2 Oq;simp!;refine⟨W.w,rfl,by lia,by lia,?_⟩
 simp!;delta Op
 simp![c]
 refine Y3 (λz=>by lia) (λ_=>?_)
 delta Oo
 simp![g,Xd]
 refine Y3 (λz=>by lia) (λ_=>?_)
 delta On;simp!;refine⟨f,W.fer,rfl,g,E,nd.1,λx Y=>G.fg _ (XQ.mpr ⟨x,Y,rfl⟩),λM1 s1=>?_⟩;simp!;have L:=s1 _ _ g;delta Om;simp!;refine _q W.fer Fer.mv (λx=>.str x.name) ?_ ?_ e λD F=>?_
 .simp![L]
  exact⟨rfl,by lia,L⟩
 .intro x Y l s;simp only[sCm,Xx,Yc,Yn,Yo,Yg,Y7]
  simp![Fer.mv]
  try exact⟨rfl,rfl⟩
 have eF:(W.fer.map λx=>MV.str x.name)=W.fns.map MV.str:=by unfold Wld.fns;rw[Yi];rfl
 rw[eF];have X:=s1.trans (SameM.new F (.lst (W.fns.map MV.str)));have H:updM M1 D (.lst (W.fns.map MV.str)) D=some (.lst (W.fns.map MV.str)):=X9;generalize updM M1 D _=M2 at*
 try simp!
 refine⟨W.w,p,D,W.isl,d,W.fns,rfl,w2,X _ _ c,m.keep X,C,by unfold Wld.fns;rw[Xd];exact E,H,G.nd,λI N=>G.ig _ (XQ.mpr ⟨I,N,rfl⟩),G.io,λM3 s3=>?_⟩
 have Z:=X.trans s3;have O:=Z _ _ c;have hf3:=Z _ _ g;have o:=m.keep Z;simp!;delta Ol;simp!;refine _q d (λy=>y) fstM ?_ ?_ e λD F=>?_
 .simp![O]
  exact⟨by simp[Src.items],by lia,O⟩
 .intro y i l s;obtain⟨I,_,a,b,rfl,_⟩:=o.mem i;simp only[sCm,Xx,Yc,Yn,Yo,Yg,Y7];simp!
  rfl
 have eI:d.map fstM=W.ins.map MV.str:=m.fst λz r=>rfl;rw[eI];have A:=Z.trans (SameM.new F (.lst (W.ins.map MV.str)));have hD5:updM M3 D (.lst (W.ins.map MV.str)) D=some (.lst (W.ins.map MV.str)):=X9;generalize updM M3 D _=M5 at*;have u:=A _ _ g;delta Oj
 simp![u]
 obtain⟨J,R⟩:∃J:Nat->Sm->MH->Prop,∀j U l,J j U l↔l=M5/\∃v,U=[some (.int W.w),some (.ref p),some (.ref f),some (.ref D),v]:=⟨_,λ_ _ _=>Ye⟩;refine⟨J,(R _ _ _).mpr ⟨rfl,_,rfl⟩,λj U l h=>by rw[((R _ _ _).mp h).1];exact u,?_,?_⟩
 .rintro j y U l i h;obtain⟨rfl,v,rfl⟩:=(R _ _ _).mp h;obtain⟨hj,rfl⟩:=YZ i;have hj:j<W.fer.length:=hj;delta Oi;simp!;refine⟨W.fer[j],D,W.ins,rfl,hD5,G.fo _ (XU hj),?_⟩;simp!;exact(R _ _ _).mpr ⟨rfl,_,rfl⟩
 .rintro U l h;obtain⟨rfl,v,rfl⟩:=(R _ _ _).mp h;delta Oh;simp!;refine⟨p,f,d,W.isl,W.fer,rfl,A _ _ c,m.keep A,C,u,E,nd.1,λI N=>⟨(G.io I N).ns,λS hS=>⟨G.en I N S hS,_,_,(G.io I N).st S hS⟩⟩,λM6 s6=>?_⟩;have B:=A.trans s6;simp!;delta Og;simp!;refine⟨_,W.mv,rfl,?_,λl s'=>q l (B.trans s')⟩;refine .inr ⟨[(.int W.w,.int W.w),(.ref p,.tup (W.isl.map Isl.mv)),(.ref f,.tup (W.fer.map Fer.mv))],.inl rfl,rfl,by simp,λz hz=>?_⟩
  simp only[Xk,XJ,or_false]at hz;rcases hz with rfl|rfl|rfl
  .exact fro_int.to (by decide)
  .exact _lp (B _ _ c) (m.keep B) C G.io
  .refine(GZ (n:=1) (B _ _ g) (by rw[Xd];lia) λx Y=>?_).to (by decide)
   obtain⟨y,_,rfl⟩:=XQ.mp Y;exact _ou y
theorem _fZ(m:Nat):∀n:Nat,(m^^^n)+2*(m&&& n)=m+n:=by
 induction m using Nat.strongRecOn with
 |ind m l=>
  intro n;by_cases h0:m=0
  .subst h0;simp
  .have j:=l (m/2) (by lia) (n/2)
   rw[<-Nat.xor_div_two,<-Nat.and_div_two]at j;have u:=@Nat.xor_mod_two_eq_one m n;have y:=@Nat.and_mod_two_eq_one m n;lia
noncomputable def seen(o n c:Nat):Nat:=o^^^((o^^^n)&&& c)
theorem DE(m n:Nat):CL (m:Int) (n:Int)=((m^^^n:Nat):Int):=by
 rw[PyProof.Rows.bitXor_and,HL (WE m) (WE n),YY,YY];have:=_fZ m n;lia
theorem _lH(m n:Nat):CK (m:Int) (n:Int)=((m&&& n:Nat):Int):=by
 rw[HL (WE m) (WE n),YY,YY]
noncomputable def gray(n:Nat):Nat:=n^^^(n/2)
noncomputable def ugF:Nat->Nat->Nat->Nat
 |0,n,_=>n
 |k+1,n,a=>if a=0 then n else ugF k (n^^^a) (a/2)
theorem _kw:∀k n,ugF k n 0=n
 |0,_=>rfl
 |k+1,n=>by simp[ugF]
def W9(w:Nat):Nat:=ugF 64 w (w/2)
noncomputable def DF(x:Nat):Bool:=x==1||x==2||x==4||x==8
def Zp7(m:Nat):Bool:=(Xt (2^(m+1))).all λn=>decide (gray n<16)&&decide (W9 (gray n)=n)&&DF (gray n^^^gray ((n+1)%2^(m+1)))
theorem _kx:(Xt 4).all Zp7=true:=by decide+kernel
theorem RP{m n:Nat}(l:m<4)(u:n<2^(m+1)):gray n<16/\W9 (gray n)=n/\DF (gray n^^^gray ((n+1)%2^(m+1)))=true:=by
 have y:=C9.mp _kx m (Z7.mpr l);have j:=C9.mp y n (Z7.mpr u);simp only[XX,decide_eq_true_eq]at j;exact⟨j.1.1,j.1.2,j.2⟩
theorem _oL{x c:Nat}(h:DF x=true):x&&& c=0\/x&&& c=x:=by
 have l:∀i:Nat,(2^i&&& c)=0\/(2^i&&& c)=2^i:=λi=>by
  cases h:c.testBit i with
  |false=>
   left
   refine Nat.eq_of_testBit_eq λj=>?_;rw[Nat.testBit_and,Nat.testBit_two_pow,Nat.zero_testBit];by_cases e:i=j
   .subst e;rw[h,Co]
   .rw[decide_eq_false e,WD]
  |true=>
   right
   refine Nat.eq_of_testBit_eq λj=>?_;rw[Nat.testBit_and,Nat.testBit_two_pow];by_cases e:i=j
   .subst e;rw[h,Bool.and_true]
   .rw[decide_eq_false e,WD]
 unfold DF at h;simp only[Eb,beq_iff_eq]at h;rcases h with((rfl|rfl)|rfl)|rfl
 .exact l 0
 .exact l 1
 .exact l 2
 .exact l 3
set_option tactic.hygienic true in
theorem _iB{m a b c:Nat}(u:m<4)(h:a=b\/a=b+1):
  seen (gray (b%2^(m+1))) (gray (a%2^(m+1))) c=if c&&&(gray (a%2^(m+1))^^^gray (b%2^(m+1)))=0 then gray (b%2^(m+1))else gray (a%2^(m+1)):=by
 have l:0<2^(m+1):=Zl _;have y:=RP u (VB b l);have g:a=b+1->(b%2^(m+1)+1)%2^(m+1)=a%2^(m+1):=λe=>by rw[e,Nat.mod_add_mod]
 unfold seen;rcases h with rfl|h
 .rw[Nat.xor_self,Nat.and_zero,if_pos rfl,Nat.zero_and,Nat.xor_zero]
 .have j:=y.2.2;rw[g h]at j;rw[Nat.and_comm c,Nat.xor_comm (gray (a%2^(m+1)))];rcases _oL (c:=c) j with e|e
  .rw[e,if_pos rfl,Nat.xor_zero]
  .rw[e,<-Nat.xor_assoc,Nat.xor_self,Nat.zero_xor];split
   .rename_i z
    rw[z]at j;cases j
   .rfl
structure Ab where
 k:Nat
 ws:List Nat
 tn:Nat
 gp:Nat
 tp:Nat
 gm:Int
 tm:Int
 gx:List Nat
 tx:List Nat
 lg:Nat
 lt:Nat
def Zu(k n p:Nat)(fresh:Bool)(c:Nat):Nat:=if fresh=true/\c&&&(gray (n%2^(k+1))^^^gray (p%2^(k+1)))=0 then p else n
noncomputable def XH(xs:List Nat):Nat:=xs.getLastD 0
def Ab.gSamp(A:Ab)(c:Nat):Nat:=Zu A.k A.tn A.tp (decide (A.gm<A.tm)) c
def Ab.tSamp(A:Ab)(c:Nat):Nat:=Zu A.k A.ws.length A.gp (decide (A.tm<A.gm)) c
def Ab.gives(A:Ab)(w:Option Nat):Bool:=w.isSome&&decide (A.ws.length<XH A.gx+2^A.k)
def Ab.takes(A:Ab)(w:Bool):Bool:=w&&decide (XH A.tx≠A.tn)
noncomputable def Ab.giver(A:Ab)(m:Int)(c:Nat)(w:Option Nat):Ab:=
 {A with ws:=if A.gives w=true then A.ws++[w.getD 0]else A.ws,gp:=A.ws.length,gm:=m,gx:=A.gSamp c::A.gx.dropLast,lg:=A.tn}
noncomputable def Ab.taker(A:Ab)(m:Int)(c:Nat)(w:Bool):Ab:=
 {A with tn:=if A.takes w=true then A.tn+1 else A.tn,tp:=A.tn,tm:=m,tx:=A.tSamp c::A.tx.dropLast,lt:=A.ws.length}
structure Ab.Ok (A:Ab):Prop where
 k4:A.k<4
 gl:1<=A.gx.length/\A.gx.length<=3
 tl:A.tx.length=A.gx.length
 g1:A.gp<=A.ws.length/\A.ws.length<=A.gp+1
 t1:A.tp<=A.tn/\A.tn<=A.tp+1
 gs:A.gx.Pairwise (·>= ·)
 ts:A.tx.Pairwise (·>= ·)
 gb:∀d∈A.gx,d<=A.lg/\A.ws.length<=d+2^A.k
 tb:∀c∈A.tx,c<=A.lt/\A.tn<=c
 lg1:A.lg<=A.tn
 lt1:A.lt<=A.ws.length
 lg2:A.gm<A.tm->A.lg<=A.tp
 lt2:A.tm<A.gm->A.lt<=A.gp
theorem BH:∀{xs:List Nat},1<=xs.length->xs=xs.dropLast++[XH xs]
 |[],h=>by simp at h
 |[a],_=>rfl
 |a::b::s,_=>by
  have j:=BH (xs:=b::s) (by simp)
  have e:XH (a::b::s)=XH (b::s):=by simp[XH]
  rw[e];show a::b::s=a::((b::s).dropLast++[XH (b::s)]);rw[<-j]
theorem _v{xs:List Nat}(h:1<=xs.length):XH xs∈xs:=by
 have e:=BH h;rw[e];have j:XH (xs.dropLast++[XH xs])=XH xs:=by rw[<-e]
 rw[j];simp
theorem _kn{k n p:Nat}{f:Bool}{c:Nat}:Zu k n p f c=p\/Zu k n p f c=n:=by
 unfold Zu;split
 .exact .inl rfl
 .exact .inr rfl
theorem _km{k n p:Nat}{c:Nat}:Zu k n p false c=n:=by simp[Zu]
theorem RQ{k n p l:Nat}{f:Bool}{c:Nat}(h1:p<=n)(h2:l<=n)(h3:f=true->l<=p):l<=Zu k n p f c/\Zu k n p f c<=n:=by
 cases f with
 |false=>rw[_km];exact⟨h2,Xe _⟩
 |true=>
  rcases @_kn k n p true c with e|e
  all_goals first|exact⟨by rw[e];exact h3 rfl,by rw[e];exact h1⟩|exact⟨by rw[e];exact h2,by rw[e];exact Xe _⟩
theorem Ab.Ok.gSamp{A:Ab}(h:A.Ok)(c:Nat):A.lg<=A.gSamp c/\A.gSamp c<=A.tn:=RQ h.t1.1 h.lg1 (λf=>h.lg2 (of_decide_eq_true f))
theorem Ab.Ok.tSamp{A:Ab}(h:A.Ok)(c:Nat):A.lt<=A.tSamp c/\A.tSamp c<=A.ws.length:=RQ h.g1.1 h.lt1 (λf=>h.lt2 (of_decide_eq_true f))
theorem Ab.Ok.room{A:Ab}(h:A.Ok):A.tn<=A.ws.length/\A.ws.length<=A.tn+2^A.k:=by
 have a:=h.gb _ (_v h.gl.1);have b:=h.tb _ (_v (by rw[h.tl];exact h.gl.1))
 have:=h.lg1;have:=h.lt1;lia
set_option tactic.hygienic true in
theorem Ab.Ok.giver{A:Ab}(h:A.Ok){m:Int}{c:Nat}{w:Option Nat}(u:A.tm<m):(A.giver m c w).Ok:=by
 have g:=h.gSamp c;have f:=h.gb _ (_v h.gl.1);have L:=h.room;have q:∃n,(A.giver m c w).ws.length=n/\A.ws.length<=n/\n<=A.ws.length+1/\n<=XH A.gx+2^A.k:=by
  unfold Ab.giver;dsimp only;split
  .rename_i e
   unfold Ab.gives at e;simp only[XX,decide_eq_true_eq]at e;exact⟨_,rfl,by simp,by simp,by simp;lia⟩
  .exact⟨_,rfl,by lia,by lia,by lia⟩
 obtain⟨n,l,y,r,N⟩:=q;refine⟨h.k4,?_,?_,?_,h.t1,?_,h.ts,?_,?_,Xe _,?_,λz=>?_,λz=>?_⟩
 .show 1<=(A.gSamp c::A.gx.dropLast).length/\(A.gSamp c::A.gx.dropLast).length<=3;have:=h.gl;simp only[YD,Ws];lia
 .show A.tx.length=(A.gSamp c::A.gx.dropLast).length;have:=h.gl;have:=h.tl;simp[Ws];lia
 .rw[l];exact⟨y,r⟩
 .show(A.gSamp c::A.gx.dropLast).Pairwise (·>= ·);rw[DT];refine⟨λd j=>?_,Io (List.dropLast_sublist _) h.gs⟩;have:=(h.gb d (C3 _ j)).1;show d<=A.gSamp c;lia
 .intro d j;rw[l];show d<=A.tn/\n<=d+2^A.k;rcases Xk.mp j with rfl|j
  .have:=f.1;exact⟨g.2,by lia⟩
  .have u:=C3 _ j;refine⟨XY (h.gb d u).1 h.lg1,?_⟩;have:XH A.gx<=d:=by
    have e:=BH h.gl.1;have p:=h.gs;rw[e]at p;exact(List.pairwise_append.mp p).2.2 d j _ (Y6.mpr rfl)
   lia
 .exact h.tb
 .rw[l];exact XY h.lt1 y
 .exact absurd z (by show¬m<A.tm;lia)
 .exact h.lt1
set_option tactic.hygienic true in
theorem Ab.Ok.taker{A:Ab}(h:A.Ok){m:Int}{c:Nat}{w:Bool}(y:A.gm<m):(A.taker m c w).Ok:=by
 have f:=h.tSamp c;have l:1<=A.tx.length:=by rw[h.tl];exact h.gl.1
 have q:=h.tb _ (_v l);have N:=h.room;have r:∃n,(A.taker m c w).tn=n/\A.tn<=n/\n<=A.tn+1/\n<=XH A.tx:=by
  unfold Ab.taker;dsimp only;split
  .rename_i e
   unfold Ab.takes at e;simp only[XX,decide_eq_true_eq]at e;exact⟨_,rfl,by simp,by simp,by lia⟩
  .exact⟨_,rfl,by lia,by lia,by lia⟩
 obtain⟨n,u,g,L,O⟩:=r;refine⟨h.k4,h.gl,?_,h.g1,?_,h.gs,?_,?_,?_,?_,Xe _,λz=>?_,λz=>?_⟩
 .show(A.tSamp c::A.tx.dropLast).length=A.gx.length;have:=h.tl;simp[Ws];lia
 .rw[u];exact⟨g,L⟩
 .show(A.tSamp c::A.tx.dropLast).Pairwise (·>= ·);rw[DT];refine⟨λd j=>?_,Io (List.dropLast_sublist _) h.ts⟩;have:=(h.tb d (C3 _ j)).1;show d<=A.tSamp c;lia
 .exact h.gb
 .intro d j;rw[u];show d<=A.ws.length/\n<=d;rcases Xk.mp j with rfl|j
  .exact⟨f.2,by have:=q.1;lia⟩
  .have y:=C3 _ j;refine⟨XY (h.tb d y).1 h.lt1,?_⟩;have:XH A.tx<=d:=by
    have e:=BH l;have p:=h.ts;rw[e]at p;exact(List.pairwise_append.mp p).2.2 d j _ (Y6.mpr rfl)
   lia
 .rw[u];exact XY h.lg1 g
 .exact h.lg1
 .exact absurd z (by show¬m<A.gm;lia)
noncomputable def ab0(k st:Nat):Ab:=⟨k,[],0,0,0,-1,-1,Xj st 0,Xj st 0,0,0⟩
theorem RT(n:Nat):(Xj n 0).Pairwise (·>= ·):=by
 induction n with
 |zero=>exact .nil
 |succ n j=>rw[Z5,DT];exact⟨λd l=>by rw[UR l];exact Xe _,j⟩
theorem _qV{k st:Nat}(l:k<4)(h1:1<=st)(h3:st<=3):(ab0 k st).Ok:=by
 refine⟨l,by simpa [ab0]using⟨h1,h3⟩,by simp[ab0],by simp[ab0],by simp[ab0],RT _,RT _,?_,?_,Xe _,Xe _,λz=>Xe _,λz=>Xe _⟩
 .intro d j;rw[UR j];exact⟨Xe _,YS _⟩
 .intro d j;rw[UR j];exact⟨Xe _,Xe _⟩
noncomputable def PlOk(A:Ab)(pl:List (Nat×Nat×Int)):Prop:=pl.length=2^A.k/\∀j (u:j<A.ws.length),A.ws.length<=j+2^A.k->∃l,pl[j%2^A.k]?=some (A.ws[j],l,A.gm)/\(j<A.gp->l=A.ws[j])
noncomputable def YM(A:Ab)(m:Int)(w:Option Nat)(pl:List (Nat×Nat×Int)):List (Nat×Nat×Int):=
 (Xt pl.length).map λi=>((if A.gives w=true/\i=A.ws.length%2^A.k then w.getD 0 else(pl.getD i (0,0,0)).1),(pl.getD i (0,0,0)).1,m)
theorem _ql{a b n:Nat}(h1:a<b)(h2:b<a+n):a%n≠b%n:=by
 intro e;have j:(b - a)%n=0:=Nat.sub_mod_eq_zero_of_mod_eq e.symm;rw[Nat.mod_eq_of_lt (by lia)]at j
 lia
theorem _hF{A:Ab}{m:Int}{c:Nat}{w:Option Nat}{pl:List (Nat×Nat×Int)}(h:PlOk A pl):PlOk (A.giver m c w) (YM A m w pl):=by
 have q:0<2^A.k:=Zl _;refine⟨?_,?_⟩
 .show(YM A m w pl).length=2^A.k;simp[YM,h.1]
 .intro j r d;have d:(A.giver m c w).ws.length<=j+2^A.k:=d;show∃f,(YM A m w pl)[j%2^A.k]?=some ((A.giver m c w).ws[j],f,m)/\(j<A.ws.length->f=(A.giver m c w).ws[j]);have lt:j%2^A.k<pl.length:=by rw[h.1];exact VB _ q
  have get:(YM A m w pl)[j%2^A.k]?=some ((if A.gives w=true/\j%2^A.k=A.ws.length%2^A.k then w.getD 0 else(pl.getD (j%2^A.k) (0,0,0)).1),(pl.getD (j%2^A.k) (0,0,0)).1,m):=by
   unfold YM;rw[Xq,Wt lt]
   rfl
  rw[get];by_cases g:A.gives w=true
  .have y:(A.giver m c w).ws=A.ws++[w.getD 0]:=by unfold Ab.giver;rw[if_pos g]
   have N:j<A.ws.length+1:=by rw[y]at r;simpa using r
   have O:A.ws.length+1<=j+2^A.k:=by rw[y]at d;simpa using d
   by_cases e:j=A.ws.length
   .subst e;refine⟨(pl.getD (A.ws.length%2^A.k) (0,0,0)).1,?_,λz=>absurd z (Uz _)⟩;rw[if_pos ⟨g,rfl⟩];simp[y]
   .have l:j<A.ws.length:=by lia
    obtain⟨f,p,_⟩:=h.2 j l (by lia)
    have R:=_ql (n:=2^A.k) l (by lia)
    have L:pl.getD (j%2^A.k) (0,0,0)=(A.ws[j],f,A.gm):=by rw[Yf,p];rfl
    have u:(A.giver m c w).ws[j]=A.ws[j]:=by simp[y,l]
    refine⟨A.ws[j],?_,λ_=>u.symm⟩;rw[if_neg (λz=>R z.2),L,u]
  .have y:(A.giver m c w).ws=A.ws:=by unfold Ab.giver;rw[if_neg g]
   have l:j<A.ws.length:=by rw[y]at r;exact r
   obtain⟨f,p,_⟩:=h.2 j l (by rw[y]at d;exact d)
   have L:pl.getD (j%2^A.k) (0,0,0)=(A.ws[j],f,A.gm):=by rw[Yf,p];rfl
   have u:(A.giver m c w).ws[j]=A.ws[j]:=by simp[y]
   refine⟨A.ws[j],?_,λ_=>u.symm⟩;rw[if_neg (λz=>g z.1),L,u]
theorem _in{A:Ab}(h:A.Ok){pl:List (Nat×Nat×Int)}(y:PlOk A pl)(c:XH A.tx≠A.tn):∃(l:A.tn<A.ws.length) (j:Nat),pl[A.tn%2^A.k]?=some (A.ws[A.tn],j,A.gm)/\(A.tm<A.gm->j=A.ws[A.tn]):=by
 have u:1<=A.tx.length:=by rw[h.tl];exact h.gl.1
 have f:=h.tb _ (_v u);have m:=h.room;have q:=h.lt1;have l:A.tn<A.ws.length:=by lia
 obtain⟨j,g,d⟩:=y.2 A.tn l m.2;exact⟨l,j,g,λz=>d (by have:=h.lt2 z;lia)⟩
theorem _iA(a c:Nat):seen a a c=a:=by simp[seen]
theorem _kR{A:Ab}(h:A.Ok):(((A.ws.length:Int) - ((XH A.gx%2^(A.k+1):Nat):Int))%((2^(A.k+1):Nat):Int)<((2^A.k:Nat):Int))↔A.ws.length<XH A.gx+2^A.k:=by
 have a:=h.gb _ (_v h.gl.1);have j:=h.room;have l:=h.lg1;have e:((A.ws.length:Int) - ((XH A.gx%2^(A.k+1):Nat):Int))%((2^(A.k+1):Nat):Int)=((A.ws.length - XH A.gx:Nat):Int):=by
  rw[Ef,Ct,Int.emod_emod,<-Ct];have:(A.ws.length:Int) - (XH A.gx:Int)=((A.ws.length - XH A.gx:Nat):Int):=by lia
  rw[this,<-Ef,Nat.mod_eq_of_lt (by rw[Nat.pow_succ];have:=Zl A.k;lia)]
 rw[e];lia
theorem RU{A:Ab}(h:A.Ok):(((A.tn:Int) - ((XH A.tx%2^(A.k+1):Nat):Int))%((2^(A.k+1):Nat):Int)=0)↔XH A.tx=A.tn:=by
 have j:1<=A.tx.length:=by rw[h.tl];exact h.gl.1
 have a:=h.tb _ (_v j);have y:=h.room;have m:=h.lt1;have p:=Zl A.k;rw[Ef,Ct,Int.emod_emod,<-Ct];constructor
 .intro z;have d:=Int.dvd_of_emod_eq_zero z;have l:((2^(A.k+1):Nat):Int)∣((XH A.tx - A.tn:Nat):Int):=by
   have:((XH A.tx - A.tn:Nat):Int)= -((A.tn:Int) - (XH A.tx:Int)):=by lia
   rw[this];exact Int.dvd_neg.mpr d
  have u:=Int.natCast_dvd_natCast.mp l;have:=Nat.eq_zero_of_dvd_of_lt u (by rw[Nat.pow_succ];lia)
  lia
 .intro z;rw[z,Int.sub_self];rfl
abbrev Ha:SpM:=λj M Q=>∃(o n c:Nat),j=[.int o,.int n,.int c]/\Q (.int (seen o n c:Nat)) M
theorem _g4:MonW Ha:=by walk_at "m"
theorem _nI(T:Txt K mg t):FnOk P w K mg base CX0 1 t.gW t.fv ["old","new","choice"] (liSp K Ha):=by
 refine T.bM.F.okM _n2 (fC (G:=La) (Φ:=[]) T rfl nl0 nl0) F4 _oG (λj M Q h=>?_) (λj M Q h=>?_)
 .obtain⟨o,n,c,rfl,_⟩:=h;rfl
 obtain⟨o,n,c,rfl,q⟩:=h;show wSs _ _ _ [some (.int o),some (.int n),some (.int c)] M;delta F4 L9;simp!;rw[DE,_lH,DE];exact q
noncomputable abbrev BJ:SpM:=λj M Q=>∃w:Int,j=[.int w]/\Q (.tup [.int w,.int w,.int (-1)]) M
theorem RV:MonW BJ:=by walk_at "m"
theorem RW(T:Txt K mg t):FnOk P w K mg base CX0 1 t.ff t.eO ["word"] (liSp K BJ):=by
 refine T.aS.F.okM _dF (fC (G:=Lm) (Φ:=[]) T rfl nl0 nl0) F7 _ec (λj M Q h=>?_) (λj M Q h=>?_)
 .obtain⟨n,rfl,_⟩:=h;rfl
 obtain⟨n,rfl,q⟩:=h;show wSs _ _ _ [some (.int n)] M;delta F7 Ll;simp!;exact q
noncomputable abbrev UK:SpM:=λj M Q=>∃a b c w m:Int,j=[.tup [.int a,.int b,.int c],.int w,.int m]/\Q (.tup [.int w,.int a,.int m]) M
theorem Hb:MonW UK:=by walk_at "m"
theorem RX(T:Txt K mg t):FnOk P w K mg base CX0 1 t.dP t.fU ["sign","word","moment"] (liSp K UK):=by
 refine T.aV.F.okM _kN (fC (G:=Lo) (Φ:=[]) T rfl nl0 nl0) F8 _lE (λj M Q h=>?_) (λj M Q h=>?_)
 .obtain⟨a,b,c,w,m,rfl,_⟩:=h;rfl
 obtain⟨a,b,c,w,m,rfl,q⟩:=h;show wSs _ _ _ [some (.tup [.int a,.int b,.int c]),some (.int w),some (.int m)] M;delta F8 Ln;simp!;exact q
abbrev Vb:SpM:=λj M Q=>∃(a b:Nat) (m s:Int) (c:Nat),j=[.tup [.int a,.int b,.int m],.int s,.int c]/\Q (.int ((if s<m then seen b a c else a:Nat):Int)) M
theorem RY:MonW Vb:=by walk_at "m"
theorem RZ(T:Txt K mg t):FnOk P w K mg base CX0 2 t.dB t.dw ["sign","since","choice"] (liSp K Vb):=by
 refine T.b0.F.okM _hz (fC (G:=Lv) (Φ:=[("amid",Ha)]) T rfl (fMc ⟨_g4,nl0⟩) (fMc ⟨fE T.bM (_nI T),nl0⟩)) Fa _i5 (fun j M Q h=>?_) (fun j M Q h=>?_)
 .obtain⟨a,b,m,s,c,rfl,_⟩:=h;rfl
 obtain⟨a,b,m,s,c,rfl,q⟩:=h;show wSs _ _ _ [some (.tup [.int a,.int b,.int m]),some (.int s),some (.int c)] M;delta Fa Lu;simp!;refine Y3 (λh=>?_) (λh=>?_)
 .rw[if_pos h]at q;delta Ls;simp!;exact⟨b,a,c,rfl,q⟩
 .rw[if_neg h]at q;delta Lr;simp!;exact q
noncomputable abbrev Hc:SpM:=λj M Q=>∃(w:Int) (k:Nat),j=[.int w,.int k]/\1<=k/\k<=3/\Q (.tup ((Xj k w).map MV.int)) M
theorem _8B:MonW Hc:=by walk_at "m"
theorem Hd{j:Type}(x:j):∀k:Nat,(Xj k [x]).flatten=Xj k x
 |0=>rfl
 |k+1=>by rw[Z5,ZD,Hd x k];rfl
theorem _cy(T:Txt K mg t):FnOk P w K mg base CX0 1 t.gH t.gC ["word","stages"] (liSp K Hc):=by
 refine T.bA.F.okM _cq (fC (G:=Lq) (Φ:=[]) T rfl nl0 nl0) F9 _cQ (λj M Q h=>?_) (λj M Q h=>?_)
 .obtain⟨w,k,rfl,_⟩:=h;rfl
 obtain⟨w,k,rfl,l,u,q⟩:=h;show wSs _ _ _ [some (.int w),some (.int k)] M;delta F9 Lp;simp!;refine⟨by lia,by lia,?_⟩
 rw[YY,Hd];rw[Wu]at q;exact q
noncomputable abbrev He:SpM:=λj M Q=>∃(l:List Int) (a:Int),j=[.tup ((l++[a]).map MV.int)]/\Q (.int a) M
theorem _g2:MonW He:=by walk_at "m"
theorem _oN(xs:List Int)(a:Int):atI ((xs++[a]).map MV.int) (-1)=some (.int a):=by
 unfold atI ixN;rw[if_neg (by decide),if_pos (by simp;lia)]
 have e:((-1:Int)+(((xs++[a]).map MV.int).length:Int)).toNat=xs.length:=by simp;lia
 rw[e];simp
theorem _nF(T:Txt K mg t):FnOk P w K mg base CX0 1 t.gD t.fR ["sight"] (liSp K He):=by
 refine T.bE.F.okM _mZ (fC (G:=Lz) (Φ:=[]) T rfl nl0 nl0) Fc _oD (λl M Q h=>?_) (λl M Q h=>?_)
 .obtain⟨j,a,rfl,_⟩:=h;rfl
 obtain⟨j,a,rfl,q⟩:=h;show wSs _ _ _ [some (.tup ((j++[a]).map MV.int))] M;delta Fc Ly;simp!;exact⟨_,_oN j a,q⟩
noncomputable abbrev DG:SpM:=λl M Q=>∃(j:List Int) (a w:Int),l=[.tup ((j++[a]).map MV.int),.int w]/\j.length<=100/\Q (.tup ((w::j).map MV.int)) M
theorem _eY:MonW DG:=by walk_at "m"
theorem _ld(T:Txt K mg t):FnOk P w K mg base CX0 1 t.fq t.cX ["sight","word"] (liSp K DG):=by
 refine T.be.F.okM _kO (fC (G:=Lx) (Φ:=[]) T rfl nl0 nl0) Fb _lF (λl M Q h=>?_) (λl M Q h=>?_)
 .obtain⟨j,a,w,rfl,_⟩:=h;rfl
 obtain⟨j,a,w,rfl,y,q⟩:=h;show wSs _ _ _ [some (.tup ((j++[a]).map MV.int)),some (.int w)] M;delta Fb Lw;simp!;have len:([MV.int w]++(j++[a]).map MV.int).length=j.length+2:=by simp
 have u:HT.sIx (j.length+2) (j.length+2) (some (-1))=j.length+1:=by
  unfold HT.sIx;dsimp only;rw[if_pos (by decide)]
  lia
 have cut:cutM ([MV.int w]++(j++[a]).map MV.int) none (some (-1))=(w::j).map MV.int:=by
  unfold cutM;rw[len,u,HT.sIx_none,Nat.sub_zero,List.drop_zero,Y0,<-Vr];rw[HC (by simp),Wr (by simp)]
  rfl
 refine⟨by simp;lia,?_⟩
 rw[cut];exact q
abbrev BK:SpM:=λj M Q=>∃n:Nat,j=[.int n]/\Q (.int (gray n:Nat)) M
theorem S0:MonW BK:=by walk_at "m"
theorem S1(T:Txt K mg t):FnOk P w K mg base CX0 1 t.cC t.eZ ["n"] (liSp K BK):=by
 refine T.aU.F.okM _hB (fC (G:=Lc) (Φ:=[]) T rfl nl0 nl0) F5 _i7 (λj M Q h=>?_) (λj M Q h=>?_)
 .obtain⟨n,rfl,_⟩:=h;rfl
 obtain⟨n,rfl,q⟩:=h;show wSs _ _ _ [some (.int n)] M;delta F5 Lb;simp!;have e:(n:Int)/2=((n/2:Nat):Int):=by lia
 rw[e,DE];exact q
abbrev Hf:SpM:=λl M Q=>∃j:Nat,l=[.int j]/\j<2^60/\Q (.int (W9 j:Nat)) M
theorem _aN:MonW Hf:=by walk_at "m"
theorem _eN(T:Txt K mg t):FnOk P w K mg base CX0 1 t.eP t.cZ ["word"] (liSp K Hf):=by
 refine T.bz.F.okM _er (fC (G:=Lk) (Φ:=[]) T rfl nl0 nl0) F6 _fl (λf M Q h=>?_) (λf M Q h=>?_)
 .obtain⟨n,rfl,_⟩:=h;rfl
 obtain⟨l,rfl,p,q⟩:=h;show wSs _ _ _ [some (.int l),none,none] M;have j:∀a:Nat,(a:Int)/2=((a/2:Nat):Int):=λa=>by lia
 delta F6 Lj;simp!;delta Li;simp!;rw[j];delta Lh;simp!;refine⟨λm z g=>g=M/\∃n a k:Nat,a=m/\a<2^k/\ugF k n a=W9 l/\z=[some (.int l),some (.int n),some (.int a)],⟨l/2,rfl,l,l/2,64,rfl,by lia,rfl,rfl⟩,?_⟩
 rintro m z g ⟨rfl,n,a,k,rfl,d,u,rfl⟩;simp!;refine Y3 (λc=>?_) (λc=>?_)
 .delta Lg;simp!;rw[DE];delta Lf;simp!;rw[j];obtain⟨y,rfl⟩:∃y,k=y+1:=⟨k - 1,by
   cases k with
   |zero=>simp at d;lia
   |succ k=>rfl⟩
  refine⟨a/2,by lia,?_⟩
  refine⟨_,y,by rw[Nat.pow_succ]at d;lia,?_,rfl⟩
  rw[ugF,if_neg (by lia)]at u
  exact u
 .have r:a=0:=by lia
  subst r;rw[_kw]at u;rw[u];delta Ld;simp!;exact q
noncomputable abbrev natM:Nat->MV:=λn=>.int n
noncomputable abbrev sgnM(s:Nat×Nat×Int):MV:=.tup [.int s.1,.int s.2.1,.int s.2.2]
def Xl(j n:Nat)(s:Nat×Nat×Int)(xs:List Nat):MO:=.ins "Side" [("turn",.int j),("total",.int n),("sign",sgnM s),("sight",.tup (xs.map natM))]
theorem Hg(xs:List Nat):xs.map natM=(xs.map λn:Nat=>(n:Int)).map MV.int:=by rw[Yi];rfl
theorem Hh(a b:Nat):(a:Int)%(b:Int)=((a%b:Nat):Int):=by lia
theorem S3{k n p:Nat}(j:k<4)(h:p<=n/\n<=p+1)(s m:Int)(c:Nat):(if s<m then seen (gray (p%2^(k+1))) (gray (n%2^(k+1))) c else gray (n%2^(k+1)))=gray (Zu k n p (decide (s<m)) c%2^(k+1)):=by
 unfold Zu;by_cases e:s<m
 .rw[if_pos e,_iB j (a:=n) (b:=p) (by lia)]
  by_cases f:c&&&(gray (n%2^(k+1))^^^gray (p%2^(k+1)))=0
  .rw[if_pos f,if_pos ⟨decide_eq_true e,f⟩]
  .rw[if_neg f,if_neg (λz=>f z.2)]
 .rw[if_neg e,if_neg (λz=>e (of_decide_eq_true z.1))]
abbrev DH:SpM:=fun l M Q=>∃(a:Addr) (j st:Nat),l=[.ref a,.int j,.int st]/\M a=some (.ins "Side" [])/\1<=st/\st<=3/\Q .non (updM M a (Xl j 0 (0,0,-1) (Xj st 0)))
theorem _74:MonW DH:=by walk_at "m"
theorem _aL(T:Txt K mg t):FnOk P w K mg base CX0 2 t.aW t.bo ["self","turn","stages"] (liSp K DH):=by
 refine T.gT.okM _aJ (fC (G:=LF) (Φ:=[("code_of",BK),("first_sight",Hc),("first_sign",BJ)]) T rfl (fMc ⟨S0,(fMc ⟨_8B,(fMc ⟨RV,nl0⟩)⟩)⟩) (fMc ⟨fE T.aU (S1 T),(fMc ⟨fE T.bA (_cy T),(fMc ⟨fE T.aS (RW T),nl0⟩)⟩)⟩)) Fd _aU (fun l M Q h=>?_) (fun l M Q h=>?_)
 .obtain⟨a,j,st,rfl,_⟩:=h;rfl
 obtain⟨a,j,st,rfl,u,y,z,q⟩:=h;show wSs _ _ _ [some (.ref a),some (.int j),some (.int st)] M;have m:gray 0=0:=by decide
 delta Fd LD
 simp![u,putM]
 delta LC
 simp![putM,YF]
 delta LB
 simp![putM,YF]
 refine⟨0,rfl,?_⟩
 simp![putM,YF]
 refine⟨_,rfl,?_⟩
 simp![putM,YF]
 delta LA
 simp![putM,YF]
 refine⟨0,rfl,?_⟩
 simp![putM,YF]
 refine⟨_,st,rfl,y,z,?_⟩
 simp![putM,YF]
 rw[m];have e:List.map MV.int (Xj st (((0:Nat):Int)))=(Xj st 0).map natM:=by rw[Wu,Wu]
 rw[e];exact q
abbrev Vc:SpM:=λj M Q=>∃(a:Addr) (l n:Nat) (s:Nat×Nat×Int) (u:List Nat),j=[.ref a]/\M a=some (Xl l n s u)/\Q (.int s.2.2) M
theorem S4:MonW Vc:=by walk_at "m"
theorem S5(T:Txt K mg t):FnOk P w K mg base CX0 1 t.c9 t.bn ["self"] (liSp K Vc):=by
 refine T.gk.okM _8p (fC (G:=LH) (Φ:=[]) T rfl nl0 nl0) Fe _93 (λj M Q h=>?_) (λj M Q h=>?_)
 .obtain⟨a,l,n,s,u,rfl,_⟩:=h;rfl
 obtain⟨a,l,n,s,u,rfl,y,q⟩:=h;show wSs _ _ _ [some (.ref a)] M;delta Fe LG
 simp![y,Xl,valM]
 exact q
abbrev Ui:SpM:=λl M Q=>∃(a:Addr) (j n:Nat) (s:Nat×Nat×Int) (y:List Nat) (u:Nat),l=[.ref a]/\M a=some (Xl j n s (y++[u]))/\u<2^60/\0<j/\Q (.int (((n:Int) - (W9 u:Nat))%(j:Int))) M
theorem Hi:MonW Ui:=by walk_at "m"
theorem S6(T:Txt K mg t):FnOk P w K mg base CX0 2 t.cv t.br ["self"] (liSp K Ui):=by
 refine T.dh.okM _5F (fC (G:=LJ) (Φ:=[("number_of",Hf),("used",He)]) T rfl (fMc ⟨_aN,(fMc ⟨_g2,nl0⟩)⟩) (fMc ⟨fE T.bz (_eN T),(fMc ⟨fE T.bE (_nF T),nl0⟩)⟩)) Ff _6M (fun y M Q h=>?_) (fun y M Q h=>?_)
 .obtain⟨a,z,n,s,l,u,rfl,_⟩:=h;rfl
 obtain⟨a,z,n,s,l,u,rfl,j,m,g,q⟩:=h;show wSs _ _ _ [some (.ref a)] M;delta Ff LI
 simp![j,Xl,valM]
 refine⟨l.map (λn:Nat=>(n:Int)),(u:Int),by rw[Hg,Y0];rfl,?_⟩
 simp![j,Xl,valM]
 refine⟨u,rfl,m,?_⟩
 simp![j,Xl,valM]
 exact⟨by lia,q⟩
abbrev Uj:SpM:=λu M Q=>∃(a:Addr) (j n:Nat) (s:Nat×Nat×Int) (l:List Nat),u=[.ref a]/\M a=some (Xl j n s l)/\Q .non (updM M a (Xl j (n+1) s l))
theorem Hj:MonW Uj:=by walk_at "m"
theorem S7(T:Txt K mg t):FnOk P w K mg base CX0 1 t.bc t.bO ["self"] (liSp K Uj):=by
 refine T.fD.okM _ey (fC (G:=LL) (Φ:=[]) T rfl nl0 nl0) Fg _fs (λj M Q h=>?_) (λj M Q h=>?_)
 .obtain⟨a,l,n,s,u,rfl,_⟩:=h;rfl
 obtain⟨a,l,n,s,u,rfl,y,q⟩:=h;show wSs _ _ _ [some (.ref a)] M;delta Fg LK
 simp![y,Xl,valM,putM]
 exact q
abbrev Uk:SpM:=λy M Q=>∃(a:Addr) (j n:Nat) (s:Nat×Nat×Int) (l:List Nat) (u:Nat) (m:Int) (c:Nat) (o:Nat×Nat×Int),y=[.ref a,.int m,.int c,sgnM o]/\M a=some (Xl j n s (l++[u]))/\l.length<=100/\0<j/\
 ∀d:Nat,(if s.2.2<o.2.2 then seen o.2.1 o.1 c else o.1)=d->Q (.int d) (updM M a (Xl j n (gray (n%j),s.1,m) (d::l)))
theorem Hk:MonW Uk:=by walk_at "m"
theorem S8(T:Txt K mg t):FnOk P w K mg base CX0 3 t.bd t.bu ["self","moment","choice","other_sign"] (liSp K Uk):=by
 refine T.ge.okM _71 (_N (k:=2) (G:=LQ) (Φ:=[("code_of",BK),("moved",DG),("sampled",Vb),("shown",UK)]) (Ψ:=[("Side_ring_ahead",Vc)]) (Χ:=[("code_of",BK),("moved",DG),("sampled",Vb),("shown",UK),("Side_ring_ahead",Vc)]) rfl (_O T) (_P T) rfl (fMc ⟨S0,(fMc ⟨_eY,(fMc ⟨RY,(fMc ⟨Hb,(fMc ⟨S4,nl0⟩)⟩)⟩)⟩)⟩) (fMc ⟨fE T.aU (S1 T),(fMc ⟨fE T.be (_ld T),(fMc ⟨fE T.b0 (RZ T),(fMc ⟨fE T.aV (RX T),nl0⟩)⟩)⟩)⟩) (fMc ⟨⟨_,_,rfl,_,_,_,_,(FnOk.mono (S5 T) (by decide)),T.ag,T.aj,T.bq,T.bX⟩,nl0⟩) nl0 (_Q T)) Fh _76 (fun f M Q h=>?_) (fun f M Q h=>?_)
 .obtain⟨a,y,n,s,l,u,m,c,o,rfl,_⟩:=h;rfl
 obtain⟨a,y,n,s,l,u,m,c,o,rfl,j,r,p,q⟩:=h;show wSs _ _ _ [some (.ref a),some (.int m),some (.int c),some (sgnM o),none] M;delta Fh LP
 simp![j,Xl,valM]
 refine⟨a,y,n,s,l++[u],rfl,j,?_⟩
 simp![j,Xl,valM]
 refine⟨o.1,o.2.1,o.2.2,s.2.2,c,rfl,?_⟩;obtain⟨d,g⟩:∃d:Nat,(if s.2.2<o.2.2 then seen o.2.1 o.1 c else o.1)=d:=⟨_,rfl⟩;rw[g];delta LO
 simp![j,Xl,valM]
 refine⟨by lia,?_⟩
 rw[Hh];refine⟨_,rfl,?_⟩
 simp![j,Xl,valM,putM]
 refine⟨s.1,s.2.1,s.2.2,_,m,rfl,?_⟩
 simp![j,Xl,valM,putM]
 delta LN
 simp![j,Xl,valM,putM,YF]
 refine⟨l.map (λn:Nat=>(n:Int)),(u:Int),(d:Int),by rw[Hg,Y0];rfl,by rw[Xd];exact r,?_⟩
 simp![j,Xl,valM,putM,YF]
 delta LM
 simp![j,Xl,valM,putM,YF]
 have e:MV.int (d:Int)::List.map MV.int (l.map λn:Nat=>(n:Int))=(d::l).map natM:=by rw[Xx,Hg]
 have z:=q d g;rw[Xl,<-e]at z
 simpa only[Xx]using z
noncomputable def XW(p g u:Addr):MO:=.ins "Ferry" [("places",.ref p),("giver",.ref g),("taker",.ref u)]
abbrev Xi(k n:Nat):Nat:=gray (n%2^(k+1))
noncomputable def wM:Option Nat->MV
 |none=>.non
 |some x=>.int x
structure FyAt (M:MH)(f p g u:Addr)(A:Ab):Prop where
 ok:A.Ok
 fe:M f=some (XW p g u)
 pls:∃pl,M p=some (.lst (pl.map sgnM))/\PlOk A pl
 gi:M g=some (Xl (2^(A.k+1)) A.ws.length (Xi A.k A.ws.length,Xi A.k A.gp,A.gm) (A.gx.map (Xi A.k)))
 ta:M u=some (Xl (2^(A.k+1)) A.tn (Xi A.k A.tn,Xi A.k A.tp,A.tm) (A.tx.map (Xi A.k)))
 ne:g≠u
noncomputable def FrM(M M':MH)(l:List Addr):Prop:=∀a o,M a=some o->a∉l->M' a=some o
theorem FrM.refl(M:MH)(l:List Addr):FrM M M l:=λ_ _ h _=>h
theorem FrM.new{M M':MH}{l:List Addr}(h:FrM M M' l){p:Addr}(j:M' p=none)(o:MO):FrM M (updM M' p o) l:=λa u e n=>by
 have:=h a u e n;rw[Xc (neM this j)];exact this
theorem FrM.upd{M M':MH}{l:List Addr}(h:FrM M M' l){p:Addr}(j:p∈l)(o:MO):FrM M (updM M' p o) l:=λa u e n=>by
 rw[Xc (λz=>n (by rw[z];exact j))];exact h a u e n
theorem DI{j n:Nat}{s:Nat×Nat×Int}{xs:List Nat}{p g u:Addr}:Xl j n s xs≠XW p g u:=by
 intro e;unfold Xl XW at e;injection e with e1 _;exact absurd e1 (by rw[W5];decide)
theorem YV{M:MH}{a b:Addr}{o u:MO}(h1:M a=some o)(h2:M b=some u)(n:o≠u):a≠b:=by
 intro e;subst e;rw[h1]at h2;cases h2;exact n rfl
theorem S9{k n:Nat}(j:k<4):Xi k n<2^60/\W9 (Xi k n)=n%2^(k+1):=by
 have h:=RP j (VB n (Zl (k+1)));exact⟨Yv h.1 (by decide),h.2.1⟩
theorem Sa{k:Nat}{xs:List Nat}(h:1<=xs.length):xs.map (Xi k)=xs.dropLast.map (Xi k)++[Xi k (XH xs)]:=by
 have e:=BH h;have:xs.map (Xi k)=(xs.dropLast++[XH xs]).map (Xi k):=by rw[<-e]
 rw[this,Y0];rfl
theorem _o4{n j:Nat}(h:j<n):ixN n (j:Int)=some j:=by
 unfold ixN;rw[if_pos (by lia),if_pos (by lia),YY]
abbrev BL:SpM:=fun l M Q=>∃(f:Addr) (k st:Nat),l=[.ref f,.int k,.int st]/\M f=some (.ins "Ferry" [])/\k<4/\1<=st/\st<=3/\∀p g u j,M p=none->M g=none->M u=none->FrM M j [f]->FyAt j f p g u (ab0 k st)->Q .non j
theorem Sb:MonW BL:=by walk_at "m"
theorem _9o(T:Txt K mg t):FnOk P w K mg base CX0 4 t.aY t.bK ["self","k","stages"] (liSp K BL):=by
 refine T.iq.okM _9k (_N (k:=3) (G:=LV) (Φ:=[("first_sign",BJ),("two_to",Zr)]) (Ψ:=[("Side___init__",DH)]) (Χ:=[("first_sign",BJ),("two_to",Zr),("Side___init__",DH)]) rfl (_O T) (_P T) rfl (fMc ⟨RV,(fMc ⟨Do,(fMc ⟨_74,nl0⟩)⟩)⟩) (fMc ⟨fE T.aS (RW T),(fMc ⟨fE T.aF (Dp T),nl0⟩)⟩) nl0 (fMc ⟨⟨_,_,rfl,_,_,_,_,_,(by decide:2+1<=3),_aL T,T.ag,T.fu,T.dc,T.gY⟩,nl0⟩) (_Q T)) Fi _9E (fun vs M Q h=>?_) (fun vs M Q h=>?_)
 .obtain⟨f,k,st,rfl,_⟩:=h;rfl
 obtain⟨f,k,st,rfl,hM,hk,J,S,q⟩:=h;show wSs _ _ _ [some (.ref f),some (.int k),some (.int st)] M;have X:∀j:Nat,((2:Int)^j)=((2^j:Nat):Int):=λj=>by rw[WF];rfl
 have kp0:(0:Int)<=((2^k:Nat):Int):=WE _;have k16:2^k<=8:=Ck (by lia) (by lia:k<=3)
 delta Fi LU
 simp![putM]
 refine⟨0,rfl,?_⟩
 simp![putM]
 intro F U;have W:=(FrM.refl M [f]).new U (.lst [.tup [.int 0,.int 0,.int (-1)]]);have c:updM M F (.lst [.tup [.int 0,.int 0,.int (-1)]]) f=some (.ins "Ferry" []):=by rw[Xc (neM hM U)];exact hM
 have H:updM M F (.lst [.tup [.int 0,.int 0,.int (-1)]]) F=some (.lst [.tup [.int 0,.int 0,.int (-1)]]):=X9;generalize updM M F _=M0 at*;refine⟨k,rfl,by lia,?_⟩
 simp![H,X]
 rw[YY];refine⟨by lia,by lia,by lia,λp O=>?_⟩
 have v:M p=none:=by
  cases e:M p with
  |none=>rfl
  |some o=>
   by_cases ez:p=f
   .subst ez;rw[c]at O;cases O
   .rw[W p o e (by simpa using ez)]at O;cases O
 have s:=W.new O (.lst (Xj (2^k) [MV.tup [.int 0,.int 0,.int (-1)]]).flatten);have Y:updM M0 p (.lst (Xj (2^k) [MV.tup [.int 0,.int 0,.int (-1)]]).flatten) f=some (.ins "Ferry" []):=by rw[Xc (neM c O)];exact c
 have Z:updM M0 p (.lst (Xj (2^k) [MV.tup [.int 0,.int 0,.int (-1)]]).flatten) p=some (.lst (Xj (2^k) [MV.tup [.int 0,.int 0,.int (-1)]]).flatten):=X9;generalize updM M0 p _=M1 at*
 simp![Y,putM]
 have A:=s.upd (Y6.mpr rfl) (.ins "Ferry" [("places",.ref p)]);have l:updM M1 f (.ins "Ferry" [("places",.ref p)]) f=some (.ins "Ferry" [("places",.ref p)]):=X9;have jV:updM M1 f (.ins "Ferry" [("places",.ref p)]) p=some (.lst (Xj (2^k) [MV.tup [.int 0,.int 0,.int (-1)]]).flatten):=by rw[Xc (YV Z Y (by intro z;cases z))];exact Z
 have free:∀z,updM M1 f (.ins "Ferry" [("places",.ref p)]) z=none->M z=none:=fun z d=>by
  cases e:M z with
  |none=>rfl
  |some o=>
   by_cases ez:z=f
   .subst ez;rw[l]at d;cases d
   .rw[A z o e (by simpa using ez)]at d;cases d
 generalize updM M1 f _=M2 at*;delta LS
 simp![l,putM]
 refine⟨k+1,rfl,by lia,?_⟩
 simp![l,putM,X]
 intro g I;refine⟨g,2^(k+1),st,rfl,X9,J,S,rfl,?_⟩;rw[YF];have i:=A.new I (Xl (2^(k+1)) 0 (0,0,-1) (Xj st 0));have r:updM M2 g (Xl (2^(k+1)) 0 (0,0,-1) (Xj st 0)) f=some (.ins "Ferry" [("places",.ref p)]):=by rw[Xc (neM l I)];exact l
 have jW:updM M2 g (Xl (2^(k+1)) 0 (0,0,-1) (Xj st 0)) p=some (.lst (Xj (2^k) [MV.tup [.int 0,.int 0,.int (-1)]]).flatten):=by rw[Xc (neM jV I)];exact jV
 have B:updM M2 g (Xl (2^(k+1)) 0 (0,0,-1) (Xj st 0)) g=some (Xl (2^(k+1)) 0 (0,0,-1) (Xj st 0)):=X9;have n:=free g I;generalize updM M2 g _=M3 at*
 simp![r,putM]
 have gf:g≠f:=YV B r (by intro z;unfold Xl at z;injection z with z1 _;exact absurd z1 (by rw[W5];decide))
 have C:=i.upd (Y6.mpr rfl) (.ins "Ferry" [("places",.ref p),("giver",.ref g)]);have y:updM M3 f (.ins "Ferry" [("places",.ref p),("giver",.ref g)]) f=some (.ins "Ferry" [("places",.ref p),("giver",.ref g)]):=X9;have jX:updM M3 f (.ins "Ferry" [("places",.ref p),("giver",.ref g)]) p=some (.lst (Xj (2^k) [MV.tup [.int 0,.int 0,.int (-1)]]).flatten):=by rw[Xc (YV jW r (by intro z;cases z))];exact jW
 have m:updM M3 f (.ins "Ferry" [("places",.ref p),("giver",.ref g)]) g=some (Xl (2^(k+1)) 0 (0,0,-1) (Xj st 0)):=by rw[Xc gf];exact B
 generalize updM M3 f _=M4 at*;have L:∀z,M4 z=none->M z=none:=λz d=>by
  cases e:M z with
  |none=>rfl
  |some o=>
   by_cases ez:z=f
   .subst ez;rw[y]at d;cases d
   .rw[C z o e (by simpa using ez)]at d;cases d
 delta LR
 simp![y,putM]
 refine⟨k+1,rfl,by lia,?_⟩
 simp![y,putM,X]
 intro u R;refine⟨u,2^(k+1),st,rfl,X9,J,S,rfl,?_⟩;rw[YF];have x:=C.new R (Xl (2^(k+1)) 0 (0,0,-1) (Xj st 0));have N:updM M4 u (Xl (2^(k+1)) 0 (0,0,-1) (Xj st 0)) f=some (.ins "Ferry" [("places",.ref p),("giver",.ref g)]):=by rw[Xc (neM y R)];exact y
 have jY:updM M4 u (Xl (2^(k+1)) 0 (0,0,-1) (Xj st 0)) p=some (.lst (Xj (2^k) [MV.tup [.int 0,.int 0,.int (-1)]]).flatten):=by rw[Xc (neM jX R)];exact jX
 have D:updM M4 u (Xl (2^(k+1)) 0 (0,0,-1) (Xj st 0)) g=some (Xl (2^(k+1)) 0 (0,0,-1) (Xj st 0)):=by rw[Xc (neM m R)];exact m
 have E:updM M4 u (Xl (2^(k+1)) 0 (0,0,-1) (Xj st 0)) u=some (Xl (2^(k+1)) 0 (0,0,-1) (Xj st 0)):=X9;have gu:=neM m R;have b:=L u R;generalize updM M4 u _=M5 at*
 simp![N,putM]
 have uf:u≠f:=YV E N (by intro z;unfold Xl at z;injection z with z1 _;exact absurd z1 (by rw[W5];decide))
 have a:=x.upd (Y6.mpr rfl) (XW p g u);have g0:gray 0=0:=by decide
 have g1:∀j,Xi j 0=0:=λj=>by unfold Xi;rw[Nat.zero_mod,g0]
 have gr:(Xj st 0).map (Xi k)=Xj st 0:=by rw[Wu,g1]
 refine q p g u _ v n b a ⟨_qV hk J S,X9,⟨Xj (2^k) (0,0,-1),?_,by simp[ab0],λj hj=>absurd hj (by simp[ab0])⟩,?_,?_,gu⟩
 .rw[Xc (YV jY N (by intro z;cases z)),jY,Hd,Wu]
  rfl
 .rw[Xc gf,D];show some (Xl _ 0 (0,0,-1) _)=some (Xl (2^(k+1)) 0 (Xi k 0,Xi k 0,-1) ((Xj st 0).map (Xi k)));rw[g1,gr]
 .rw[Xc uf,E];show some (Xl _ 0 (0,0,-1) _)=some (Xl (2^(k+1)) 0 (Xi k 0,Xi k 0,-1) ((Xj st 0).map (Xi k)));rw[g1,gr]
abbrev Vd:SpM:=λy M Q=>∃(f p g u:Addr) (A:Ab) (m:Int) (c:Nat) (x:Option Nat),y=[.ref f,.int m,.int c,wM x]/\FyAt M f p g u A/\A.gm<m/\A.tm<m/\
 ∀l j,M l=none->FrM M j [f,g,u]->FyAt j f l g u (A.giver m c x)->Q (.tup [.bl (A.gives x),.int (Xi A.k (A.gSamp c):Nat)]) j
theorem _53:MonW Vd:=by walk_at "m"
theorem _87(T:Txt K mg t):FnOk P w K mg base CX0 4 t.bI t.cA ["self","moment","choice","word"] (liSp K Vd):=by
 refine T.gU.okM _83 (_N (k:=3) (G:=Mc) (Φ:=[("shown",UK)]) (Ψ:=[("Side_grow",Uj),("Side_less_the_seen",Ui),("Side_show_and_see",Uk)]) (Χ:=[("shown",UK),("Side_grow",Uj),("Side_less_the_seen",Ui),("Side_show_and_see",Uk)]) rfl (_O T) (_P T) rfl (fMc ⟨Hb,(fMc ⟨Hj,(fMc ⟨Hi,(fMc ⟨Hk,nl0⟩)⟩)⟩)⟩) (fMc ⟨fE T.aV (RX T),nl0⟩) (fMc ⟨⟨_,_,rfl,_,_,_,_,(FnOk.mono (S7 T) (by decide)),T.ag,T.aj,T.bL,T.cr⟩,(fMc ⟨⟨_,_,rfl,_,_,_,_,(FnOk.mono (S6 T) (by decide)),T.ag,T.aj,T.ca,T.c7⟩,(fMc ⟨⟨_,_,rfl,_,_,_,_,(FnOk.mono (S8 T) (by decide)),T.ag,T.aj,T.bG,T.bD⟩,nl0⟩)⟩)⟩) nl0 (_Q T)) Fl _8l (fun vs M Q h=>?_) (fun vs M Q h=>?_)
 .obtain⟨f,p,g,u,A,m,c,x,rfl,_⟩:=h;rfl
 obtain⟨f,p,g,u,A,m,c,x,rfl,J,h1,h2,q⟩:=h;have hf:=J.fe;obtain⟨j,hp,hpl⟩:=J.pls;have hg:=J.gi;have hu:=J.ta;have ok:=J.ok;have hΦ:=(UH (Φ:=[("shown",UK),("Side_grow",Uj),("Side_less_the_seen",Ui),("Side_show_and_see",Uk)]) (fMc ⟨Hb,(fMc ⟨Hj,(fMc ⟨Hi,(fMc ⟨Hk,nl0⟩)⟩)⟩)⟩));have kpos:0<2^A.k:=Zl _;have k8:2^A.k<=8:=Ck (by lia) (by have:=ok.k4;lia:A.k<=3)
 have pll:j.length=2^A.k:=hpl.1;have gs:=S9 (n:=XH A.gx) ok.k4;have eg:=Sa (k:=A.k) ok.gl.1;have gf:g≠f:=YV hg hf DI;have uf:u≠f:=YV hu hf DI;have W:∀(M1:MH)(D:Addr)(n:Nat),FrM M M1 [f,g,u]->M1 f=some (XW p g u)->M1 p=some (.lst (j.map sgnM))->M1 u=M u->M1 g=some (Xl (2^(A.k+1)) n (Xi A.k A.ws.length,Xi A.k A.gp,A.gm) (A.gx.map (Xi A.k)))->n=(A.giver m c x).ws.length->
   M1 D=some (.lst ((Xt j.length).map λi=>MV.int ((if A.gives x=true/\i=A.ws.length%2^A.k then x.getD 0 else(j.getD i (0,0,0)).1:Nat):Int)))->
   wSs ([("shown",UK),("Side_grow",Uj),("Side_less_the_seen",Ui),("Side_show_and_see",Uk)]:List (Str×SpM)) Fj {nx:=fun _ M'=>Q .non M',rt:=Q} [some (.ref f),some (.int m),some (.int c),some (wM x),some (.ref D),some (.bl (A.gives x))] M1:=by
  intro M1 D n fr N C Y L hn O;delta Fj;simp!;refine _q (Xt j.length) (λi=>.int (0+(i:Nat))) (λi=>sgnM ((if A.gives x=true/\i=A.ws.length%2^A.k then x.getD 0 else(j.getD i (0,0,0)).1),(j.getD i (0,0,0)).1,m)) ?_ ?_ hΦ λr l=>?_
  .simp![O,Xd,Uu]
   rw[YY];exact⟨by lia,by lia,rfl,by lia,trivial⟩
  .intro i E M' s;have E:i<j.length:=by simpa using E
   have f':=s _ _ N;have p':=s _ _ C;have d':=s _ _ O;simp only[sCm,Xx,Yc,Yn,Yo,Yg,Y7];have a1:atI (j.map sgnM) (0+(i:Int))=some (sgnM (j.getD i (0,0,0))):=by
    rw[WG];refine Yr ?_;rw[Xq,X8 E,Yf,X8 E];rfl
   have a2:atI ((Xt j.length).map λi=>MV.int ((if A.gives x=true/\i=A.ws.length%2^A.k then x.getD 0 else(j.getD i (0,0,0)).1:Nat):Int)) (0+(i:Int))=some (.int ((if A.gives x=true/\i=A.ws.length%2^A.k then x.getD 0 else(j.getD i (0,0,0)).1:Nat):Int)):=by
    rw[WG];refine Yr ?_;rw[Xq,Wt E];rfl
   simp![f',p',d',a1,a2,XW,valM]
   exact⟨_,_,_,_,_,rfl,rfl,rfl⟩
  have md2:M r=none:=by
   cases e:M r with
   |none=>rfl
   |some o=>
    by_cases e1:r=f
    .subst e1;rw[N]at l;cases l
    .by_cases e2:r=g
     .subst e2;rw[L]at l;cases l
     .by_cases e3:r=u
      .subst e3;rw[Y,hu]at l;cases l
      .rw[fr r o e (by simp[e1,e2,e3])]at l;cases l
  have F:=fr.new l (.lst ((Xt j.length).map λi=>sgnM ((if A.gives x=true/\i=A.ws.length%2^A.k then x.getD 0 else(j.getD i (0,0,0)).1),(j.getD i (0,0,0)).1,m)));have hpl2:(Xt j.length).map (λi=>sgnM ((if A.gives x=true/\i=A.ws.length%2^A.k then x.getD 0 else(j.getD i (0,0,0)).1),(j.getD i (0,0,0)).1,m))=(YM A m x j).map sgnM:=by
   unfold YM;rw[Yi];rfl
  rw[hpl2]at F ⊢;have hf2:updM M1 r (.lst ((YM A m x j).map sgnM)) f=some (XW p g u):=by rw[Xc (neM N l)];exact N
  have hg2:updM M1 r (.lst ((YM A m x j).map sgnM)) g=some (Xl (2^(A.k+1)) n (Xi A.k A.ws.length,Xi A.k A.gp,A.gm) (A.gx.map (Xi A.k))):=by rw[Xc (neM L l)];exact L
  have hu2:updM M1 r (.lst ((YM A m x j).map sgnM)) u=M u:=by rw[Xc (neM (Y.trans hu) l)];exact Y
  have hd2:updM M1 r (.lst ((YM A m x j).map sgnM)) r=some (.lst ((YM A m x j).map sgnM)):=X9;generalize updM M1 r _=M2 at*
  simp![hf2,XW,putM]
  have fr3:=F.upd (p:=f) (by simp) (XW r g u)
  have X:updM M2 f (XW r g u) f=some (XW r g u):=X9;have Z:updM M2 f (XW r g u) g=some (Xl (2^(A.k+1)) n (Xi A.k A.ws.length,Xi A.k A.gp,A.gm) (A.gx.map (Xi A.k))):=by rw[Xc gf];exact hg2
  have I:updM M2 f (XW r g u) u=M u:=by rw[Xc uf];exact hu2
  have H:updM M2 f (XW r g u) r=some (.lst ((YM A m x j).map sgnM)):=by rw[Xc (YV hd2 hf2 (by intro z;cases z))];exact hd2
  rw[XW]at fr3 X Z I H;generalize updM M2 f _=M3 at*;delta LW;rw[hu]at I
  simp![X,Z,I,Xl,valM]
  rw[eg]at Z;refine⟨g,2^(A.k+1),n,(Xi A.k A.ws.length,Xi A.k A.gp,A.gm),A.gx.dropLast.map (Xi A.k),Xi A.k (XH A.gx),m,c,(Xi A.k A.tn,Xi A.k A.tp,A.tm),rfl,Z,?_,Zl _,?_⟩
  .have:=ok.gl;rw[Xd,Ws];lia
  intro d hd;have ed:d=Xi A.k (A.gSamp c):=by
   rw[<-hd];exact S3 ok.k4 ok.t1 _ _ c
  simp![ed]
  have fr4:=fr3.upd (p:=g) (by simp) (Xl (2^(A.k+1)) n (gray (n%2^(A.k+1)),Xi A.k A.ws.length,m) (d::A.gx.dropLast.map (Xi A.k)))
  rw[ed]at fr4;refine q r _ md2 fr4 ⟨ok.giver h2,?_,⟨YM A m x j,?_,_hF hpl⟩,?_,?_,J.ne⟩
  .rw[Xc gf.symm];exact X
  .rw[Xc (YV H Z (by intro z;unfold Xl at z;cases z))];exact H
  .rw[X9];show _=some (Xl (2^(A.k+1)) (A.giver m c x).ws.length (Xi A.k (A.giver m c x).ws.length,Xi A.k A.ws.length,m) ((A.gSamp c::A.gx.dropLast).map (Xi A.k)));rw[<-hn];rfl
  .rw[Xc J.ne.symm];exact I
 show wSs _ _ _ [some (.ref f),some (.int m),some (.int c),some (wM x),none,none] M;delta Fl Mb;simp!;refine _q j sgnM (λs=>.int s.1) ?_ ?_ hΦ λD O=>?_
 .simp![hf,hp,XW,valM]
  exact⟨rfl,by lia,hp⟩
 .intro s hs M' same;simp only[sCm,Xx,Yc,Yn,Yo,Yg,Y7];simp!
 have v:=(FrM.refl M [f,g,u]).new O (.lst (j.map λs=>MV.int s.1));have B:updM M D (.lst (j.map λs=>MV.int s.1)) f=some (XW p g u):=by rw[Xc (neM hf O)];exact hf
 have b:updM M D (.lst (j.map λs=>MV.int s.1)) p=some (.lst (j.map sgnM)):=by rw[Xc (neM hp O)];exact hp
 have R:updM M D (.lst (j.map λs=>MV.int s.1)) g=some (Xl (2^(A.k+1)) A.ws.length (Xi A.k A.ws.length,Xi A.k A.gp,A.gm) (A.gx.map (Xi A.k))):=by rw[Xc (neM hg O)];exact hg
 have hu0:updM M D (.lst (j.map λs=>MV.int s.1)) u=M u:=by rw[Xc (neM hu O)]
 have U:updM M D (.lst (j.map λs=>MV.int s.1)) D=some (.lst (j.map λs=>MV.int s.1)):=X9;generalize updM M D _=M0 at*;have no:¬A.gives x=true->j.map (λs=>MV.int s.1)=(Xt j.length).map λi=>MV.int ((if A.gives x=true/\i=A.ws.length%2^A.k then x.getD 0 else(j.getD i (0,0,0)).1:Nat):Int):=λz=>by
  refine Ca (by simp) λi h1 h2=>?_
  have E:i<j.length:=by simpa using h1
  simp[z,E]
 delta LZ;cases x with
 |none=>
  have z:¬A.gives none=true:=by simp[Ab.gives]
  have z':A.gives none=false:=by simpa using z
  simp![wM]
  delta Fk
  simp![true_and]
  rw[no z]at U;have S:=W M0 D A.ws.length v B b hu0 R (by unfold Ab.giver;rw[if_neg z]) U
  rw[z',wM]at S;exact S
 |some y=>
  have jZ:=R;rw[eg]at jZ
  simp![wM,B,R,XW,Xl,valM]
  refine⟨g,_,_,_,_,_,rfl,jZ,gs.1,Zl _,?_⟩
  simp![U]
  rw[gs.2,Xd,pll];have er:decide ((((A.ws.length:Int) - ((XH A.gx%2^(A.k+1):Nat):Int))%((2^(A.k+1):Nat):Int)<((2^A.k:Nat):Int)))=A.gives (some y):=by
   unfold Ab.gives;simp only[Option.isSome_some,Cq];exact decide_eq_decide.mpr (_kR ok)
  rw[er];delta Fk;cases z:A.gives (some y)with
  |false=>
   simp![true_and]
   rw[no (by rw[z];exact XD)]at U
   have S:=W M0 D A.ws.length v B b hu0 R (by unfold Ab.giver;rw[if_neg (by rw[z];exact XD)]) U
   rw[z,wM]at S;exact S
  |true=>
   simp![true_and]
   delta LY
   simp![wM,B,R,U,XW,Xl,valM,Xd]
   rw[pll,Hh];refine⟨by lia,A.ws.length%2^A.k,_o4 (VB _ kpos),?_⟩
   have fr1:FrM M (updM M0 D (.lst ((j.map λs=>MV.int s.1).set (A.ws.length%2^A.k) (.int y)))) [f,g,u]:=λa o e n=>by
    rw[Xc (neM e O)];exact v a o e n
   have eset:(j.map λs=>MV.int s.1).set (A.ws.length%2^A.k) (.int y)=(Xt j.length).map λi=>MV.int ((if A.gives (some y)=true/\i=A.ws.length%2^A.k then(some y).getD 0 else(j.getD i (0,0,0)).1:Nat):Int):=by
    refine Ca (by simp) λi h1 h2=>?_
    have E:i<j.length:=by simpa using h1
    rw[DZ];by_cases e:A.ws.length%2^A.k=i
    .subst e;rw[if_pos rfl];simp[z]
    .rw[if_neg e];have e2:¬(A.gives (some y)=true/\i=A.ws.length%2^A.k):=λw=>e w.2.symm;simp[e2,E]
   rw[eset]at fr1 ⊢;have N:updM M0 D (.lst ((Xt j.length).map λi=>MV.int ((if A.gives (some y)=true/\i=A.ws.length%2^A.k then(some y).getD 0 else(j.getD i (0,0,0)).1:Nat):Int))) f=some (XW p g u):=by rw[Xc (neM hf O)];exact B
   have C:updM M0 D (.lst ((Xt j.length).map λi=>MV.int ((if A.gives (some y)=true/\i=A.ws.length%2^A.k then(some y).getD 0 else(j.getD i (0,0,0)).1:Nat):Int))) p=some (.lst (j.map sgnM)):=by rw[Xc (neM hp O)];exact b
   have L:updM M0 D (.lst ((Xt j.length).map λi=>MV.int ((if A.gives (some y)=true/\i=A.ws.length%2^A.k then(some y).getD 0 else(j.getD i (0,0,0)).1:Nat):Int))) g=some (Xl (2^(A.k+1)) A.ws.length (Xi A.k A.ws.length,Xi A.k A.gp,A.gm) (A.gx.map (Xi A.k))):=by rw[Xc (neM hg O)];exact R
   have Y:updM M0 D (.lst ((Xt j.length).map λi=>MV.int ((if A.gives (some y)=true/\i=A.ws.length%2^A.k then(some y).getD 0 else(j.getD i (0,0,0)).1:Nat):Int))) u=M u:=by rw[Xc (neM hu O)];exact hu0
   have hd1:updM M0 D (.lst ((Xt j.length).map λi=>MV.int ((if A.gives (some y)=true/\i=A.ws.length%2^A.k then(some y).getD 0 else(j.getD i (0,0,0)).1:Nat):Int))) D=some (.lst ((Xt j.length).map λi=>MV.int ((if A.gives (some y)=true/\i=A.ws.length%2^A.k then(some y).getD 0 else(j.getD i (0,0,0)).1:Nat):Int))):=X9;generalize updM M0 D _=M1 at*;delta LX
   simp![N,L,XW,Xl,valM]
   refine⟨g,_,_,_,_,rfl,L,?_⟩;have F:=fr1.upd (p:=g) (by simp) (Xl (2^(A.k+1)) (A.ws.length+1) (Xi A.k A.ws.length,Xi A.k A.gp,A.gm) (A.gx.map (Xi A.k)))
   have S:=W _ D (A.ws.length+1) F (by rw[Xc gf.symm];exact N) (by rw[Xc (YV C L (by intro z;unfold Xl at z;cases z))];exact C) (by rw[Xc J.ne.symm];exact Y) X9
    (by unfold Ab.giver;rw[if_pos z];simp) (by rw[Xc (YV hd1 L (by intro z;unfold Xl at z;cases z))];exact hd1)
   rw[z,wM]at S;exact S
noncomputable def takM(A:Ab)(x:Bool):MV:=if A.takes x=true then .int (A.ws.getD A.tn 0:Nat)else .non
abbrev Wa:SpM:=λl M Q=>∃(f p g u:Addr) (A:Ab) (m:Int) (c:Nat) (x:Bool),l=[.ref f,.int m,.int c,.bl x]/\FyAt M f p g u A/\A.gm<m/\A.tm<m/\
 ∀j,FrM M j [f,g,u]->FyAt j f p g u (A.taker m c x)->Q (.tup [takM A x,.int (Xi A.k (A.tSamp c):Nat)]) j
theorem _52:MonW Wa:=by walk_at "m"
set_option tactic.hygienic true in
theorem _86(T:Txt K mg t):FnOk P w K mg base CX0 4 t.cm t.bV ["self","moment","choice","wished"] (liSp K Wa):=by
 refine T.fi.okM _82 (_N (k:=3) (G:=Mi) (Φ:=[("sampled",Vb)]) (Ψ:=[("Side_grow",Uj),("Side_less_the_seen",Ui),("Side_ring_ahead",Vc),("Side_show_and_see",Uk)]) (Χ:=[("sampled",Vb),("Side_grow",Uj),("Side_less_the_seen",Ui),("Side_ring_ahead",Vc),("Side_show_and_see",Uk)]) rfl (_O T) (_P T) rfl (fMc ⟨RY,(fMc ⟨Hj,(fMc ⟨Hi,(fMc ⟨S4,(fMc ⟨Hk,nl0⟩)⟩)⟩)⟩)⟩) (fMc ⟨fE T.b0 (RZ T),nl0⟩) (fMc ⟨⟨_,_,rfl,_,_,_,_,(FnOk.mono (S7 T) (by decide)),T.ag,T.aj,T.bL,T.cr⟩,(fMc ⟨⟨_,_,rfl,_,_,_,_,(FnOk.mono (S6 T) (by decide)),T.ag,T.aj,T.ca,T.c7⟩,(fMc ⟨⟨_,_,rfl,_,_,_,_,(FnOk.mono (S5 T) (by decide)),T.ag,T.aj,T.bq,T.bX⟩,(fMc ⟨⟨_,_,rfl,_,_,_,_,(FnOk.mono (S8 T) (by decide)),T.ag,T.aj,T.bG,T.bD⟩,nl0⟩)⟩)⟩)⟩) nl0 (_Q T)) Fn _8k (fun vs M Q h=>?_) (fun vs M Q h=>?_)
 .obtain⟨f,p,g,u,A,m,c,x,rfl,_⟩:=h;rfl
 obtain⟨f,p,g,u,A,m,c,x,rfl,r,h1,h2,q⟩:=h;have y:=r.fe;obtain⟨B,W,N⟩:=r.pls;have S:=r.gi;have j:=r.ta;have ok:=r.ok;have X:0<2^A.k:=Zl _;have k8:2^A.k<=8:=Ck (by lia) (by have:=ok.k4;lia:A.k<=3)
 have D:B.length=2^A.k:=N.1;have H:=S9 (n:=XH A.tx) ok.k4;have E:1<=A.tx.length:=by rw[ok.tl];exact ok.gl.1
 have v:=Sa (k:=A.k) E;have gf:g≠f:=YV S y DI;have o:u≠f:=YV j y DI;have up:u≠p:=YV j W (by intro z;unfold Xl at z;cases z)
 have l:∀(M1:MH)(n:Nat)(s:Option MV),FrM M M1 [f,g,u]->M1 f=some (XW p g u)->M1 p=some (.lst (B.map sgnM))->M1 g=M g->M1 u=some (Xl (2^(A.k+1)) n (Xi A.k A.tn,Xi A.k A.tp,A.tm) (A.tx.map (Xi A.k)))->n=(A.taker m c x).tn->
   wSs ([("sampled",Vb),("Side_grow",Uj),("Side_less_the_seen",Ui),("Side_ring_ahead",Vc),("Side_show_and_see",Uk)]:List (Str×SpM)) Fm {nx:=fun _ M'=>Q .non M',rt:=Q} [some (.ref f),some (.int m),some (.int c),some (.bl x),some (takM A x),s] M1:=by
  intro M1 n s fr Y F O R hn;rw[S]at O;delta Fm
  simp![Y,R,O,XW,Xl,valM]
  rw[v]at R;refine⟨u,2^(A.k+1),n,(Xi A.k A.tn,Xi A.k A.tp,A.tm),A.tx.dropLast.map (Xi A.k),Xi A.k (XH A.tx),m,c,(Xi A.k A.ws.length,Xi A.k A.gp,A.gm),rfl,R,?_,Zl _,?_⟩
  .have:=ok.gl;have:=ok.tl;rw[Xd,Ws];lia
  intro d hd;have i:d=Xi A.k (A.tSamp c):=by
   rw[<-hd];exact S3 ok.k4 ok.g1 _ _ c
  simp![i]
  have Z:=fr.upd (p:=u) (by simp) (Xl (2^(A.k+1)) n (gray (n%2^(A.k+1)),Xi A.k A.tn,m) (d::A.tx.dropLast.map (Xi A.k)))
  rw[i]at Z;refine q _ Z ⟨ok.taker h1,?_,⟨B,?_,N⟩,?_,?_,r.ne⟩
  .rw[Xc o.symm];exact Y
  .rw[Xc up.symm];exact F
  .rw[Xc r.ne];exact O
  .rw[X9];show _=some (Xl (2^(A.k+1)) (A.taker m c x).tn (Xi A.k (A.taker m c x).tn,Xi A.k A.tn,m) ((A.tSamp c::A.tx.dropLast).map (Xi A.k)));rw[<-hn];rfl
 show wSs _ _ _ [some (.ref f),some (.int m),some (.int c),some (.bl x),none,none] M;delta Fn Mh;simp!;delta Mg;cases x with
 |false=>
  have z:¬A.takes false=true:=by simp[Ab.takes]
  simp![true_and]
  have L:=l M A.tn none (FrM.refl _ _) y W rfl j (by unfold Ab.taker;rw[if_neg z])
  rw[takM,if_neg z]at L;exact L
 |true=>
  have b:=j;rw[v]at b
  simp![y,j,XW,Xl,valM]
  refine⟨u,_,_,_,_,_,rfl,b,H.1,Zl _,?_⟩
  simp![true_and]
  rw[H.2];refine Y3 (λU=>?_) (λU=>?_)
  .have a:XH A.tx≠A.tn:=λe=>U ((RU ok).mpr e);have z:A.takes true=true:=by unfold Ab.takes;simpa using a
   obtain⟨hj,C,ha,hb⟩:=_in ok N a;delta Mf
   simp![y,j,W,XW,Xl,valM,Xd]
   rw[D,Hh];have a1:atI (B.map sgnM) ((A.tn%2^A.k:Nat):Int)=some (sgnM (A.ws[A.tn],C,A.gm)):=by
    refine Yr ?_;rw[Xq,ha];rfl
   refine⟨by lia,_,a1,?_⟩
   delta Me
   simp![y,j,XW,Xl,valM]
   refine⟨u,_,_,_,_,rfl,j,?_⟩
   simp![true_and]
   refine⟨A.ws[A.tn],C,A.gm,A.tm,c,rfl,?_⟩;have ew:(if A.tm<A.gm then seen C A.ws[A.tn] c else A.ws[A.tn])=A.ws[A.tn]:=by
    split
    .rename_i w;rw[hb w,_iA]
    .rfl
   rw[ew];delta Md
   simp![y,j,XW,Xl,valM]
   refine⟨u,_,_,_,_,rfl,j,?_⟩;have I:=(FrM.refl M [f,g,u]).upd (p:=u) (by simp) (Xl (2^(A.k+1)) (A.tn+1) (Xi A.k A.tn,Xi A.k A.tp,A.tm) (A.tx.map (Xi A.k)))
   have L:=l _ (A.tn+1) (some (sgnM (A.ws[A.tn],C,A.gm))) I (by rw[Xc o.symm];exact y) (by rw[Xc up.symm];exact W) (by rw[Xc r.ne]) X9 (by unfold Ab.taker;rw[if_pos z])
   have J:A.ws.getD A.tn 0=A.ws[A.tn]:=by rw[Yf,X8 hj];rfl
   rw[takM,if_pos z,J]at L;exact L
  .have e:XH A.tx=A.tn:=(RU ok).mp (Decidable.not_not.mp U);have z:¬A.takes true=true:=by unfold Ab.takes;simpa using e
   have L:=l M A.tn none (FrM.refl _ _) y W rfl j (by unfold Ab.taker;rw[if_neg z])
   rw[takM,if_neg z]at L;exact L
theorem FyAt.same{M M':MH}{f p g u:Addr}{A:Ab}(h:FyAt M f p g u A)(s:∀a o,M a=some o->(∀xs,o=.lst xs->a=p)->M' a=some o):FyAt M' f p g u A:=by
 obtain⟨l,y,j⟩:=h.pls;exact⟨h.ok,s _ _ h.fe (λxs z=>by cases z),⟨l,s _ _ y (λxs _=>rfl),j⟩,s _ _ h.gi (λxs z=>by cases z),s _ _ h.ta (λxs z=>by cases z),h.ne⟩
theorem FyAt.keep{M M':MH}{f p g u:Addr}{A:Ab}(h:FyAt M f p g u A)(s:SameM M M'):FyAt M' f p g u A:=h.same λa o e _=>s a o e
theorem FyAt.put{M:MH}{f p g u q:Addr}{A:Ab}{xs:List MV}(h:FyAt M f p g u A)(j:M q=some (.lst xs))(n:q≠p)(ys:List MV):FyAt (updM M q (.lst ys)) f p g u A:=h.same λa o e z=>by
 by_cases w:a=q
 .subst w;rw[j]at e;cases e;exact absurd (z xs rfl) n
 .rw[Xc w];exact e
theorem Sc{M:MH}{f p g u q:Addr}{A:Ab}{xs:List MV}(h:FyAt M f p g u A)(j:M q=some (.lst xs)):q∉ [f,g,u]:=by
 intro z;rcases Xk.mp z with rfl|z
 .rw[h.fe]at j;cases j
 rcases Xk.mp z with rfl|z
 .rw[h.gi]at j;cases j
 rcases Xk.mp z with rfl|z
 .rw[h.ta]at j;cases j
 .cases z
noncomputable abbrev Ve:SpM:=λl M Q=>∃(j:List Int) (k:Nat),l=[.frl (j.map .int),.int k]/\Q (.int (j.getD k 0)) M
theorem Hl:MonW Ve:=by walk_at "m"
theorem Sd(T:Txt K mg t):FnOk P w K mg base CX0 1 t.fj t.cJ ["script","k"] (liSp K Ve):=by
 refine T.aX.F.okM _be (fC (G:=PD) (Φ:=[]) T rfl nl0 nl0) Gk _c5 (λu M Q h=>?_) (λu M Q h=>?_)
 .obtain⟨j,k,rfl,_⟩:=h;rfl
 obtain⟨j,k,rfl,q⟩:=h;show wSs _ _ _ [some (.frl (j.map .int)),some (.int k)] M;delta Gk PC;simp!;refine Y3 (λc=>?_) (λc=>?_)
 .rw[Xd]at c;have l:k<j.length:=by lia
  delta PB;simp!;have e:j.getD k 0=j[k]:=by simp[Yf,l]
  rw[e]at q;exact⟨_,Yr (by rw[Xq,X8 l];rfl),q⟩
 .rw[Xd]at c;have e:j.getD k 0=0:=by simp[Yf,HE.mpr (show j.length<=k by lia)]
  rw[e]at q;delta Pz;simp!;exact q
noncomputable def alph:Str:="abcdefghijklmnopqrstuvwxyz"
theorem _lP:alph.cps.toList.length=26:=by decide+kernel
theorem _kl:alph.length<=16777216:=by decide+kernel
theorem Hm{i:Int}(l:0<=i)(h1:i<26):∃c,atI alph.cps.toList i=some c:=by
 have u:i.toNat<alph.cps.toList.length:=by rw[_lP];lia
 refine⟨alph.cps.toList[i.toNat],?_⟩;have:=Yr (xs:=alph.cps.toList) (j:=i.toNat) (X8 u)
 rwa [U6 l]at this
theorem Se(c:Nat):(⟨#[c]⟩:Str).length=1:=rfl
theorem _oS(a b:Str):(a++b).length=a.length+b.length:=by
 show(a.cps++b.cps).size=_;rw[Array.size_append]
 rfl
def ltr(i:Int):Str:=match atI alph.cps.toList i with
 |some c=>⟨#[c]⟩
 |none=>U8
def YN(n k:Int):Str:=if n%3=2 then Txt.mul (ltr (n/192%26)) (1+(3*k+n/192)%7)++Txt.mul (ltr ((n/192%26+1+n/4992%25)%26)) (k/7)
 else Txt.mul (ltr (n/192%26)) (n/24%8%(1+n/3%8))++ltr ((n/4992+7*k)%26)++Txt.mul (ltr (n/192%26)) (1+n/3%8 - 1 - n/24%8%(1+n/3%8))
abbrev BM:SpM:=λj M Q=>∃(n k:Int),j=[.int n,.int k]/\0<=k/\k<=50/\Q (.str (YN n k)) M
theorem Sf:MonW BM:=by walk_at "m"
theorem Sg(T:Txt K mg t):FnOk P w K mg base CX0 1 t.iQ t.fF ["number","k"] (liSp K BM):=by
 refine T.b7.F.okM _ex (fC (G:=PR) (Φ:=[]) T rfl nl0 nl0) Gm _fr (λL M Q h=>?_) (λL M Q h=>?_)
 .obtain⟨n,k,rfl,_⟩:=h;rfl
 obtain⟨n,k,rfl,N,O,q⟩:=h;show wSs _ _ _ [some (.int n),some (.int k),none,none,none,none,none,none] M;delta Gm PQ;simp!;delta PP;simp!;delta PN;simp!;have y:=_kl;obtain⟨u,g⟩:=Hm (i:=n/192%26) (by lia) (by lia)
 have R:ltr (n/192%26)=⟨#[u]⟩:=by unfold ltr;rw[g]
 unfold YN at q;rw[R]at q;refine Y3 (λc=>?_) (λc=>?_)
 .rw[if_pos c]at q;delta PM;simp!;obtain⟨d,f⟩:=Hm (i:=(n/192%26+1+n/4992%25)%26) (by lia) (by lia)
  have U:ltr ((n/192%26+1+n/4992%25)%26)=⟨#[d]⟩:=by unfold ltr;rw[f]
  rw[U]at q;refine⟨y,d,f,?_⟩;delta PL;simp!;refine⟨y,u,g,?_⟩;have W:=CW (z:=⟨#[u]⟩) (i:=1+(3*k+n/192)%7) 8 (by lia) (Xe 1)
  have Y:=CW (z:=⟨#[d]⟩) (i:=k/7) 8 (by lia) (Xe 1)
  simp only[Se];exact⟨by decide,by lia,by lia,by decide,by lia,by lia,by lia,q⟩
 .rw[if_neg c]at q;obtain⟨lo,m⟩:∃lo:Int,1+n/3%8=lo:=⟨_,rfl⟩;obtain⟨r,p⟩:=Hm (i:=(n/4992+7*k)%26) (by lia) (by lia)
  have Z:ltr ((n/4992+7*k)%26)=⟨#[r]⟩:=by unfold ltr;rw[p]
  rw[Z,m]at q;delta PK;simp!;rw[m];delta PJ;simp!;have e:(0:Int)<lo:=by lia
  refine⟨e,?_⟩;obtain⟨j,l⟩:∃j:Int,n/24%8%lo=j:=⟨_,rfl⟩;have A:0<=j:=by rw[<-l];exact ZG _ (by lia)
  have B:j<lo:=by rw[<-l];exact U7 _ e
  rw[l]at q;rw[l];delta PH;simp!;refine⟨y,r,p,?_⟩;delta PF;simp!;have W:=CW (z:=⟨#[u]⟩) (i:=j) 8 (by lia) (Xe 1)
  have Y:=CW (z:=⟨#[u]⟩) (i:=lo - 1 - j) 8 (by lia) (Xe 1)
  refine⟨y,u,g,?_⟩;simp only[Se,_oS];exact⟨by decide,by lia,by lia,by lia,y,u,g,by decide,by lia,by lia,by lia,q⟩
theorem Sh(c:Nat):∀(k:Nat)(j:Array Nat),((Xj k #[c]).foldl (·++·) j).toList=j.toList++Xj k c
 |0,j=>by simp
 |k+1,j=>by
  rw[Z5,Vv,Sh c k,Array.toList_append,Vr,Z5];rfl
theorem mul_one(c:Nat)(i:Int):(Txt.mul (⟨#[c]⟩:Str) i).cps.toList=Xj i.toNat c:=by
 unfold Txt.mul;by_cases h:i<1
 .rw[if_pos h];have:i.toNat=0:=by lia
  rw[this];rfl
 rw[if_neg h];by_cases h2:(i==1||(⟨#[c]⟩:Str).length==0)=true
 .rw[if_pos h2];rcases(Eb _ _).mp h2 with e|e
  .have:i=1:=by simpa using e
   subst this;rfl
  .have:(⟨#[c]⟩:Str).length=0:=by simpa using e
   cases this
 .rw[if_neg h2];show((Xj i.toNat #[c]).foldl (·++·) #[]).toList=_;rw[Sh];rfl
theorem _oT:alph.cps.toList=(Xt 26).map (97+·):=by decide+kernel
theorem DJ{i:Int}(l:0<=i)(h1:i<26):ltr i=⟨#[97+i.toNat]⟩:=by
 unfold ltr;have u:i.toNat<26:=by lia
 have e:atI alph.cps.toList i=some (97+i.toNat):=by
  have:=Yr (xs:=alph.cps.toList) (j:=i.toNat) (v:=97+i.toNat) (by rw[_oT,Xq,Wt u];rfl)
  rwa [U6 l]at this
 rw[e]
theorem Hn(a b:Str):(a++b).cps.toList=a.cps.toList++b.cps.toList:=by
 show(a.cps++b.cps).toList=_;rw[Array.toList_append]
theorem Ho{n:Int}(c:n%3=2){k:Int}(u:0<=k)(h1:k<=10):∃j l:Nat,j≠l/\97<=j/\j<=122/\97<=l/\l<=122/\j=97+(n/192%26).toNat/\l=97+((n/192%26+1+n/4992%25)%26).toNat/\(YN n k).cps.toList=Xj (1+(3*k+n/192)%7).toNat j++Xj (k/7).toNat l:=by
 refine⟨_,_,?_,?_,?_,?_,?_,rfl,rfl,?_⟩
 .lia
 .lia
 .lia
 .lia
 .lia
 .unfold YN;rw[if_pos c,Hn,DJ (by lia) (by lia),DJ (by lia) (by lia),mul_one,mul_one]
theorem Hq{n:Int}(c:¬n%3=2)(k:Int):∃j lo l:Nat,j<lo/\lo<=8/\97<=l/\l<=122/\j=(n/24%8%(1+n/3%8)).toNat/\
  (YN n k).cps.toList=Xj j l++(97+((n/4992+7*k)%26).toNat)::Xj (lo - 1 - j) l:=by
 have u:0<=n/24%8%(1+n/3%8):=ZG _ (by lia)
 have y:n/24%8%(1+n/3%8)<1+n/3%8:=U7 _ (by lia)
 refine⟨(n/24%8%(1+n/3%8)).toNat,(1+n/3%8).toNat,97+(n/192%26).toNat,by lia,by lia,by lia,by lia,rfl,?_⟩
 unfold YN;rw[if_neg c,Hn,Hn,DJ (by lia) (by lia),DJ (by lia) (by lia),mul_one,mul_one]
 have e:(1+n/3%8 - 1 - n/24%8%(1+n/3%8)).toNat=(1+n/3%8).toNat - 1 - (n/24%8%(1+n/3%8)).toNat:=by lia
 rw[e,Vr];rfl
theorem DK{n k:Int}(m:0<=k)(h1:k<=10):Zt (YN n k):=by
 have l:∀z:Str,z.length=z.cps.toList.length:=λz=>Yq.symm;by_cases c:n%3=2
 .obtain⟨g,r,p,u,y,d,f,_,_,e⟩:=Ho c m h1;refine⟨?_,?_,?_⟩
  .rw[l,e,Yt,Z4,Z4];lia
  .rw[l,e,Yt,Z4,Z4];lia
  .intro x j;rw[e]at j;rcases Yh.mp j with j|j
   .rw[UR j];exact⟨u,y⟩
   .rw[UR j];exact⟨d,f⟩
 .obtain⟨q,lo,g,L,N,u,y,_,e⟩:=Hq c k;refine⟨?_,?_,?_⟩
  .rw[l,e,Yt,YD,Z4,Z4];lia
  .rw[l,e,Yt,YD,Z4,Z4];lia
  .intro x j;rw[e]at j;rcases Yh.mp j with j|j
   .rw[UR j];exact⟨u,y⟩
   .rcases Xk.mp j with j|j
    .rw[j];lia
    .rw[UR j];exact⟨u,y⟩
theorem BN{n k k':Int}(r:0<=k)(h1:k<=10)(j:0<=k')(u:k'<=10)(h:YN n k=YN n k'):k=k':=by
 by_cases c:n%3=2
 .obtain⟨L,N,y,_,_,_,_,O,R,e⟩:=Ho c r h1;obtain⟨T,U,_,_,_,_,_,z,m,f⟩:=Ho c j u;rw[<-O]at z;rw[<-R]at m;subst z m;rw[<-h,e]at f;have g:=congrArg (List.count T) f;have d:=congrArg (List.count U) f;simp only[List.count_append,List.count_replicate,beq_iff_eq,if_true,y,XT y,if_false,Nat.add_zero,Nat.zero_add]at g d
  try simp at g d
  omega
 .obtain⟨W,lo,L,A,B,C,D,Y,e⟩:=Hq c k;obtain⟨at2,Z,N,_,_,_,_,q,f⟩:=Hq c k';rw[<-Y]at q;subst q;rw[<-h,e]at f;have p:=congrArg (λl=>l[at2]?) f
  try simp only at p
  rw[Zf (by rw[Z4];exact Xe _),Zf (by rw[Z4];exact Xe _),Z4,Nat.sub_self]at p
  have p:97+((n/4992+7*k)%26).toNat=97+((n/4992+7*k')%26).toNat:=by simpa using p
  omega
abbrev Wb:SpM:=λl M Q=>∃(n:Int) (a:Addr) (x y:Str),l=[.int n,.ref a]/\M a=some (.lst [.str x,.str y])/\0<=n/\n<=10^8/\∀(U:Tm)j,SameM M j->TmIn [x,y] U->Q U.mv j
theorem Si:MonW Wb:=by walk_at "m"
theorem _eQ(T:Txt K mg t):FnOk P w K mg base CX0 1 t.i8 t.fI ["number","names"] (liSp K Wb):=by
 refine T.bC.F.okM _ev (fC (G:=Q4) (Φ:=[]) T rfl nl0 nl0) Gn _fp (λY M Q h=>?_) (λY M Q h=>?_)
 .obtain⟨n,a,x,y,rfl,_⟩:=h;rfl
 obtain⟨n,a,x,y,rfl,R,E,F,q⟩:=h;show wSs _ _ _ [some (.int n),some (.ref a),none,none] M;obtain⟨z,U,Z⟩:∃z,(z=x\/z=y)/\atI [MV.str x,.str y] (n/8%2)=some (.str z):=by
  rcases(show n/8%2=0\/n/8%2=1 by lia)with e|e<;>rw[e]
  .exact⟨x,.inl rfl,at0⟩
  .exact⟨y,.inr rfl,at1⟩
 obtain⟨A,c,L⟩:∃z,(z=x\/z=y)/\atI [MV.str x,.str y] (n/224%2)=some (.str z):=by
  rcases(show n/224%2=0\/n/224%2=1 by lia)with e|e<;>rw[e]
  .exact⟨x,.inl rfl,at0⟩
  .exact⟨y,.inr rfl,at1⟩
 delta Gn Q3
 simp![R,Z]
 delta Q2;simp!;intro p B;obtain⟨r,C⟩:∃r:Int,atI [MV.int (n/16%7 - 3),MV.int (n/16*1000000007%100000000000000000000)] (n/112%2)=some (.int r):=by
  rcases(show n/112%2=0\/n/112%2=1 by lia)with e|e<;>rw[e]
  .exact⟨_,at0⟩
  .exact⟨_,at1⟩
 refine⟨_,C,?_⟩;have g:=SameM.new B (.lst [MV.int (n/16%7 - 3),MV.int (n/16*1000000007%100000000000000000000)]);generalize updM M p _=M1 at*;have N:=g _ _ R;have O:∀u,u∈ [z]->u∈ [x,y]:=λu j=>by
  rw[Y6.mp j];rcases U with rfl|rfl<;>simp
 delta Q1;simp!;refine Y3 (λ_=>?_) (λI=>?_)
 .delta Q0;simp!;intro W l;have d:=g.trans (SameM.new l (.lst [.tup [.str "var",.str z],.tup [.str "num",.int r]]));rcases(show n%2=0\/n%2=1 by lia)with e|e<;>rw[e]
  .exact⟨_,at0,q (.var z) _ d ⟨by simp[Tm.depth],by simp[Tm.size],λu j=>O u j⟩⟩
  .exact⟨_,at1,q (.num r) _ d ⟨by simp[Tm.depth],by simp[Tm.size],λu j=>by simp[Tm.reads]at j⟩⟩
 delta PZ;simp!;refine Y3 (λD=>?_) (λD=>?_)
 .delta PY;simp!;intro W l;have d:=g.trans (SameM.new l (.lst [.str "plus",.str "minus",.str "times"]));have m:∀f:Form,Q (.tup [.str f.str,.tup [.str "var",.str z],.tup [.str "num",.int r]]) (updM M1 W (.lst [.str "plus",.str "minus",.str "times"])):=fun f=>
   q (.two f (.var z) (.num r)) _ d ⟨by simp[Tm.depth],by simp[Tm.size],λu j=>O u (by simpa [Tm.reads]using j)⟩
  rcases(show n%8 - 2=0\/n%8 - 2=1\/n%8 - 2=2 by lia)with e|e|e<;>rw[e]
  .exact⟨_,at0,m .plus⟩
  .exact⟨_,at1,m .minus⟩
  .exact⟨_,at2,m .times⟩
 delta PX;simp!;refine Y3 (λ_=>?_) (λ_=>?_)
 .delta PV;simp!;exact q (.pick (.two .less (.var z) (.num r)) (.num r) (.var z)) _ g ⟨by simp[Tm.depth],by simp[Tm.size],λu j=>O u (by simpa [Tm.reads]using j)⟩
 .delta PU
  simp![N,L]
  refine q (.two .plus (.var z) (.var A)) _ g ⟨by simp[Tm.depth],by simp[Tm.size],λu j=>?_⟩
  simp only[Tm.reads,Yg,Y7,Xk,XJ,or_false]at j;rcases j with rfl|rfl
  .rcases U with rfl|rfl<;>simp
  .rcases c with rfl|rfl<;>simp
theorem Sj{Φ:List (Str×SpM)}{own:List Str}{fr:List Nat}{u:ISr}{tg:ITg}{l elt:IE}{r:Sm}{M:MH}{Q:QM}{p:Type}(xs:List p)(f g:p->MV)(b:p->Bool)
  (Y:wSr Φ u r M λS M1=>S.items=xs.map f/\xs.length<sizeLine/\S.okF M1/\M1=M)
  (Z:∀x∈xs,∀M',SameM M M'->wTg tg (f x) (sCm own fr r) λz=>wE Φ l z M' λv M2=>v=.bl (b x)/\M2=M'/\(b x=true->wE Φ elt z M' λy M2=>y=g x/\M2=M'))
  (m:∀(j:Nat)f sp,Φ[j]?=some (f,sp)->MonW sp)(q:∀D,M D=none->Q (.ref D) (updM M D (.lst ((xs.filter b).map g)))):wE Φ (.comp own fr u tg (.some l) elt) r M Q:=by
 rw[Dd];refine mon_sr m u (λS M1 ⟨c,A,O,B⟩=>?_) Y;subst B;have R:S.len=xs.length:=by rw[<-S.items_len,c,Xd]
 refine⟨by rw[R];exact A,λD e=>⟨λi d M2=>M2=updM M1 D (.lst d)/\d=((xs.take i).filter b).map g,⟨rfl,by simp⟩,?_,?_,?_⟩⟩
 .rintro i d M2 ⟨rfl,rfl⟩;refine⟨X9,?_,?_⟩
  .rw[Xd];have c:=List.length_filter_le b (xs.take i);rw[Z6]at c;lia
  cases S with
  |tup _=>trivial
  |rng _ _=>trivial
  |str _=>trivial
  |lst a E=>exact SameM.new e _ _ _ O
 .rintro i x d M2 T ⟨rfl,rfl⟩;rw[c]at T;obtain⟨U,rfl⟩:=YZ T;refine V7 tg (λz h=>?_) (Z xs[i] (XU U) _ (SameM.new e (.lst (((xs.take i).filter b).map g))));rw[wI];refine Xa m l (λv M2 ⟨L,N,C⟩=>?_) h;subst L N;have W:xs.take (i+1)=xs.take i++[xs[i]]:=by rw[U1,X8 U];rfl
  refine⟨b xs[i],rfl,?_⟩;by_cases hb:b xs[i]=true
  .rw[if_pos hb];refine Xa m elt (λy M2 ⟨L,N⟩=>?_) (C hb);subst L N;refine⟨X9,YF,?_⟩;rw[W,C4,Y0,List.filter_cons_of_pos hb]
   rfl
  .rw[if_neg hb];refine⟨rfl,?_⟩;rw[W,C4,Y0,List.filter_cons_of_neg hb];simp
 .rintro d M2 ⟨rfl,rfl⟩;rw[R,Wr (Xe _),De O];exact q D e
abbrev DL:SpM:=λl M Q=>∃(n:Int) (z:Str) (a f:Addr) (x y:Str) (F:List Fer) (m:Nat),l=[.int n,.str z,.ref a,.ref f,.int m]/\M a=some (.lst [.str x,.str y])/\M f=some (.lst (F.map Fer.mv))/\F.length<=6/\0<=n/\n<=10^8/\m<=100/\(F.map (·.name)).Nodup/\
 ∀(S:Stp)j,SameM M j->ZS (F.map (·.name)) [x,y] m S->ZT F z S->Q S.mv j
theorem _aP:MonW DL:=by walk_at "m"
theorem Sl{F:List Fer}(l:(F.map (·.name)).Nodup){u v:Fer}(y:u∈F)(z:v∈F)(e:u.name=v.name):u=v:=by
 obtain⟨i,m,rfl⟩:=Y5 y;obtain⟨j,g,rfl⟩:=Y5 z;have:i=j:=by
  refine(C7 (xs:=F.map (·.name)) (h₀:=by simpa using m) (h₁:=by simpa using g) l).mp ?_
  rw[DY,DY];exact e
 subst this;rfl
theorem Sn{F:List Fer}{b:Fer->Bool}{i:Int}(h:F.filter b≠ []):∃v∈F,b v=true/\atI ((F.filter b).map λv=>MV.str v.name) (i%((F.filter b).length:Int))=some (.str v.name):=by
 have z:0<(F.filter b).length:=DS.mpr h;have m:=ZG i (b:=((F.filter b).length:Int)) (by lia)
 have g:=U7 i (b:=((F.filter b).length:Int)) (by lia)
 obtain⟨j,y⟩:∃j:Nat,i%((F.filter b).length:Int)=(j:Int):=⟨(i%((F.filter b).length:Int)).toNat,by lia⟩
 have l:j<(F.filter b).length:=by lia
 have u:=XU l;rw[E1]at u;refine⟨(F.filter b)[j],u.1,u.2,?_⟩;rw[y];exact Yr (by rw[Xq,X8 l];rfl)
theorem _eR(T:Txt K mg t):FnOk P w K mg base CX0 2 t.gh t.dl ["number","name","names","ferries","many"] (liSp K DL):=by
 refine T.cx.F.okM _ew (fC (G:=Qd) (Φ:=[("_law_term",Wb)]) T rfl (fMc ⟨Si,nl0⟩) (fMc ⟨fE T.bC (_eQ T),nl0⟩)) Gq _fq (fun vs M Q h=>?_) (fun vs M Q h=>?_)
 .obtain⟨n,z,a,f,x,y,F,m,rfl,_⟩:=h;rfl
 obtain⟨n,z,a,f,x,y,F,m,rfl,ha,H,h6,n0,n1,hm,nd,q⟩:=h;show wSs _ _ _ [some (.int n),some (.str z),some (.ref a),some (.ref f),some (.int m),none,none,none] M;have R:=(UH (Φ:=[("_law_term",Wb)]) (fMc ⟨Si,nl0⟩));delta Gq Qc;simp!;refine Sj F Fer.mv (λv=>.str v.name) (λv=>decide (v.taker=z)) ?_ ?_ R λW o=>?_
 .simp![H]
  exact⟨rfl,by lia,H⟩
 .intro v r Y s;simp only[sCm,Xx,Yc,Yn,Yo,Yg,Y7]
  simp![Fer.mv]
  try simp
 have s1:=SameM.new o (.lst ((F.filter λv=>decide (v.taker=z)).map λv=>MV.str v.name));have d1:updM M W (.lst ((F.filter λv=>decide (v.taker=z)).map λv=>MV.str v.name)) W=some (.lst ((F.filter λv=>decide (v.taker=z)).map λv=>MV.str v.name)):=X9;generalize updM M W _=M1 at*;have Z:=s1 _ _ H;delta Qb;simp!;refine Sj F Fer.mv (λv=>.str v.name) (λv=>decide (v.giver=z)) ?_ ?_ R λA b=>?_
 .simp![Z]
  exact⟨rfl,by lia,Z⟩
 .intro v r Y s;simp only[sCm,Xx,Yc,Yn,Yo,Yg,Y7]
  simp![Fer.mv]
  try simp
 have s2:=SameM.new b (.lst ((F.filter λv=>decide (v.giver=z)).map λv=>MV.str v.name));have d2:updM M1 A (.lst ((F.filter λv=>decide (v.giver=z)).map λv=>MV.str v.name)) A=some (.lst ((F.filter λv=>decide (v.giver=z)).map λv=>MV.str v.name)):=X9;generalize updM M1 A _=M2 at*;have d12:=s2 _ _ d1;have S:=s1.trans s2;have L:=S _ _ ha;delta Qa;simp!;have d:∀l,SameM M2 l->wSs ([("_law_term",Wb)]:List (Str×SpM)) Go {nx:=fun x Y=>Q MV.non Y,rt:=Q} [some (.int n),some (.str z),some (.ref a),some (.ref f),some (.int m),some (.ref W),some (.ref A),some (.int (n/128))] l:=by
  intro l B;have N:=B _ _ L;have st:=S.trans B;delta Go;simp!;refine Y3 (λ_=>?_) (λ_=>?_)
  .delta Q6;simp!;refine⟨n/128,a,x,y,rfl,N,by lia,by lia,λU c j C=>?_⟩
   simp!;have O:(0:Int)<(m:Int)+1:=by lia
   exact⟨O,q (.jump U (n/8%(m+1))) c (st.trans j) ⟨C,ZG _ (by lia),by have:=U7 (n/8) O;lia⟩ trivial⟩
  .delta Q5;obtain⟨u,D,X⟩:∃u,u∈ [x,y]/\atI [MV.str x,.str y] (n/8%2)=some (.str u):=by
    rcases(show n/8%2=0\/n/8%2=1 by lia)with e|e<;>rw[e]
    .exact⟨x,by simp,at0⟩
    .exact⟨y,by simp,at1⟩
   simp![N,X]
   refine⟨n/128,a,x,y,rfl,N,by lia,by lia,λU c j C=>?_⟩
   try simp!
   exact q (.put u U) c (st.trans j) ⟨D,C⟩ trivial
 have E:∀l,SameM M2 l->wSs ([("_law_term",Wb)]:List (Str×SpM)) Gp {nx:=fun x Y=>Q MV.non Y,rt:=Q} [some (.int n),some (.str z),some (.ref a),some (.ref f),some (.int m),some (.ref W),some (.ref A),some (.int (n/128))] l:=by
  intro l B;delta Gp;simp!;refine Y3 (λ_=>?_) (λ_=>d l B);intro p O;have j:=B.trans (SameM.new O (.lst []));have p4:updM l p (.lst []) p=some (.lst []):=X9;generalize updM l p _=c at*;have I:=j _ _ d2;have g:=j _ _ L;refine KJ I p4 ?_;by_cases hn:(F.filter λv=>decide (v.giver=z))=[]
  .rw[hn];exact d c j
  .have he:((F.filter λv=>decide (v.giver=z)).map λv=>MV.str v.name).isEmpty=false:=by
    cases e:F.filter λv=>decide (v.giver=z)with
    |nil=>exact absurd e hn
    |cons _ _=>rfl
   rw[he,if_pos rfl];delta Q7;obtain⟨v,r,hb,J⟩:=Sn (i:=n/8) hn;have hl:0<(F.filter λv=>decide (v.giver=z)).length:=DS.mpr hn
   simp![I,Xd,J]
   refine⟨by lia,?_⟩
   try simp![J]
   refine⟨n/128,a,x,y,rfl,g,by lia,by lia,λU M5 s5 C=>?_⟩
   try simp!
   refine q (.give v.name U) M5 ((S.trans j).trans s5) ⟨XQ.mpr ⟨v,r,rfl⟩,C⟩ (λu D e=>?_);rw[Sl nd D r e];exact of_decide_eq_true hb
 delta Q9;simp!;refine Y3 (λ_=>?_) (λ_=>E M2 (SameM.refl _));intro p O;have j:=SameM.new O (.lst []);have p4:updM M2 p (.lst []) p=some (.lst []):=X9;generalize updM M2 p _=c at*;have I:=j _ _ d12;have g:=j _ _ L;refine KJ I p4 ?_;by_cases hn:(F.filter λv=>decide (v.taker=z))=[]
 .rw[hn];exact E c j
 .have he:((F.filter λv=>decide (v.taker=z)).map λv=>MV.str v.name).isEmpty=false:=by
   cases e:F.filter λv=>decide (v.taker=z)with
   |nil=>exact absurd e hn
   |cons _ _=>rfl
  rw[he,if_pos rfl];delta Q8;obtain⟨v,r,hb,J⟩:=Sn (i:=n/8) hn;have hl:0<(F.filter λv=>decide (v.taker=z)).length:=DS.mpr hn;obtain⟨u,D,X⟩:∃u,u∈ [x,y]/\atI [MV.str x,.str y] (n/128%2)=some (.str u):=by
   rcases(show n/128%2=0\/n/128%2=1 by lia)with e|e<;>rw[e]
   .exact⟨x,by simp,at0⟩
   .exact⟨y,by simp,at1⟩
  simp![I,Xd,J,g,X]
  refine⟨by lia,?_⟩
  try simp![J,g,X]
  refine q (.take v.name u) c (S.trans j) ⟨XQ.mpr ⟨v,r,rfl⟩,D⟩ (λu' hu' e=>?_);rw[Sl nd hu' r e];exact of_decide_eq_true hb
abbrev Hr:SpM:=λu M Q=>∃(n l y:Int) (k:Nat) (f:Addr) (F:List Fer),u=[.int n,.int k,.int l,.ref f,.int y]/\M f=some (.lst (F.map Fer.mv))/\F.length<=6/\(F.map (·.name)).Nodup/\0<=n/\n<=10^60/\k<=4/\
 ∀(I:Isl)(a b:Addr)j,SameM M j->M a=none->M b=none->a≠b->j a=some (.lst (I.prs.map prV))->j b=some (.lst (I.stps.map Stp.mv))->I.name=YN l k->(∀w,1<=w->IslOk w (F.map (·.name)) I)->(∀s∈I.stps,ZT F I.name s)->Q (.tup [.str I.name,.ref a,.ref b]) j
theorem _8C:MonW Hr:=by walk_at "m"
theorem _cA(T:Txt K mg t):FnOk P w K mg base CX0 3 t.fA t.eD ["number","k","naming","ferries","around"] (liSp K Hr):=by
 refine T.bb.F.okM _cs (fC (G:=Qq) (Φ:=[("_law_name",BM),("_law_step",DL)]) T rfl (fMc ⟨Sf,(fMc ⟨_aP,nl0⟩)⟩) (fMc ⟨fE T.b7 (Sg T),(fMc ⟨fE T.cx (_eR T),nl0⟩)⟩)) Gs _cS (fun vs M Q h=>?_) (fun vs M Q h=>?_)
 .obtain⟨n,g,Z,k,f,F,rfl,_⟩:=h;rfl
 obtain⟨n,g,Z,k,f,F,rfl,hf,h6,nd,n0,n1,hk,q⟩:=h;show wSs _ _ _ [some (.int n),some (.int k),some (.int g),some (.ref f),some (.int Z),none,none,none,none,none,none,none] M;delta Gs Qp;simp!;refine⟨g,k,rfl,by lia,by lia,?_⟩
 obtain⟨z,hz⟩:∃z,YN g k=z:=⟨_,rfl⟩;rw[hz]at q ⊢;delta Qo;simp!;refine⟨g,9,rfl,by lia,by lia,?_⟩
 refine⟨g,10,rfl,by lia,by lia,?_⟩
 simp!;intro A hpn;obtain⟨x,hx⟩:∃x,YN g 9=x:=⟨_,rfl⟩;obtain⟨y,hy⟩:∃y,YN g 10=y:=⟨_,rfl⟩;have gx:Zt x:=hx▸DK (by decide) (by decide)
 have gy:Zt y:=hy▸DK (by decide) (by decide)
 have xy:x≠y:=λe=>by
  have:=BN (n:=g) (k:=9) (k':=10) (by decide) (by decide) (by decide) (by decide) (by rw[hx,hy];exact e)
  lia
 rw[hx,hy];have b:=SameM.new hpn (.lst [.str x,.str y]);have a1:updM M A (.lst [.str x,.str y]) A=some (.lst [.str x,.str y]):=X9;generalize updM M A _=M1 at*;delta Qn
 simp![a1]
 intro B E;have s2:=SameM.new E (.lst [.tup [.str x,.int (n%2)],.tup [.str y,.int (n/2%2)]]);have b2:updM M1 B (.lst [.tup [.str x,.int (n%2)],.tup [.str y,.int (n/2%2)]]) B=some (.lst ([(x,n%2),(y,n/2%2)].map prV)):=X9;generalize updM M1 B _=M2 at*;have a2:=s2 _ _ a1;have fpp:=b.free E;delta Qm;simp!;obtain⟨m,hm,hm7⟩:∃m:Nat,n/4%7=(m:Int)/\m<7:=⟨(n/4%7).toNat,by lia,by lia⟩
 rw[hm];delta Ql;simp!;obtain⟨d,hen,hen2⟩:∃d:Nat,(if n/28%4<Z then(1:Int)else 0)=(d:Int)/\d<=1:=by
  by_cases c:n/28%4<Z
  .exact⟨1,by rw[if_pos c];rfl,by decide⟩
  .exact⟨0,by rw[if_neg c];rfl,by decide⟩
 rw[hen];delta Qk;simp!;delta Qj;simp!;intro L N;have s3:=SameM.new N (.lst []);have c3:updM M2 L (.lst []) L=some (.lst []):=X9;have fps:=(b.trans s2).free N;have pps:=neM b2 N;have I:∀a o,M2 a=some o->a≠L:=λa o h=>neM h N;generalize updM M2 L _=M3 at*;delta Qi;simp!;obtain⟨J,hJ⟩:∃J:Nat->Sm->MH->Prop,∀j σ O,J j σ O↔∃(U:Int) (l:List Stp) (v:Option MV),σ=[some (.int U),some (.int k),some (.int g),some (.ref f),some (.int Z),some (.str z),some (.ref A),some (.ref B),some (.int m),some (.int d),some (.ref L),v]/\0<=U/\l.length=j/\SameM M2 O/\O L=some (.lst (l.map Stp.mv))/\(∀S∈l,ZS (F.map (·.name)) [x,y] (m+d) S/\ZT F z S):=⟨_,λ_ _ _=>Ye⟩;refine⟨by lia,by lia,J,(hJ _ _ _).mpr ⟨n/112,[],_,rfl,by lia,rfl,s3,c3,λS r=>nomatch r⟩,λ_ _ _ _=>trivial,?_,?_⟩
 .rintro j u σ O R h;obtain⟨U,l,v,rfl,p0,hl,C,X,r⟩:=(hJ _ _ _).mp h;obtain⟨hj,rfl⟩:=W6 R;delta Qh
  simp![X]
  refine⟨⟨_,rfl⟩,U%100000000,z,A,f,x,y,F,m+d,rfl,C _ _ a2,C _ _ (s2 _ _ (b _ _ hf)),h6,by lia,by lia,by lia,nd,λS D H hS1 hS2=>?_⟩
  have c5:=H _ _ X
  simp![c5,Xd]
  refine⟨by lia,?_⟩
  delta Qg;simp!;refine(hJ _ _ _).mpr ⟨U/100000000,l++[S],_,rfl,by lia,by simp[hl],λa o h=>by rw[Xc (I a o h)];exact H _ _ (C _ _ h),by rw[X9,Y0];rfl,λS' W=>?_⟩
  rcases Yh.mp W with Y|Y
  .exact r _ Y
  .rw[Y6.mp Y];exact⟨hS1,hS2⟩
 .rintro σ O h;obtain⟨U,l,v,rfl,p0,hl,C,X,r⟩:=(hJ _ _ _).mp h;have hl:l.length=m:=hl;have s:∀(D:MH)(l:List Stp)(v:Option MV),SameM M2 D->D L=some (.lst (l.map Stp.mv))->l.length=m+d->(∀S∈l,ZS (F.map (·.name)) [x,y] (m+d) S/\ZT F z S)->wSs ([("_law_name",BM),("_law_step",DL)]:List (Str×SpM)) Gr {nx:=fun x O=>Q MV.non O,rt:=Q} [some (.int U),some (.int k),some (.int g),some (.ref f),some (.int Z),some (.str z),some (.ref A),some (.ref B),some (.int m),some (.int d),some (.ref L),v] D:=by
   intro D l v H c5 hl5 i;delta Gr;simp!;refine q ⟨z,[(x,n%2),(y,n/2%2)],l⟩ B L D ((b.trans s2).trans H) fpp fps pps (H _ _ b2) c5 rfl (λw hw=>?_) (λS r=>(i S r).2);refine⟨by simp,?_,?_,?_,?_,?_⟩
   .show l.length<=12;lia
   .show [x,y].Nodup;simp[xy]
   .intro u R;have R:u∈ [x,y]:=R;simp only[Xk,XJ,or_false]at R;rcases R with rfl|rfl
    .exact gx
    .exact gy
   .intro p hp;have:=Re hw;have hp:p∈ [(x,n%2),(y,n/2%2)]:=hp;simp only[Xk,XJ,or_false]at hp;rcases hp with rfl|rfl
    .exact⟨by show 0<=n%2;lia,by show n%2<_;lia⟩
    .exact⟨by show 0<=n/2%2;lia,by show n/2%2<_;lia⟩
   .intro S r;show ZS _ [x,y] l.length S;rw[hl5];exact(i S r).1
  delta Qf;simp!;refine Y3 (λc=>?_) (λc=>?_)
  .delta Qe
   simp![X,Xd]
   have e1:d=1:=by lia
   refine⟨⟨_,rfl⟩,by lia,s _ (l++[.jump (.num 1) 0]) _ (λa o h=>by rw[Xc (I a o h)];exact C _ _ h) (by rw[X9,Y0];rfl) (by simp;lia) λS' W=>?_⟩
   rcases Yh.mp W with Y|Y
   .exact r _ Y
   .rw[Y6.mp Y];exact⟨⟨⟨by simp[Tm.depth],by simp[Tm.size],λu R=>by simp[Tm.reads]at R⟩,by lia,by lia⟩,trivial⟩
  .exact s O l _ C X (by lia) r
structure IslsNew (M0 M:MH)(Is:List Isl)(ys:List MV):Prop where
 len:ys.length=Is.length
 at_:∀(i:Nat)(I:Isl)(y:MV),Is[i]?=some I->ys[i]?=some y->∃a b,y=.tup [.str I.name,.ref a,.ref b]/\M0 a=none/\M0 b=none/\M a=some (.lst (I.prs.map prV))/\M b=some (.lst (I.stps.map Stp.mv))
theorem IslsNew.inn{j M:MH}{Is:List Isl}{ys:List MV}(h:IslsNew j M Is ys):IslsIn M Is ys:=⟨h.len,λi I y a b=>by
 obtain⟨c,d,e,_,_,l,u⟩:=h.at_ i I y a b;exact⟨c,d,e,l,u⟩⟩
theorem IslsNew.keep{j M M':MH}{Is:List Isl}{ys:List MV}(h:IslsNew j M Is ys)(s:∀a o,M a=some o->j a=none->M' a=some o):IslsNew j M' Is ys:=⟨h.len,λi I y a b=>by
 obtain⟨c,d,e,l,u,z,m⟩:=h.at_ i I y a b;exact⟨c,d,e,l,u,s _ _ z l,s _ _ m u⟩⟩
set_option tactic.hygienic true in
theorem So{j:Type}{v y:j}{xs:List j}{i:Nat}(h:(xs++[v])[i]?=some y):xs[i]?=some y\/(i=xs.length/\y=v):=by
 rw[List.getElem?_append]at h;split at h
 .exact .inl h
 .rename_i e
  obtain⟨d,l⟩:∃d,i - xs.length=d:=⟨_,rfl⟩;rw[l]at h;cases d with
  |zero=>simp at h;exact .inr ⟨by lia,h.symm⟩
  |succ d=>simp at h
theorem IslsNew.add{z M:MH}{Is:List Isl}{ys:List MV}(h:IslsNew z M Is ys){I:Isl}{a b:Addr}(m:z a=none)(g:z b=none)(h1:M a=some (.lst (I.prs.map prV)))(h2:M b=some (.lst (I.stps.map Stp.mv))):IslsNew z M (Is++[I]) (ys++[.tup [.str I.name,.ref a,.ref b]]):=by
 refine⟨by simp[h.len],λi J y d c=>?_⟩
 have l:=h.len;rcases So d with j|⟨f,rfl⟩<;>rcases So c with u|⟨q,rfl⟩
 .exact h.at_ i J y j u
 .have:=(XF.mp j).1;lia
 .have:=(XF.mp u).1;lia
 .exact⟨a,b,rfl,m,g,h1,h2⟩
def fnm(nm:Int)(i:Nat):Str:=YN nm (5+(i:Int))
def inm(nm:Int)(i:Nat):Str:=YN nm (i:Int)
theorem Sq{f:Nat->Str}{n:Nat}(h:∀a b,a<n->b<n->f a=f b->a=b):((Xt n).map f).Nodup:=by
 unfold List.Nodup;rw[DW];exact List.Pairwise.imp_of_mem (λj l u e=>u (h _ _ (Z7.mp j) (Z7.mp l) e)) List.nodup_range
abbrev Wc:SpM:=λz M Q=>∃(m:List Int) (g:Int),z=[.frl (m.map .int),.int g]/\
 ∀(W:Wld)(l u:Addr)(y:List MV)j,SameM M j->W.Good->1<=W.isl.length->M l=none->M u=none->l≠u->j l=some (.lst y)->IslsIn j W.isl y->j u=some (.lst (W.fer.map Fer.mv))->Q (.tup [.int W.w,.ref l,.ref u]) j
theorem Sr:MonW Wc:=by walk_at "m"
theorem _cz(T:Txt K mg t):FnOk P w K mg base CX0 4 t.dz t.fw ["script","around"] (liSp K Wc):=by
 refine T.ce.F.okM _cr (fC (G:=QG) (Φ:=[("_law_cell_at",Ve),("_law_island",Hr),("_law_name",BM)]) T rfl (fMc ⟨Hl,(fMc ⟨_8C,(fMc ⟨Sf,nl0⟩)⟩)⟩) (fMc ⟨fE T.aX (Sd T),(fMc ⟨fE T.bb (_cA T),(fMc ⟨fE T.b7 (Sg T),nl0⟩)⟩)⟩)) Gu _cR (fun vs M Q h=>?_) (fun vs M Q h=>?_)
 .obtain⟨O,ar,rfl,_⟩:=h;rfl
 obtain⟨O,ar,rfl,q⟩:=h;show wSs _ _ _ [some (.frl (O.map .int)),some (.int ar),none,none,none,none,none,none,none,none,none,none,none] M;delta Gu QF;simp!;refine⟨O,0,rfl,?_⟩;simp!;delta QE;simp!;refine⟨O,1,rfl,?_⟩;simp!;obtain⟨d,hhd,hd0⟩:∃d:Int,O.getD 0 0%1000000000=d/\0<=d:=⟨_,rfl,by lia⟩
 obtain⟨f,hnm⟩:∃f:Int,O.getD 1 0%1000000000=f:=⟨_,rfl⟩;rw[hhd,hnm];delta QD;simp!;intro p0 hp0;obtain⟨w,hw,w1,w2⟩:∃w:Nat,atI [MV.int (1+d/16%64),MV.int (1+d/16%5)] (d/1024%2)=some (.int w)/\1<=w/\w<=64:=by
  rcases(show d/1024%2=0\/d/1024%2=1 by lia)with e|e<;>rw[e]
  .refine⟨(1+d/16%64).toNat,?_,by lia,by lia⟩
   rw[U6 (by lia)];exact at0
  .refine⟨(1+d/16%5).toNat,?_,by lia,by lia⟩
   rw[U6 (by lia)];exact at1
 refine⟨_,hw,?_⟩;have s0:=SameM.new hp0 (.lst [MV.int (1+d/16%64),MV.int (1+d/16%5)]);generalize updM M p0 _=M0 at*;obtain⟨l,hmy,my1,my5⟩:∃l:Nat,1+d%5=(l:Int)/\1<=l/\l<=5:=⟨(1+d%5).toNat,by lia,by lia,by lia⟩
 delta QC;simp!;rw[hmy];delta QB;simp!;intro Z hpf;have s1:=SameM.new hpf (.lst []);have f1:updM M0 Z (.lst []) Z=some (.lst []):=X9;have fpf:=s0.free hpf;have old:∀a o,M0 a=some o->a≠Z:=λa o h=>neM h hpf;generalize updM M0 Z _=M1 at*;delta QA;simp!;obtain⟨cn,hcn,cn6,cn1⟩:∃cn:Nat,(if d/2048%7<6*(l:Int) - 6 then d/2048%7 else 6*(l:Int) - 6)=(cn:Int)/\cn<=6/\(1<=cn->2<=l):=by
  by_cases c:d/2048%7<6*(l:Int) - 6
  .exact⟨(d/2048%7).toNat,by rw[if_pos c];lia,by lia,by lia⟩
  .exact⟨(6*(l:Int) - 6).toNat,by rw[if_neg c];lia,by lia,by lia⟩
 rw[hcn,YY];obtain⟨J,U⟩:∃J:Nat->Sm->MH->Prop,∀j A W,J j A W↔∃(L:List Fer) (v7 v8 v9 B C:Option MV),A=[some (.frl (O.map .int)),some (.int ar),some (.int d),some (.int f),some (.int w),some (.int l),some (.ref Z),v7,v8,v9,B,C,none]/\L.map (·.name)=(Xt j).map (fnm f)/\SameM M0 W/\W Z=some (.lst (L.map Fer.mv))/\(∀F∈L,FerOk ((Xt l).map (inm f)) F):=⟨_,λ_ _ _=>Ye⟩;refine⟨by lia,by lia,J,(U _ _ _).mpr ⟨[],_,_,_,_,_,rfl,rfl,s1,f1,λF hF=>nomatch hF⟩,λ_ _ _ _=>trivial,?_,?_⟩
 .rintro j u A W hu h;obtain⟨L,v7,v8,v9,B,C,rfl,D,s2,f2,hF⟩:=(U _ _ _).mp h;obtain⟨hj,rfl⟩:=W6 hu;have my2:=cn1 (by lia)
  have hl:L.length=j:=by have:=congrArg Wx D;simpa using this
  rw[WG];delta Qz;obtain⟨c,hc⟩:∃c:Nat,2+(j:Int)%4=(c:Int):=⟨(2+(j:Int)%4).toNat,by lia⟩
  simp![hc]
  refine⟨O,c,rfl,?_⟩;simp!;intro p1 hp1;obtain⟨dv,hdv,dv0⟩:∃dv:Int,atI [MV.int 1,MV.int 1000000] ((j:Int)/4)=some (.int dv)/\(dv=1\/dv=1000000):=by
   rcases(show(j:Int)/4=0\/(j:Int)/4=1 by lia)with e|e<;>rw[e]
   .exact⟨1,at0,.inl rfl⟩
   .exact⟨1000000,at1,.inr rfl⟩
  refine⟨_,hdv,?_⟩;have s3:=s2.trans (SameM.new hp1 (.lst [MV.int 1,MV.int 1000000]));have f3:=SameM.new hp1 (.lst [MV.int 1,MV.int 1000000]) _ _ f2;generalize updM W p1 _=M3 at*;simp!;obtain⟨p,hnb,nb0⟩:∃p:Int,O.getD c 0%1000000000000000/dv=p/\0<=p:=by
   refine⟨_,rfl,?_⟩;rcases dv0 with rfl|rfl<;>lia
  rw[hnb];refine⟨by rcases dv0 with rfl|rfl<;>decide,?_⟩
  delta Qy;simp!;have gp:(0:Int)<(l:Int):=by lia
  refine⟨gp,?_⟩;obtain⟨g,hg,hg2⟩:∃g:Nat,p%(l:Int)=(g:Int)/\g<l:=by
   have h0:=ZG p (b:=(l:Int)) (by lia)
   have h1:=U7 p gp;exact⟨(p%(l:Int)).toNat,by lia,by lia⟩
  rw[hg];delta Qx;simp!;have gp1:(0:Int)<(l:Int) - 1:=by lia
  refine⟨gp1,gp,?_⟩;obtain⟨X,ht,ht2,ht3⟩:∃X:Nat,((g:Int)+1+p/5%((l:Int) - 1))%(l:Int)=(X:Int)/\X<l/\X≠g:=by
   have r0:=ZG (p/5) (b:=(l:Int) - 1) (by lia)
   have r1:=U7 (p/5) gp1;obtain⟨r,hr⟩:∃r,p/5%((l:Int) - 1)=r:=⟨_,rfl⟩;rw[hr]at r0 r1 ⊢;have h0:=ZG ((g:Int)+1+r) (b:=(l:Int)) (by lia)
   have h1:=U7 ((g:Int)+1+r) gp;refine⟨(((g:Int)+1+r)%(l:Int)).toNat,by lia,by lia,λe=>?_⟩
   have e2:((g:Int)+1+r)%(l:Int)=(g:Int):=by lia
   rcases(show l=2\/l=3\/l=4\/l=5 by lia)with rfl|rfl|rfl|rfl<;>lia
  rw[ht];delta Qw;simp!;refine⟨f,g,rfl,by lia,by lia,?_⟩
  refine⟨f,X,rfl,by lia,by lia,?_⟩
  try simp!
  delta Qv
  simp![f3]
  refine⟨⟨_,rfl⟩,f,5+(j:Int),rfl,by lia,by lia,?_⟩
  obtain⟨kk,hkk,kk3⟩:∃kk:Nat,p/20%4=(kk:Int)/\kk<=3:=⟨(p/20%4).toNat,by lia,by lia⟩
  obtain⟨st,hst,st1,st3⟩:∃st:Nat,1+p/80%3=(st:Int)/\1<=st/\st<=3:=⟨(1+p/80%3).toNat,by lia,by lia,by lia⟩
  simp![f3,hkk,hst,Xd]
  refine⟨by lia,(U _ _ _).mpr ⟨L++[⟨fnm f j,inm f g,inm f X,kk,st⟩],_,_,_,_,_,rfl,?_,λa o h=>by rw[Xc (old a o h)];exact s3 _ _ h,by rw[X9,Y0];rfl,λF hF'=>?_⟩⟩
  .rw[Y0,D,Cb,Y0];rfl
  .rcases Yh.mp hF' with h'|h'
   .exact hF _ h'
   .rw[Y6.mp h'];refine⟨XQ.mpr ⟨g,Z7.mpr hg2,rfl⟩,XQ.mpr ⟨X,Z7.mpr ht2,rfl⟩,λe=>?_,kk3,st1,st3⟩;have:=BN (n:=f) (k:=(g:Int)) (k':=(X:Int)) (by lia) (by lia) (by lia) (by lia) e
    lia
 .rintro A M2 h;obtain⟨L,v7,v8,v9,B,C,rfl,D,s2,f2,hF⟩:=(U _ _ _).mp h;have D:L.map (·.name)=(Xt cn).map (fnm f):=D;have hl:L.length=cn:=by have:=congrArg Wx D;simpa using this
  have ndF:(L.map (·.name)).Nodup:=by
   rw[D];refine Sq λa b ha hb e=>?_;have:=BN (n:=f) (k:=5+(a:Int)) (k':=5+(b:Int)) (by lia) (by lia) (by lia) (by lia) e
   lia
  clear U h;delta Qu;simp!;intro R E;have s3:=SameM.new E (.lst []);have i3:updM M2 R (.lst []) R=some (.lst []):=X9;have fpi:=(s0.trans s2).free E;have ipf:=(neM f2 E).symm;have old2:∀a o,M2 a=some o->a≠R:=λa o h=>neM h E;have only:∀a o,updM M2 R (.lst []) a=some o->a≠R->M2 a=some o:=λa o h n=>by rw[Xc n]at h;exact h
  generalize updM M2 R _=M3 at*;delta Qt;simp!;obtain⟨J,U⟩:∃J:Nat->Sm->MH->Prop,∀j A W,J j A W↔∃(N:List Isl) (H:List MV) (v7:Option MV),A=[some (.frl (O.map .int)),some (.int ar),some (.int d),some (.int f),some (.int w),some (.int l),some (.ref Z),v7,v8,v9,B,C,some (.ref R)]/\N.map (·.name)=(Xt j).map (inm f)/\SameM M2 W/\W R=some (.lst H)/\IslsNew M3 W N H/\(∀I∈N,IslOk w (L.map (·.name)) I/\∀s∈I.stps,ZT L I.name s):=⟨_,λ_ _ _=>Ye⟩;refine⟨by lia,by lia,J,(U _ _ _).mpr ⟨[],[],_,rfl,rfl,s3,i3,⟨rfl,λi I y hI=>by simp at hI⟩,λI hI=>nomatch hI⟩,λ_ _ _ _=>trivial,?_,?_⟩
  .rintro j u A M4 hu h;obtain⟨N,H,v7,rfl,m,s4,i4,hI,hO⟩:=(U _ _ _).mp h;obtain⟨hj,rfl⟩:=W6 hu;have hlI:N.length=j:=by have:=congrArg Wx m;simpa using this
   have hly:=hI.len;rw[WG];delta Qs;obtain⟨c,hc⟩:∃c:Nat,6+(j:Int)=(c:Int):=⟨6+j,by lia⟩
   simp![i4,hc]
   refine⟨⟨_,rfl⟩,O,c,rfl,?_⟩;simp!;refine⟨O.getD c 0%1000000000000000000000000000000000000000000000000000000000000,f,ar,j,Z,L,rfl,s4 _ _ f2,by lia,ndF,by lia,by lia,by lia,λI a b M5 s5 na p nab ha hb hn hok hen=>?_⟩
   have i5:=s5 _ _ i4
   simp![i5]
   have bk:∀x,M4 x=none->M3 x=none:=λx hx=>by
    cases e:M3 x with
    |none=>rfl
    |some v=>
     by_cases hx2:x=R
     .subst hx2;rw[i4]at hx;cases hx
     .rw[s4 _ _ (only _ _ e hx2)]at hx;cases hx
   refine⟨by lia,(U _ _ _).mpr ⟨N++[I],H++[.tup [.str I.name,.ref a,.ref b]],_,rfl,?_,λa o h=>by rw[Xc (old2 a o h)];exact s5 _ _ (s4 _ _ h),X9,?_,?_⟩⟩
   .rw[Y0,m,Cb,Y0];show _++[I.name]=_;rw[hn];rfl
   .have h3:∀x o,M5 x=some o->M3 x=none->updM M5 R (.lst (H++[.tup [.str I.name,.ref a,.ref b]])) x=some o:=λx o h n=>by
     rw[Xc (λe=>by subst e;rw[i3]at n;cases n)];exact h
    have hI5:=hI.keep (M':=updM M5 R (.lst (H++[.tup [.str I.name,.ref a,.ref b]]))) λx o h n=>h3 x o (s5 _ _ h) n;exact hI5.add (bk _ na) (bk _ p) (h3 _ _ ha (bk _ na)) (h3 _ _ hb (bk _ p))
   .intro I' hI';rcases Yh.mp hI' with h'|h'
    .exact hO _ h'
    .rw[Y6.mp h'];exact⟨hok w w1,hen⟩
  .rintro A M4 h;obtain⟨N,H,v7,rfl,m,s4,i4,hI,hO⟩:=(U _ _ _).mp h;have m:N.map (·.name)=(Xt l).map (inm f):=m;have hlI:N.length=l:=by have:=congrArg Wx m;simpa using this
   delta Qr;simp!;refine q ⟨w,N,L⟩ R Z H M4 ((s0.trans s2).trans s4) ?_ (by show 1<=N.length;lia) fpi fpf ipf i4 hI.inn (s4 _ _ f2)
   refine⟨w1,w2,by show N.length<=5;lia,by show L.length<=6;lia,?_,?_,?_,λI Y=>(hO I Y).1,?_,λI Y=>(hO I Y).2⟩
   .intro z S;have S:z∈L.map (·.name):=S;rw[D]at S;obtain⟨i,Y,rfl⟩:=XQ.mp S;have:=Z7.mp Y;exact DK (by lia) (by lia)
   .intro z S;have S:z∈N.map (·.name):=S;rw[m]at S;obtain⟨i,Y,rfl⟩:=XQ.mp S;have:=Z7.mp Y;exact DK (by lia) (by lia)
   .show(L.map (·.name)++N.map (·.name)).Nodup;rw[Zg];refine⟨ndF,?_,?_⟩
    .rw[m];refine Sq λa b ha hb e=>?_;have:=BN (n:=f) (k:=(a:Int)) (k':=(b:Int)) (by lia) (by lia) (by lia) (by lia) e
     lia
    .rw[D,m];intro a ha b hb e;obtain⟨i,Y,rfl⟩:=XQ.mp ha;obtain⟨j,hj,rfl⟩:=XQ.mp hb;have Y:=Z7.mp Y;have hj:=Z7.mp hj;have:=BN (n:=f) (k:=5+(i:Int)) (k':=(j:Int)) (by lia) (by lia) (by lia) (by lia) e
     lia
   .intro F hF';show FerOk (N.map (·.name)) F;rw[m];exact hF F hF'
def zipK:List Str->List MV->List (Key×MV)
 |k::ks,v::vs=>(Xs k,v)::zipK ks vs
 |_,_=>[]
theorem Hs:∀{ks:List Str} {vs:List MV},vs.length=ks.length->(zipK ks vs).length=ks.length
 |[],[],_=>rfl
 |[],_::_,h=>by cases h
 |_::_,[],h=>by cases h
 |k::ks,v::vs,h=>by
  show(zipK ks vs).length+1=_;rw[Hs (by simpa using h)];rfl
theorem Ht:∀{ks:List Str} {vs:List MV},vs.length=ks.length->(zipK ks vs).map (·.1)=ks.map Xs
 |[],[],_=>rfl
 |[],_::_,h=>by cases h
 |_::_,[],h=>by cases h
 |k::ks,v::vs,h=>by
  show Xs k::(zipK ks vs).map (·.1)=_;rw[Ht (by simpa using h)];rfl
theorem UL:∀{ks:List Str} {vs:List MV} {i:Nat} {k:Str} {v:MV},ks.Nodup->ks[i]?=some k->vs[i]?=some v->valM (zipK ks vs) (Xs k)=some v
 |[],_,_,_,_,_,h,_=>by simp at h
 |_::_,[],_,_,_,_,_,h=>by simp at h
 |a::ks,b::vs,0,k,v,_,h1,h2=>by
  simp at h1 h2;subst h1 h2;simp[zipK,valM]
 |a::ks,b::vs,i+1,k,v,nd,h1,h2=>by
  rw[Yp]at nd;simp at h1 h2;have:a≠k:=λe=>nd.1 (e▸Xo h1);simp only[zipK,valM];rw[if_neg (λe=>this (V1 e))];exact UL nd.2 h1 h2
theorem BO:∀{ks:List Str} {vs:List MV} {i:Nat} {k:Str} {v:MV},vs.length=ks.length->ks.Nodup->ks[i]?=some k->putM (zipK ks vs) (Xs k) v=zipK ks (vs.set i v)
 |[],_,_,_,_,_,_,h=>by simp at h
 |_::_,[],_,_,_,h,_,_=>by cases h
 |a::ks,b::vs,0,k,v,_,_,h1=>by
  simp at h1;subst h1;simp[zipK,putM]
 |a::ks,b::vs,i+1,k,v,hl,nd,h1=>by
  rw[Yp]at nd;simp at h1;have:a≠k:=λe=>nd.1 (e▸Xo h1);simp only[zipK,putM,List.set_cons_succ];rw[if_neg (λe=>this (V1 e)),BO (by simpa using hl) nd.2 h1]
theorem _kU{j:List (Key×MV)}{k:Key}{v:MV}:(∀p∈j,p.1≠k)->putM j k v=j++[(k,v)]:=by
 induction j with
 |nil=>intro _;rfl
 |cons p r l=>
  intro h;unfold putM;rw[if_neg (h p (Ya ..)),l λq u=>h q (XM _ u)];rfl
theorem _iN{ps:List (Key×MV)}(j:(ps.map (·.1)).Nodup):YK ps=ps:=by
 have l:∀(ps c:List (Key×MV)),((c++ps).map (·.1)).Nodup->ps.foldl (λc z=>putM c z.1 z.2) c=c++ps:=by
  intro ps
  induction ps with
  |nil=>intro c _;simp
  |cons p r u=>
   intro c j;rw[Vv,_kU,u]
   .simp
   .simpa using j
   .intro q y e;rw[Y0,Zg]at j;exact j.2.2 _ (XQ.mpr ⟨q,y,rfl⟩) _ (XQ.mpr ⟨p,Ya ..,rfl⟩) e
 have:=l ps [] (by simpa using j)
 rw[Y7]at this;exact this
theorem Hu{ks:List Str}{vs:List MV}(j:vs.length=ks.length)(l:ks.Nodup):YK (zipK ks vs)=zipK ks vs:=by
 refine _iN ?_;rw[Ht j];unfold List.Nodup;rw[DW];exact Ip (λh e=>h (V1 e)) l
theorem Su{j:Type}(xs:List j)(f:j->Str)(g:j->MV):(xs.map λx=>MV.tup [.str (f x),g x])=(zipK (xs.map f) (xs.map g)).map prM:=by
 induction xs with
 |nil=>rfl
 |cons x r l=>
  rw[Xx,l];rfl
noncomputable def SrcFrom(S:Src)(M M1:MH):Prop:=(S.okF M1/\M1=M)\/False
theorem SrcFrom.free{S:Src}{M M1:MH}(h:SrcFrom S M M1){p:Addr}(j:M1 p=none):M p=none:=by
 rcases h with⟨_,rfl⟩|h
 .exact j
 .exact h.elim
theorem SrcFrom.ok{S:Src}{M M1 M2:MH}(h:SrcFrom S M M1)(s:SameM M1 M2):S.ok M2:=by
 rcases h with⟨j,rfl⟩|h
 .cases S with
  |tup _=>trivial
  |rng _ _=>trivial
  |str _=>trivial
  |lst a l=>exact s _ _ j
 .exact h.elim
theorem SrcFrom.thaw{S:Src}{M M1 M2:MH}(h:SrcFrom S M M1)(s:SameM M1 M2):SameM M (S.thaw M2)/\∀a,M1 a=none->(S.thaw M2) a=M2 a:=by
 rcases h with⟨j,rfl⟩|h
 .rw[De j];exact⟨s,λ_ _=>rfl⟩
 .exact h.elim
theorem Sv{Φ:List (Str×SpM)}{own:List Str}{fr:List Nat}{g:ISr}{tg:ITg}{elt:IE}{F:Sm}{M:MH}{Q:QM}{G:Type}(xs:List G)(f:G->MV)(C:G->MV->List Addr->MH->Prop)(n:MH->Prop)
  (I:∀x y N M2 r,(∀a∈N,r a=M2 a)->C x y N M2->C x y N r)
  (hs:wSr Φ g F M λS M1=>S.items=xs.map f/\xs.length<sizeLine/\SrcFrom S M M1/\n M1)
  (ht:∀x∈xs,∀M1 M',n M1->SameM M1 M'->wTg tg (f x) (sCm own fr F) λT=>wE Φ elt T M' λy M2=>SameM M' M2/\∃N:List Addr,N.Nodup/\(∀a∈N,M' a=none/\∃o,M2 a=some o)/\C x y N M2)
  (U:∀(j:Nat)f sp,Φ[j]?=some (f,sp)->MonW sp)
  (q:∀D (ys:List MV)(u:List (List Addr))M',M D=none->SameM M M'->ys.length=xs.length->u.length=xs.length->u.flatten.Nodup->D∉u.flatten->(∀a∈u.flatten,M a=none)->
   (∀(j:Nat)x y N,xs[j]?=some x->ys[j]?=some y->u[j]?=some N->C x y N M')->M' D=some (.lst ys)->Q (.ref D) M'):wE Φ (.comp own fr g tg .none elt) F M Q:=by
 rw[Dd];refine mon_sr U g (λS M1 ⟨h1,h2,Y,h4⟩=>?_) hs;have hl:S.len=xs.length:=by rw[<-S.items_len,h1,Xd]
 refine⟨by rw[hl];exact h2,λD Z=>⟨λi ys M2=>SameM M1 M2/\M2 D=some (.lst ys)/\ys.length=i/\∃u:List (List Addr),u.length=i/\u.flatten.Nodup/\D∉u.flatten/\(∀a∈u.flatten,M1 a=none/\∃o,M2 a=some o)/\(∀(j:Nat)x y N,xs[j]?=some x->ys[j]?=some y->u[j]?=some N->C x y N M2),⟨SameM.new Z _,X9,rfl,[],rfl,by simp,by simp,by simp,by simp⟩,?_,?_,?_⟩⟩
 .rintro i ys M2 ⟨d,p,e,_⟩;exact⟨p,by lia,Y.ok d⟩
 .rintro i x ys M2 hx ⟨d,p,e,u,J,X,W,L,H⟩;rw[h1]at hx;obtain⟨hi,rfl⟩:=YZ hx;refine V7 tg (λT h=>?_) (ht xs[i] (XU hi) M1 M2 h4 d);rw[wI,if_pos rfl];refine Xa U elt (λy r ⟨A,N,m1,B,m3⟩=>?_) h;have v:D∉N:=λz=>by have:=(B _ z).1;rw[p]at this;cases this
  have keep:∀a,a≠D->updM r D (.lst (ys++[y])) a=r a:=λa z=>Xc z;have s:(u++[N]).flatten=u.flatten++N:=by simp
  refine⟨A _ _ p,λa o z=>by rw[Xc (neM z Z)];exact A _ _ (d _ _ z),X9,by simp[e],u++[N],by simp[J],?_,?_,?_,?_⟩
  .rw[s,Zg];refine⟨X,m1,λa l b hb z=>?_⟩;subst z;obtain⟨_,o,ho⟩:=L _ l;rw[(B _ hb).1]at ho;cases ho
  .rw[s,Yh];exact λz=>z.elim W v
  .rw[s];intro a l;have aD:a≠D:=λz=>by
    subst z;rcases Yh.mp l with l|l
    .exact W l
    .exact v l
   rw[keep a aD];rcases Yh.mp l with l|l
   .obtain⟨z1,o,E⟩:=L _ l;exact⟨z1,o,A _ _ E⟩
   .exact⟨d.free (B _ l).1,(B _ l).2⟩
  .intro j x' y' N' m O R;by_cases hj:j<i
   .rw[ZB (by lia)]at O R
    refine I _ _ _ M2 _ (λa l=>?_) (H j x' y' N' m O R);have hm:a∈u.flatten:=Vt.mpr ⟨N',Xo R,l⟩;rw[keep a λz=>W (z▸hm)];obtain⟨_,o,E⟩:=L _ hm;rw[E];exact A _ _ E
   .have hj:j=i:=by
     have:=(XF.mp O).1;simp at this;lia
    subst hj;rw[Zf (by lia),e,Nat.sub_self]at O
    rw[Zf (by lia),J,Nat.sub_self]at R
    rw[X8 hi]at m;simp at m O R;subst m O R;exact I _ _ _ r _ (λa l=>keep a λz=>v (z▸l)) m3
 .rintro ys M2 ⟨d,p,e,u,J,X,W,L,H⟩;obtain⟨t1,t2⟩:=Y.thaw d;refine q D ys u _ (Y.free Z) t1 (by lia) (by lia) X W (λa l=>Y.free (L a l).1) (λj x y N a b c=>?_) (by rw[t2 _ Z];exact p)
  exact I _ _ _ M2 _ (λz hz=>t2 _ (L z (Vt.mpr ⟨N,Xo c,hz⟩)).1) (H j x y N a b c)
theorem Hv{Φ:List (Str×SpM)}{own:List Str}{fr:List Nat}{d:ISr}{tg:ITg}{elt:IE}{U:Sm}{M:MH}{Q:QM}{r:Type}(xs:List r)(f:r->MV)(nm:r->Str)(e:r->MO)(W:MH->Prop)
  (B:wSr Φ d U M λS M1=>S.items=xs.map f/\xs.length<sizeLine/\SrcFrom S M M1/\W M1)
  (C:∀x∈xs,∀M1 M',W M1->SameM M1 M'->wTg tg (f x) (sCm own fr U) λL=>wE Φ elt L M' λy M2=>∃p,M' p=none/\y=.tup [.str (nm x),.ref p]/\M2=updM M' p (e x))
  (O:∀(j:Nat)f sp,Φ[j]?=some (f,sp)->MonW sp)
  (q:∀D (g:List Addr)M',M D=none->SameM M M'->g.length=xs.length->g.Nodup->D∉g->(∀a∈g,M a=none)->
   (∀(j:Nat)a x,g[j]?=some a->xs[j]?=some x->M' a=some (e x))->M' D=some (.lst ((zipK (xs.map nm) (g.map MV.ref)).map prM))->Q (.ref D) M'):wE Φ (.comp own fr d tg .none elt) U M Q:=by
 refine Sv xs f (λx y N M2=>∃p,N=[p]/\y=.tup [.str (nm x),.ref p]/\M2 p=some (e x)) W ?_ B ?_ O ?_
 .rintro x y N M2 E F ⟨p,rfl,G,I⟩;exact⟨p,rfl,G,by rw[F p (by simp)];exact I⟩
 .intro x R M1 M' z m;refine V7 tg (λL h=>?_) (C x R M1 M' z m);refine Xa O elt (λy E ⟨p,A,J,X⟩=>?_) h;subst X;exact⟨SameM.new A _,[p],by simp,by simp[A,X9],p,rfl,J,X9⟩
 .intro D u l M' z m T H v o s i n;have Y:∀(xs:List r)(u:List MV)(l:List (List Addr)),u.length=xs.length->l.length=xs.length->(∀(j:Nat)x y N,xs[j]?=some x->u[j]?=some y->l[j]?=some N->∃p,N=[p]/\y=.tup [.str (nm x),.ref p]/\M' p=some (e x))->
    l.flatten.length=xs.length/\u=(zipK (xs.map nm) (l.flatten.map MV.ref)).map prM/\∀(j:Nat)a x,l.flatten[j]?=some a->xs[j]?=some x->M' a=some (e x):=by
   intro xs
   induction xs with
   |nil=>
    intro u l z m _;cases u with
    |nil=>
     cases l with
     |nil=>exact⟨rfl,rfl,λj a x h=>by simp at h⟩
     |cons _ _=>cases m
    |cons _ _=>cases z
   |cons x xs ih=>
    intro u l z m T;cases u with
    |nil=>cases z
    |cons y u=>
     cases l with
     |nil=>cases m
     |cons N l=>
      obtain⟨p,rfl,rfl,ep⟩:=T 0 x y N rfl rfl rfl;obtain⟨i1,i2,i3⟩:=ih u l (by simpa using z) (by simpa using m) λj x y N a b c=>T (j+1) x y N (by simpa using a) (by simpa using b) (by simpa using c)
      refine⟨by simp at i1 ⊢;lia,?_,?_⟩
      .show _=prM (Xs (nm x),MV.ref p)::((zipK (xs.map nm) (l.flatten.map MV.ref)).map prM);rw[<-i2];rfl
      .intro j a x' Z R;cases j with
       |zero=>simp at Z R;subst Z R;exact ep
       |succ j=>exact i3 j a x' (by simpa using Z) (by simpa using R)
  obtain⟨k1,k2,k3⟩:=Y xs u l T H i;exact q D l.flatten M' z m k1 v o s k3 (by rw[<-k2];exact n)
def WdOk(w:Nat)(I:Isl)(j:List (Key×MV)):Prop:=∃l:List Int,l.length=I.vars.length/\j=zipK I.vars (l.map MV.int)/\∀v∈l,0<=v/\v<2^w
def rhoK(j:List (Key×MV))(x:Str):Int:=match valM j (Xs x)with
 |some (.int i)=>i
 |_=>0
theorem WdOk.at{k:Nat}{I:Isl}{j:List (Key×MV)}(h:WdOk k I j)(y:I.vars.Nodup){x:Str}(z:x∈I.vars):valM j (Xs x)=some (.int (rhoK j x))/\0<=rhoK j x/\rhoK j x<2^k:=by
 obtain⟨l,c,rfl,m⟩:=h;obtain⟨i,g,rfl⟩:=Y5 z;have u:i<l.length:=by lia
 have e:valM (zipK I.vars (l.map MV.int)) (Xs I.vars[i])=some (.int l[i]):=UL (i:=i) y (X8 g) (by rw[Xq,X8 u];rfl)
 have d:rhoK (zipK I.vars (l.map MV.int)) I.vars[i]=l[i]:=by unfold rhoK;rw[e]
 rw[d];exact⟨e,m _ (XU u)⟩
theorem WdOk.reads{k:Nat}{I:Isl}{j:List (Key×MV)}(h:WdOk k I j)(l:I.vars.Nodup):readsOk I.vars j (rhoK j) k:=λ_ u=>h.at l u
theorem WdOk.len{k:Nat}{I:Isl}{j:List (Key×MV)}(h:WdOk k I j):j.length=I.vars.length:=by
 obtain⟨u,l,rfl,y⟩:=h;exact Hs (by rw[Xd];exact l)
theorem WdOk.nodup{k:Nat}{I:Isl}{l:List (Key×MV)}(h:WdOk k I l)(m:I.vars.Nodup):(l.map (·.1)).Nodup/\∀p∈l,Yl p.2=true:=by
 obtain⟨j,g,rfl,f⟩:=h;have d:(j.map MV.int).length=I.vars.length:=by rw[Xd];exact g
 refine⟨?_,?_⟩
 .rw[Ht d];unfold List.Nodup;rw[DW];exact Ip (λh e=>h (V1 e)) m
 .have z:∀(y:List Str)(j:List Int),∀p∈zipK y (j.map MV.int),Yl p.2=true:=by
   intro y
   induction y with
   |nil=>intro j p u;cases u
   |cons k y c=>
    intro j p u;cases j with
    |nil=>cases u
    |cons v j=>
     rcases Xk.mp u with rfl|u
     .rfl
     .exact c j p u
  exact z _ _
theorem WdOk.put{k:Nat}{I:Isl}{j:List (Key×MV)}(h:WdOk k I j)(z:I.vars.Nodup){x:Str}(m:x∈I.vars){v:Int}(g:0<=v/\v<2^k):WdOk k I (putM j (Xs x) (.int v)):=by
 obtain⟨d,y,rfl,c⟩:=h;obtain⟨i,f,rfl⟩:=Y5 m;refine⟨d.set i v,by rw[Uw];exact y,?_,λu l=>?_⟩
 .rw[BO (i:=i) (by rw[Xd];exact y) z (X8 f),Ww]
 .rcases DM l with l|rfl
  .exact c u l
  .exact g
structure Boat where
 b:Addr
 p:Addr
 g:Addr
 u:Addr
 gl:Addr
 tl:Addr
 A:Ab
noncomputable def Boat.ads(x:Boat):List Addr:=[x.b,x.p,x.g,x.u,x.gl,x.tl]
structure BoatAt (M:MH)(f:Fer)(w:Nat)(m:Int)(x:Boat):Prop where
 fy:FyAt M x.b x.p x.g x.u x.A
 gv:M x.gl=some (.lst (x.A.ws.map natM))
 tk:M x.tl=some (.lst ((x.A.ws.take x.A.tn).map natM))
 n1:x.gl≠x.tl/\x.gl≠x.p/\x.tl≠x.p
 k:x.A.k=f.k
 gm:x.A.gm<m
 tm:x.A.tm<m
 wd:∀z∈x.A.ws,z<2^w
theorem BoatAt.at_{M:MH}{f:Fer}{w:Nat}{m:Int}{x:Boat}(h:BoatAt M f w m x):∀a∈x.ads,∃o,M a=some o/\(∀j,o≠.dic j)/\∀fs,o≠.ins "Run" fs:=by
 have y:¬(("Ferry":Str)="Run"):=by rw[W5];decide
 have l:¬(("Side":Str)="Run"):=by rw[W5];decide
 obtain⟨d,g,_⟩:=h.fy.pls;intro a u;simp only[Boat.ads,Xk,XJ,or_false]at u;rcases u with rfl|rfl|rfl|rfl|rfl|rfl
 .exact⟨_,h.fy.fe,(λ_ z=>by cases z),(λfs z=>y (by injection z))⟩
 .exact⟨_,g,(λ_ z=>by cases z),(λfs z=>by cases z)⟩
 .exact⟨_,h.fy.gi,(λ_ z=>by cases z),(λfs z=>l (by injection z))⟩
 .exact⟨_,h.fy.ta,(λ_ z=>by cases z),(λfs z=>l (by injection z))⟩
 .exact⟨_,h.gv,(λ_ z=>by cases z),(λfs z=>by cases z)⟩
 .exact⟨_,h.tk,(λ_ z=>by cases z),(λfs z=>by cases z)⟩
theorem BoatAt.dic{M:MH}{f:Fer}{w:Nat}{m:Int}{x:Boat}(h:BoatAt M f w m x){a:Addr}{j:List (Key×MV)}(l:M a=some (.dic j)):a∉x.ads:=λz=>by
 obtain⟨o,e,n,_⟩:=h.at_ a z;rw[l]at e;cases e;exact n _ rfl
theorem BoatAt.run{M:MH}{f:Fer}{w:Nat}{m:Int}{x:Boat}(h:BoatAt M f w m x){a:Addr}{fs:List (Str×MV)}(j:M a=some (.ins "Run" fs)):a∉x.ads:=fun z=>by
 obtain⟨o,e,_,n⟩:=h.at_ a z;rw[j]at e;cases e;exact n _ rfl
theorem BoatAt.fr{M M':MH}{f:Fer}{w:Nat}{m u:Int}{x:Boat}(h:BoatAt M f w m x)(l:m<=u)(s:∀a∈x.ads,∀o,M a=some o->M' a=some o):BoatAt M' f w u x:=by
 have s:∀a,a∈ [x.b,x.p,x.g,x.u,x.gl,x.tl]->∀o,M a=some o->M' a=some o:=s;obtain⟨y,z,j⟩:=h.fy.pls;exact⟨⟨h.fy.ok,s _ (by simp) _ h.fy.fe,⟨y,s _ (by simp) _ z,j⟩,s _ (by simp) _ h.fy.gi,s _ (by simp) _ h.fy.ta,h.fy.ne⟩,s _ (by simp) _ h.gv,s _ (by simp) _ h.tk,h.n1,h.k,VG h.gm l,VG h.tm l,h.wd⟩
structure RunS where
 m:Int
 nums:List Nat
 ws:List Addr
 dn:List Nat
 bs:List Boat
 pn:Addr
 pw:Addr
 ps:Addr
 pb:Addr
 pg:Addr
 pt:Addr
noncomputable def runO(W:Wld)(R:RunS):MO:=.ins "Run" [("world",W.mv),("moment",.int R.m),("next_numbers",.ref R.pn),("words_now",.ref R.pw),("steps_so_far",.ref R.ps),("boats",.ref R.pb),("given_so_far",.ref R.pg),("taken_so_far",.ref R.pt)]
structure RunAt (M:MH)(W:Wld)(r:Addr)(R:RunS)(mm:Nat->Int):Prop where
 ob:M r=some (runO W R)
 hn:M R.pn=some (.dic (zipK W.ins (R.nums.map natM)))
 hw:M R.pw=some (.dic (zipK W.ins (R.ws.map MV.ref)))
 hs:M R.ps=some (.dic (zipK W.ins (R.dn.map natM)))
 hb:M R.pb=some (.dic (zipK W.fns (R.bs.map λx=>MV.ref x.b)))
 hg:M R.pg=some (.dic (zipK W.fns (R.bs.map λx=>MV.ref x.gl)))
 ht:M R.pt=some (.dic (zipK W.fns (R.bs.map λx=>MV.ref x.tl)))
 nl:R.nums.length=W.isl.length
 wl:R.ws.length=W.isl.length
 sl:R.dn.length=W.isl.length
 bl:R.bs.length=W.fer.length
 nb:∀(i:Nat)I n,W.isl[i]?=some I->R.nums[i]?=some n->n<=I.stps.length
 wa:∀(i:Nat)I a,W.isl[i]?=some I->R.ws[i]?=some a->∃kvs,M a=some (.dic kvs)/\WdOk W.w I kvs
 ba:∀(j:Nat)f x,W.fer[j]?=some f->R.bs[j]?=some x->BoatAt M f W.w (mm j) x
 sep:∀(i j:Nat)x y,i≠j->R.bs[i]?=some x->R.bs[j]?=some y->∀a∈x.ads,a∉y.ads
 nd:(R.pn::R.pw::R.ps::R.pb::R.pg::R.pt::R.ws).Nodup
def RunS.own(R:RunS)(r:Addr):List Addr:=r::R.pn::R.pw::R.ps::R.bs.flatMap Boat.ads
structure Kept (M M':MH)(r:Addr)(R R':RunS):Prop where
 fr:FrM M M' (R.own r)
 nw:∀a∈R'.own r,a∈R.own r\/M a=none
theorem Kept.trans{M M1 M2:MH}{r:Addr}{R l R2:RunS}(h:Kept M M1 r R l)(g:Kept M1 M2 r l R2):Kept M M2 r R R2:=by
 refine⟨λa o j u=>g.fr a o (h.fr a o j u) λz=>?_,λa j=>?_⟩
 .rcases h.nw a z with z|z
  .exact u z
  .rw[j]at z;cases z
 .rcases g.nw a j with z|z
  .exact h.nw a z
  .by_cases c:a∈R.own r
   .exact .inl c
   .cases e:M a with
    |none=>exact .inr rfl
    |some o=>rw[h.fr a o e c]at z;cases z
theorem Kept.new{M M':MH}{r:Addr}{R:RunS}(s:SameM M M'):Kept M M' r R R:=⟨λa o h _=>s a o h,λ_ h=>.inl h⟩
theorem RunAt.keep{M M':MH}{W:Wld}{r:Addr}{R:RunS}{l:Nat->Int}(h:RunAt M W r R l)(s:SameM M M'):RunAt M' W r R l:=
 ⟨s _ _ h.ob,s _ _ h.hn,s _ _ h.hw,s _ _ h.hs,s _ _ h.hb,s _ _ h.hg,s _ _ h.ht,h.nl,h.wl,h.sl,h.bl,h.nb,λi I a u y=>let⟨k,e,o⟩:=h.wa i I a u y;⟨k,s _ _ e,o⟩,λj f x z m=>(h.ba j f x z m).fr (ZH _) λa _ o e=>s a o e,h.sep,h.nd⟩
theorem _a{u:Type}{xs:List u}{i j:Nat}{v x:u}(h:(xs.set j v)[i]?=some x):(i=j/\x=v)\/(i≠j/\xs[i]?=some x):=by
 rw[Vs]at h;by_cases e:j=i
 .subst e;rw[if_pos rfl]at h;by_cases l:j<xs.length
  .rw[if_pos l]at h;exact .inl ⟨rfl,(Y9 h).symm⟩
  .rw[if_neg l]at h;cases h
 .rw[if_neg e]at h;exact .inr ⟨λz=>e z.symm,h⟩
set_option tactic.hygienic true in
theorem Hw{u z:Type}{f:u->z}{xs:List u}{j:Nat}{x y:u}(m:xs[j]?=some x)(e:f y=f x):(xs.set j y).map f=xs.map f:=by
 rw[Ww,e];apply Wv;intro i;rw[Vs];split
 .rename_i h;subst h;split
  .rw[Xq,m];rfl
  .rename_i l;rw[ZC (by lia)]
 .rfl
theorem RunAt.boat{M M':MH}{W:Wld}{r:Addr}{R:RunS}{Z mm':Nat->Int}(h:RunAt M W r R Z){j:Nat}{f:Fer}{x y:Boat}(A:W.fer[j]?=some f)(m:R.bs[j]?=some x)(fr:FrM M M' x.ads)(E:BoatAt M' f W.w (mm' j) y)(F:y.b=x.b)(G:y.gl=x.gl)(J:y.tl=x.tl)(ad:∀a∈y.ads,a∈x.ads\/M a=none)(Q:∀i,i≠j->Z i<=mm' i):
  RunAt M' W r {R with bs:=R.bs.set j y} mm'/\Kept M M' r R {R with bs:=R.bs.set j y}:=by
 have B:=h.ba j f x A m;have dic:∀a q,M a=some (.dic q)->M' a=some (.dic q):=λa q e=>fr a _ e (B.dic e);have S:(R.bs.set j y).map (λx=>MV.ref x.b)=R.bs.map λx=>MV.ref x.b:=Hw m (by rw[F])
 have X:(R.bs.set j y).map (λx=>MV.ref x.gl)=R.bs.map λx=>MV.ref x.gl:=Hw m (by rw[G])
 have H:(R.bs.set j y).map (λx=>MV.ref x.tl)=R.bs.map λx=>MV.ref x.tl:=Hw m (by rw[J])
 have off:∀(i:Nat)z,i≠j->R.bs[i]?=some z->∀a∈z.ads,a∉y.ads:=λi z p u a l O=>by
  rcases ad a O with c|c
  .exact h.sep i j z x p u m a l c
  .have T:i<W.fer.length:=by rw[<-h.bl];exact(XF.mp u).1
   obtain⟨o,e,_⟩:=(h.ba i _ z (X8 T) u).at_ a l;rw[e]at c;cases c
 refine⟨⟨fr _ _ h.ob (B.run h.ob),dic _ _ h.hn,dic _ _ h.hw,dic _ _ h.hs,?_,?_,?_,h.nl,h.wl,h.sl,by show(R.bs.set j y).length=_;rw[Uw];exact h.bl,h.nb,λi I a v l=>let⟨k,e,o⟩:=h.wa i I a v l;⟨k,dic _ _ e,o⟩,λi g z U u=>?_,λi C z D p u Y=>?_,h.nd⟩,⟨λa o l s=>fr a o l λc=>s ?_,λa l=>?_⟩⟩
 .show M' R.pb=some (.dic (zipK W.fns ((R.bs.set j y).map λx=>MV.ref x.b)));rw[S];exact dic _ _ h.hb
 .show M' R.pg=some (.dic (zipK W.fns ((R.bs.set j y).map λx=>MV.ref x.gl)));rw[X];exact dic _ _ h.hg
 .show M' R.pt=some (.dic (zipK W.fns ((R.bs.set j y).map λx=>MV.ref x.tl)));rw[H];exact dic _ _ h.ht
 .rcases _a u with⟨rfl,rfl⟩|⟨p,u⟩
  .rw[A]at U;cases U;exact E
  .exact(h.ba i g z U u).fr (Q i p) λa l o e=>fr a o e λc=>h.sep i j z x p u m a l c
 .rcases _a u with⟨n,L⟩|⟨b,L⟩<;>rcases _a Y with⟨e2,N⟩|⟨n2,N⟩
  .exact absurd (n.trans e2.symm) p
  .subst L;exact λa l hb=>off C D n2 N a hb l
  .subst N;exact off i z b L
  .exact h.sep i C z D p L N
 .exact XM _ (XM _ (XM _ (XM _ (Uv.mpr ⟨x,Xo m,c⟩))))
 .simp only[RunS.own,Xk,Uv]at l ⊢;rcases l with c|c|c|c|⟨z,u,c⟩
  .exact .inl (.inl c)
  .exact .inl (.inr (.inl c))
  .exact .inl (.inr (.inr (.inl c)))
  .exact .inl (.inr (.inr (.inr (.inl c))))
  .obtain⟨i,T,rfl⟩:=Y5 u;rcases _a (X8 T)with⟨_,e⟩|⟨_,e⟩
   .rw[e]at c;exact(ad a c).imp (λd=>.inr (.inr (.inr (.inr ⟨x,Xo m,d⟩)))) id
   .exact .inl (.inr (.inr (.inr (.inr ⟨_,Xo e,c⟩))))
noncomputable def askO(o:Option Stp)(ρ:Str->Int)(w:Nat):MV:=match o with
 |none=>.non
 |some (.take f _)=>.tup [.str "take",.str f]
 |some (.give f T)=>.tup [.str "give",.str f,.int (T.val ρ w)]
 |some _=>.tup [.str "own"]
theorem _qL(j:List Stp)(ρ:Str->Int)(w i:Nat):dueM j ρ w i=askO j[i]? ρ w:=rfl
noncomputable def Zb(o:Option Stp):MV:=match o with
 |none=>.tup [.str "done"]
 |some (.take f _)=>.tup [.str "wait",.str f]
 |some (.give f _)=>.tup [.str "wait",.str f]
 |some _=>.tup [.str "own"]
noncomputable def XI(o:Option Stp)(z:Str):Bool:=match o with
 |some (.take f _)=>decide (f=z)
 |some (.give f _)=>decide (f=z)
 |_=>false
abbrev Vf:SpM:=λj M Q=>∃(o:Option Stp) (l:Str->Int) (w:Nat),j=[askO o l w]/\Q (Zb o) M
theorem _9p:MonW Vf:=by walk_at "m"
theorem _dJ(T:Txt K mg t):FnOk P w K mg base CX0 1 t.dA t.fz ["asked"] (liSp K Vf):=by
 refine T.bJ.F.okM _dB (fC (G:=OE) (Φ:=[]) T rfl nl0 nl0) G5 _e8 (λj M Q h=>?_) (λj M Q h=>?_)
 .obtain⟨_,_,_,rfl,_⟩:=h;rfl
 obtain⟨o,l,k,rfl,q⟩:=h;show wSs _ _ _ [some (askO o l k)] M;delta G5 OD;rcases o with _|s
 .simp only[askO];simp!;delta OC;simp!;exact q
 .cases s<;>simp only[askO]<;>simp!<;>rw[OB]<;>simp!<;>first|(rw[OA];simp!;exact q)|(rw[Oz];simp!;exact q)
abbrev Wd:SpM:=λj M Q=>∃(o:Option Stp) (l:Str->Int) (w:Nat) (z:Str),j=[askO o l w,.str z]/\Q (.bl (XI o z)) M
theorem _9r:MonW Wd:=by walk_at "m"
theorem _dL(T:Txt K mg t):FnOk P w K mg base CX0 1 t.i0 t.iF ["asked","ferry_name"] (liSp K Wd):=by
 refine T.bZ.F.okM _dE (fC (G:=OG) (Φ:=[]) T rfl nl0 nl0) G6 _eb (λj M Q h=>?_) (λj M Q h=>?_)
 .obtain⟨_,_,_,_,rfl,_⟩:=h;rfl
 obtain⟨o,l,k,z,rfl,q⟩:=h;show wSs _ _ _ [some (askO o l k),some (.str z)] M;delta G6 OF;rcases o with _|s
 .simp only[askO];simp!;exact q
 .cases s<;>simp only[askO]<;>simp!<;>exact q
abbrev Hx:SpM:=λl M Q=>∃(z:Str) (e:Addr) (j:List (Key×MV)),l=[.str z,.ref e]/\M e=some (.dic j)/\(valM j (Xs z)).isSome=true/\Q .non M
theorem _5C:MonW Hx:=by walk_at "m"
theorem _8w(T:Txt K mg t):FnOk P w K mg base CX0 1 t.bw t.bg ["name","known"] (liSp K Hx):=by
 refine T.ao.F.okM KQ (_N (P:=P) (w:=w) (K:=K) (mg:=mg) (base:=base) (k:=0) (G:=FO) (Φ:=[]) (Ψ:=[]) (Χ:=[]) rfl (_O T) (_P T) rfl nl0 nl0 nl0 nl0 (_Q T)) By Nf (λj M Q h=>?_) (λj M Q h=>?_)
 .obtain⟨z,a,m,rfl,_⟩:=h;rfl
 obtain⟨z,a,l,rfl,u,y,q⟩:=h;show wSs _ _ _ [some (.str z),some (.ref a)] M;delta By FN;simp!;refine .inr ⟨_,_,u,rfl,?_⟩;rw[y];simp!;exact q
theorem Wld.Good.in_nd{W:Wld}(G:W.Good):W.ins.Nodup:=(Zg.mp G.nd).2.1
theorem Wld.Good.fn_nd{W:Wld}(G:W.Good):W.fns.Nodup:=(Zg.mp G.nd).1
theorem _V{W:Wld}{i:Nat}{I:Isl}(h:W.isl[i]?=some I):W.ins[i]?=some I.name:=by unfold Wld.ins;rw[Xq,h];rfl
theorem We{W:Wld}{i:Nat}{f:Fer}(h:W.fer[i]?=some f):W.fns[i]?=some f.name:=by unfold Wld.fns;rw[Xq,h];rfl
theorem Vg{W:Wld}:W.ins.length=W.isl.length:=by unfold Wld.ins;rw[Xd]
theorem BP{W:Wld}:W.fns.length=W.fer.length:=by unfold Wld.fns;rw[Xd]
theorem Sw{fs j:List Str}{n:Nat}{s:Stp}(h:ZS fs j n s):s.ok j n:=by
 cases s with
 |take f x=>exact h.2
 |give f T=>exact h.2
 |put x T=>exact h
 |jump T i=>exact h
section
variable{M:MH}{W:Wld}{r:Addr}{R:RunS}{mm:Nat->Int}
theorem RunAt.gvl(h:RunAt M W r R mm)(G:W.Good){j:Nat}{f:Fer}{x:Boat}(l:W.fer[j]?=some f)(u:R.bs[j]?=some x):valM (zipK W.fns (R.bs.map λx=>MV.ref x.gl)) (Xs f.name)=some (.ref x.gl):=UL G.fn_nd (We l) (by rw[Xq,u];rfl)
theorem RunAt.tkl(h:RunAt M W r R mm)(G:W.Good){j:Nat}{f:Fer}{x:Boat}(l:W.fer[j]?=some f)(u:R.bs[j]?=some x):valM (zipK W.fns (R.bs.map λx=>MV.ref x.tl)) (Xs f.name)=some (.ref x.tl):=UL G.fn_nd (We l) (by rw[Xq,u];rfl)
theorem RunAt.btl(h:RunAt M W r R mm)(G:W.Good){j:Nat}{f:Fer}{x:Boat}(l:W.fer[j]?=some f)(u:R.bs[j]?=some x):valM (zipK W.fns (R.bs.map λx=>MV.ref x.b)) (Xs f.name)=some (.ref x.b):=UL G.fn_nd (We l) (by rw[Xq,u];rfl)
theorem RunAt.nml(h:RunAt M W r R mm)(G:W.Good){i n:Nat}{I:Isl}(j:W.isl[i]?=some I)(l:R.nums[i]?=some n):valM (zipK W.ins (R.nums.map natM)) (Xs I.name)=some (.int n):=UL G.in_nd (_V j) (by rw[Xq,l];rfl)
theorem RunAt.wdl(h:RunAt M W r R mm)(G:W.Good){i:Nat}{a:Addr}{I:Isl}(j:W.isl[i]?=some I)(l:R.ws[i]?=some a):valM (zipK W.ins (R.ws.map MV.ref)) (Xs I.name)=some (.ref a):=UL G.in_nd (_V j) (by rw[Xq,l];rfl)
theorem RunAt.dnl(h:RunAt M W r R mm)(G:W.Good){i n:Nat}{I:Isl}(j:W.isl[i]?=some I)(l:R.dn[i]?=some n):valM (zipK W.ins (R.dn.map natM)) (Xs I.name)=some (.int n):=UL G.in_nd (_V j) (by rw[Xq,l];rfl)
set_option tactic.hygienic true in
theorem RunAt.went(h:RunAt M W r R mm){M':MH}{i n d:Nat}{I:Isl}{p:Addr}{c:List (Key×MV)}(E:W.isl[i]?=some I)(q:n<=I.stps.length)(F:M p=none)(fr:∀a o,M a=some o->a≠R.pn->a≠R.pw->a≠R.ps->M' a=some o)(hk:M' p=some (.dic c))(wk:WdOk W.w I c)
  (h1:M' R.pn=some (.dic (zipK W.ins ((R.nums.set i n).map natM))))(h2:M' R.pw=some (.dic (zipK W.ins ((R.ws.set i p).map MV.ref))))(h3:M' R.ps=some (.dic (zipK W.ins ((R.dn.set i d).map natM)))):
  RunAt M' W r {R with nums:=R.nums.set i n,ws:=R.ws.set i p,dn:=R.dn.set i d} mm/\Kept M M' r R {R with nums:=R.nums.set i n,ws:=R.ws.set i p,dn:=R.dn.set i d}:=by
 have G:=h.nd;simp only[Yp,Xk,not_or]at G;obtain⟨⟨a1,a2,Q,S,X,H⟩,⟨b2,v,s,b5,b6⟩,⟨c3,c4,c5,c6⟩,⟨d4,d5,d6⟩,⟨e5,e6⟩,f6,U⟩:=G;have Y:∀a y,M a=some (.dic y)->a≠r:=λa y e z=>by subst z;rw[h.ob]at e;cases e
 have Z:∀(k:Nat)a,R.ws[k]?=some a->a≠R.pn/\a≠R.pw/\a≠R.ps:=λk a u=>⟨λz=>H (z▸Xo u),λz=>b6 (z▸Xo u),λz=>c6 (z▸Xo u)⟩;have A:∀a o,M a=some o->a≠p:=λa o e=>neM e F;refine⟨⟨fr _ _ h.ob (Y _ _ h.hn).symm (Y _ _ h.hw).symm (Y _ _ h.hs).symm,h1,h2,h3,fr _ _ h.hb (XT Q) (XT v) (XT c3),fr _ _ h.hg (XT S) (XT s) (XT c4),fr _ _ h.ht (XT X) (XT b5) (XT c5),by show(R.nums.set i n).length=_;rw[Uw];exact h.nl,by show(R.ws.set i p).length=_;rw[Uw];exact h.wl,by show(R.dn.set i d).length=_;rw[Uw];exact h.sl,h.bl,λk J m L B=>?_,λk J a L u=>?_,λj f x hf C=>?_,h.sep,?_⟩,⟨λa o u q=>fr a o u ?_ ?_ ?_,λa u=>.inl u⟩⟩
 .rcases _a B with⟨rfl,rfl⟩|⟨_,B⟩
  .rw[E]at L;cases L;exact q
  .exact h.nb k J m L B
 .rcases _a u with⟨rfl,rfl⟩|⟨_,u⟩
  .rw[E]at L;cases L;exact⟨c,hk,wk⟩
  .obtain⟨y,e,o⟩:=h.wa k J a L u;obtain⟨n1,n2,n3⟩:=Z k a u;exact⟨y,fr _ _ e n1 n2 n3,o⟩
 .have C:R.bs[j]?=some x:=C;have b:=h.ba j f x hf C;exact b.fr (ZH _) λa u o e=>fr a o e (λz=>b.dic (z▸h.hn) u) (λz=>b.dic (z▸h.hw) u) (λz=>b.dic (z▸h.hs) u)
 .have O:∀a y,M a=some (.dic y)->a≠p:=λa y e=>A a _ e;have ms:∀a,a∈R.ws.set i p->a∈R.ws\/a=p:=λa u=>DM u;have T:p∉R.ws:=λz=>by
   obtain⟨k,g,e⟩:=Y5 z;have hi:k<W.isl.length:=by rw[<-h.wl];exact g
   obtain⟨y,e2,_⟩:=h.wa k _ _ (X8 hi) (X8 g);rw[e,F]at e2;cases e2
  have D:(R.ws.set i p).Nodup:=by
   refine List.pairwise_iff_getElem.mpr λk l g hl kl e=>?_;rw[Uw]at g hl;rw[DZ,DZ]at e;split at e<;>split at e
   .rename_i z1 z2;lia
   .exact T (e▸XU hl)
   .exact T (e.symm▸XU g)
   .have:=(C7 U).mp e;lia
  have N:∀a y,M a=some (.dic y)->a∉R.ws->a∉R.ws.set i p:=λa y e q z=>(ms a z).elim q (O a y e);show(R.pn::R.pw::R.ps::R.pb::R.pg::R.pt::R.ws.set i p).Nodup;simp only[Yp,Xk,not_or];exact⟨⟨a1,a2,Q,S,X,N _ _ h.hn H⟩,⟨b2,v,s,b5,N _ _ h.hw b6⟩,⟨c3,c4,c5,N _ _ h.hs c6⟩,⟨d4,d5,N _ _ h.hb d6⟩,⟨e5,N _ _ h.hg e6⟩,N _ _ h.ht f6,D⟩
 .exact λz=>q (by simp[RunS.own,z])
 .exact λz=>q (by simp[RunS.own,z])
 .exact λz=>q (by simp[RunS.own,z])
end
abbrev Vh:SpM:=λl M Q=>∃(e:Addr) (j:List (Key×MV)) (z:Str) (v:MV),l=[.ref e,.str z]/\M e=some (.dic j)/\valM j (Xs z)=some v/\Q v M
theorem BQ:MonW Vh:=by walk_at "m"
theorem BR(T:Txt K mg t):FnOk P w K mg base CX0 2 t.ei t.dF ["named","name"] (liSp K Vh):=by
 refine T.aE.F.okM _es (fC (G:=OJ) (Φ:=[("refuse_unknown",Hx)]) T rfl (fMc ⟨_5C,nl0⟩) (fMc ⟨⟨_,_,_,FnOk.mono (_8w T) (by decide),T.ao.m,T.ao.F.kp,T.ao.b⟩,nl0⟩)) G7 _fm (fun y M Q h=>?_) (fun y M Q h=>?_)
 .obtain⟨_,_,_,_,rfl,_⟩:=h;rfl
 obtain⟨e,j,z,v,rfl,l,u,q⟩:=h;show wSs _ _ _ [some (.ref e),some (.str z)] M;delta G7 OI;simp!;refine⟨z,e,j,rfl,l,by rw[u];rfl,?_⟩
 delta OH
 simp![l,u]
 exact q
abbrev Wf:SpM:=λl M Q=>∃(r:Addr) (W:Wld) (R:RunS) (u:Nat->Int) (j:Nat) (f:Fer) (x:Boat),l=[.ref r,.str f.name]/\W.Good/\RunAt M W r R u/\W.fer[j]?=some f/\R.bs[j]?=some x/\∀p,M p=none->Q (.ref p) (updM M p (.lst (x.A.ws.map natM)))
theorem Sx:MonW Wf:=by walk_at "m"
theorem _eV(T:Txt K mg t):FnOk P w K mg base CX0 3 t.bT t.c8 ["self","name"] (liSp K Wf):=by
 refine T.cN.okM _eC (fC (G:=Pw) (Φ:=[("looked_up",Vh)]) T rfl (fMc ⟨BQ,nl0⟩) (fMc ⟨fE T.aE (BR T),nl0⟩)) Gi _fw (fun y M Q h=>?_) (fun y M Q h=>?_)
 .obtain⟨_,_,_,_,_,_,_,rfl,_⟩:=h;rfl
 obtain⟨r,W,R,g,j,f,x,rfl,G,h,l,u,q⟩:=h;show wSs _ _ _ [some (.ref r),some (.str f.name)] M;have z:=h.ob;have m:=(h.ba j f x l u).gv;delta Gi Pv
 simp![z,runO,valM]
 refine⟨_,_,_,_,rfl,h.hg,h.gvl G l u,?_⟩
 simp![m]
 exact q
abbrev Wg:SpM:=λl M Q=>∃(r:Addr) (W:Wld) (R:RunS) (u:Nat->Int) (j:Nat) (f:Fer) (x:Boat),l=[.ref r,.str f.name]/\W.Good/\RunAt M W r R u/\W.fer[j]?=some f/\R.bs[j]?=some x/\∀p,M p=none->Q (.ref p) (updM M p (.lst ((x.A.ws.take x.A.tn).map natM)))
theorem Sy:MonW Wg:=by walk_at "m"
theorem _eT(T:Txt K mg t):FnOk P w K mg base CX0 3 t.cj t.cc ["self","name"] (liSp K Wg):=by
 refine T.gL.okM _eA (fC (G:=Py) (Φ:=[("looked_up",Vh)]) T rfl (fMc ⟨BQ,nl0⟩) (fMc ⟨fE T.aE (BR T),nl0⟩)) Gj _fu (fun y M Q h=>?_) (fun y M Q h=>?_)
 .obtain⟨_,_,_,_,_,_,_,rfl,_⟩:=h;rfl
 obtain⟨r,W,R,g,j,f,x,rfl,G,h,l,u,q⟩:=h;show wSs _ _ _ [some (.ref r),some (.str f.name)] M;have z:=h.ob;have m:=(h.ba j f x l u).tk;delta Gj Px
 simp![z,runO,valM]
 refine⟨_,_,_,_,rfl,h.ht,h.tkl G l u,?_⟩
 simp![m]
 exact q
theorem _lm{W:Wld}{I:Isl}{i:Nat}{s:Stp}(ok:IslOk W.w W.fns I)(u:I.stps[i]?=some s)(ρ:Str->Int):∃n:Nat,Zs s ρ W.w i=(n:Int)/\n<=I.stps.length:=by
 have y:=(XF.mp u).1;have st:=ok.st s (Xo u);have l:∃n:Nat,(i:Int)+1=(n:Int)/\n<=I.stps.length:=⟨i+1,by lia,y⟩
 cases s with
 |jump T j=>
  unfold Zs;by_cases c:T.val ρ W.w≠0
  .simp only[if_pos c];exact⟨j.toNat,by have:=st.2.1;lia,by have:=st.2.1;have:=st.2.2;lia⟩
  .simp only[if_neg c];exact l
 |take _ _=>exact l
 |give _ _=>exact l
 |put _ _=>exact l
theorem _ke{W:Wld}{I:Isl}{s:Stp}{j:List (Key×MV)}{wd:MV}(u:1<=W.w)(ok:IslOk W.w W.fns I)(z:s∈I.stps)(l:WdOk W.w I j)(hw:∀f x,s=.take f x->∃v:Int,wd=.int v/\0<=v/\v<2^W.w):WdOk W.w I (Uh s j (rhoK j) W.w wd):=by
 have st:=ok.st s z;cases s with
 |take f x=>
  obtain⟨v,rfl,m⟩:=hw f x rfl;exact l.put ok.nd st.2 m
 |put x T=>exact l.put ok.nd st.1 (T.val_in u λy g=>(l.at ok.nd (st.2.2.2 y g)).2)
 |give _ _=>exact l
 |jump _ _=>exact l
noncomputable def goR(R:RunS)(i n p d:Nat):RunS:={R with nums:=R.nums.set i n,ws:=R.ws.set i p,dn:=R.dn.set i (d+1)}
abbrev UM:SpM:=λm M Q=>∃(r:Addr) (W:Wld) (R:RunS) (z:Nat->Int) (i n:Nat) (I:Isl) (s:Stp) (u:MV) (a:Addr) (j:List (Key×MV)),m=[.ref r,.str I.name,.tup (I.stps.map Stp.mv),u]/\W.Good/\RunAt M W r R z/\W.isl[i]?=some I/\R.nums[i]?=some n/\I.stps[n]?=some s/\(∀f x,s=.take f x->∃v:Int,u=.int v/\0<=v/\v<2^W.w)/\R.ws[i]?=some a/\M a=some (.dic j)/\
 ∀y p d l,R.dn[i]?=some d->Zs s (rhoK j) W.w n=((y:Nat):Int)->M p=none->l p=some (.dic (Uh s j (rhoK j) W.w u))->RunAt l W r (goR R i y p d) z->Kept M l r R (goR R i y p d)->Q .non l
theorem _aQ:MonW UM:=by walk_at "m"
theorem _eU(T:Txt K mg t):FnOk P w K mg base CX0 52 t.bR t.bU ["self","name","steps","word"] (liSp K UM):=by
 refine T.fk.okM _eB (fC (G:=Po) (Φ:=[("after",GG)]) T rfl (fMc ⟨_eZ,nl0⟩) (fMc ⟨fE T.bW (_le T),nl0⟩)) Ge _fv (fun f M Q h=>?_) (fun f M Q h=>?_)
 .obtain⟨_,_,_,_,_,_,_,_,_,_,_,rfl,_⟩:=h;rfl
 obtain⟨r,W,R,mm,i,n,I,s,J,a,j,rfl,G,h,l,hn,S,hw,ha,hk,q⟩:=h;show wSs _ _ _ [some (.ref r),some (.str I.name),some (.tup (I.stps.map Stp.mv)),some J,none] M;have hi:i<W.isl.length:=(XF.mp l).1;have i5:=G.i5;have ok:=G.io I (Xo l);obtain⟨d,hd⟩:∃d,R.dn[i]?=some d:=⟨_,X8 (by rw[h.sl];exact hi)⟩
 obtain⟨X,L,H⟩:=h.wa i I a l ha;obtain rfl:j=X:=by rw[hk]at L;cases L;rfl
 have v:=h.ob;have u:=h.hn;have y:=h.hw;have g:=h.hs;have vn:=h.nml G l hn;have vw:=h.wdl G l ha;have vd:=h.dnl G l hd;have nd:=h.nd;simp only[Yp,Xk,not_or]at nd;obtain⟨⟨a1,a2,_⟩,⟨b2,_⟩,_⟩:=nd;have x:∀b kv,M b=some (.dic kv)->r≠b:=λb kv e z=>by subst z;rw[v]at e;cases e
 have r1:=x _ _ u;have r2:=x _ _ y;have r3:=x _ _ g;have lz:∀f:List MV,f.length=W.isl.length->(zipK W.ins f).length<16777216:=λf e=>by rw[Hs (by rw[Vg];exact e),Vg];lia
 delta Ge Pn
 simp![v,runO,valM,Wld.mv,u,y,vn,vw]
 refine⟨_,a,I.stps,n,W.w,j,rhoK j,I.vars,s,J,rfl,.inl rfl,S,Sw (ok.st s (Xo S)),G.w1,G.w2,hk,by rw[H.len];unfold Isl.vars;rw[Xd];have:=ok.nv;lia,H.reads ok.nd,λp c=>?_⟩
 obtain⟨m,N,hn2⟩:=_lm ok S (rhoK j);replace q:=λp d M' h=>q m p d M' h N;rw[N];have wk':=_ke (wd:=J) G.w1 ok (Xo S) H hw;generalize Uh s j (rhoK j) W.w J=kvs' at*;have O:=SameM.new c (.dic kvs');have hk1:updM M p (.dic kvs') p=some (.dic kvs'):=X9;have pn:R.pn≠p:=neM u c;have pw:R.pw≠p:=neM y c;have ps:R.ps≠p:=neM g c;have U:=O _ _ v;have Y:=O _ _ u;have Z:=O _ _ y;have C:=O _ _ g;generalize updM M p _=M1 at*;delta Pl
 simp![U,runO,valM,Y]
 refine⟨lz _ (by rw[Xd];exact h.nl),?_⟩
 rw[BO (i:=i) (by rw[Xd,Vg];exact h.nl) G.in_nd (_V l)]
 have e1:(R.nums.map natM).set i (.int m)=(R.nums.set i m).map natM:=by rw[Ww]
 rw[e1];have D:updM M1 R.pn (.dic (zipK W.ins ((R.nums.set i m).map natM))) r=_:=(Xc r1).trans U;have E:updM M1 R.pn (.dic (zipK W.ins ((R.nums.set i m).map natM))) R.pn=_:=X9;have hw2:updM M1 R.pn (.dic (zipK W.ins ((R.nums.set i m).map natM))) R.pw=_:=(Xc (XT a1)).trans Z;have hs2:updM M1 R.pn (.dic (zipK W.ins ((R.nums.set i m).map natM))) R.ps=_:=(Xc (XT a2)).trans C;have hk2:updM M1 R.pn (.dic (zipK W.ins ((R.nums.set i m).map natM))) p=_:=(Xc (XT pn)).trans hk1;have f2:∀b o,M1 b=some o->b≠R.pn->updM M1 R.pn (.dic (zipK W.ins ((R.nums.set i m).map natM))) b=some o:=λb o e z=>(Xc z).trans e;generalize updM M1 R.pn _=M2 at*;delta Pk
 simp![D,runO,valM,hw2]
 refine⟨lz _ (by rw[Xd];exact h.wl),?_⟩
 rw[BO (i:=i) (by rw[Xd,Vg];exact h.wl) G.in_nd (_V l)]
 have e2:(R.ws.map MV.ref).set i (.ref p)=(R.ws.set i p).map MV.ref:=by rw[Ww]
 rw[e2];have ob3:updM M2 R.pw (.dic (zipK W.ins ((R.ws.set i p).map MV.ref))) r=_:=(Xc r2).trans D;have hn3:updM M2 R.pw (.dic (zipK W.ins ((R.ws.set i p).map MV.ref))) R.pn=_:=(Xc a1).trans E;have hw3:updM M2 R.pw (.dic (zipK W.ins ((R.ws.set i p).map MV.ref))) R.pw=_:=X9;have hs3:updM M2 R.pw (.dic (zipK W.ins ((R.ws.set i p).map MV.ref))) R.ps=_:=(Xc (XT b2)).trans hs2;have F:updM M2 R.pw (.dic (zipK W.ins ((R.ws.set i p).map MV.ref))) p=_:=(Xc (XT pw)).trans hk2;have f3:∀b o,M2 b=some o->b≠R.pw->updM M2 R.pw (.dic (zipK W.ins ((R.ws.set i p).map MV.ref))) b=some o:=λb o e z=>(Xc z).trans e;generalize updM M2 R.pw _=M3 at*;delta Pj
 simp![ob3,runO,valM,hs3,vd]
 refine⟨lz _ (by rw[Xd];exact h.sl),?_⟩
 rw[BO (i:=i) (by rw[Xd,Vg];exact h.sl) G.in_nd (_V l)]
 have e3:(R.dn.map natM).set i (.int ((d:Int)+1))=(R.dn.set i (d+1)).map natM:=by rw[Ww];rfl
 rw[e3];obtain⟨A,B⟩:=h.went (M':=updM M3 R.ps (.dic (zipK W.ins ((R.dn.set i (d+1)).map natM)))) l hn2 c (λb o e z1 z2 z3=>(Xc z3).trans (f3 b o (f2 b o (O b o e) z1) z2)) ((Xc (XT ps)).trans F) wk' ((Xc a2).trans hn3) ((Xc b2).trans hw3) X9;exact q p d _ hd c ((Xc (XT ps)).trans F) A B
def ZqW(w:Nat)(f:Fer)(o:Option Stp)(ρ:Str->Int)(v:MV):Prop:=v=.non\/(∃T,o=some (.give f.name T)/\v=askO o ρ w)\/∃(x:Str) (n:Nat),o=some (.take f.name x)/\n<2^w/\v=.tup [.str "take",.str f.name,.int n]
noncomputable def Ul(w:Nat)(f:Fer)(o:Option Stp)(ρ:Str->Int):Option Nat:=match o with
 |some (.give g T)=>if g=f.name then some (T.val ρ w).toNat else none
 |_=>none
def ZW(w:Nat)(f:Fer)(z:Str)(m:Int)(c:Nat)(o:Option Stp)(ρ:Str->Int)(A:Ab):Ab:=if f.giver=z then A.giver m c (Ul w f o ρ)else A.taker m c (XI o f.name)
def smpA(f:Fer)(z:Str)(c:Nat)(A:Ab):Nat:=if f.giver=z then Xi A.k (A.gSamp c)else Xi A.k (A.tSamp c)
def hitA(w:Nat)(f:Fer)(z:Str)(o:Option Stp)(ρ:Str->Int)(A:Ab):Bool:=if f.giver=z then A.gives (Ul w f o ρ)else A.takes (XI o f.name)
def YG(w:Nat)(f:Fer)(z:Str)(o:Option Stp)(ρ:Str->Int)(A:Ab):MV:=if hitA w f z o ρ A=true then(if f.giver=z then askO o ρ w else .tup [.str "take",.str f.name,.int (A.ws.getD A.tn 0:Nat)])else .non
abbrev Vi:SpM:=λd M Q=>∃(r:Addr) (W:Wld) (R:RunS) (u:Nat->Int) (j:Nat) (f:Fer) (z:Str) (c:Nat) (o:Option Stp) (l:Str->Int) (x:Boat),d=[.ref r,f.mv,.str z,.int c,askO o l W.w]/\W.Good/\RunAt M W r R u/\u j<=R.m/\W.fer[j]?=some f/\(z=f.giver\/z=f.taker)/\(∀s,o=some s->ZT W.fer z s)/\(∀g T,o=some (.give g T)->0<=T.val l W.w/\T.val l W.w<2^W.w)/\(∀y∈R.bs,y.A.ws.length<=1000)/\R.bs[j]?=some x/\
 ∀y m,RunAt m W r {R with bs:=R.bs.set j y} (λi=>if i=j then R.m+1 else u i)->Kept M m r R {R with bs:=R.bs.set j y}->y.A=ZW W.w f z R.m c o l x.A->ZqW W.w f o l (YG W.w f z o l x.A)->Q (.tup [YG W.w f z o l x.A,.int (smpA f z c x.A:Nat)]) m
theorem _5S:MonW Vi:=by walk_at "m"
theorem _nj{w:Nat}{v:Int}(j:0<=v)(h1:v<2^w):∃n:Nat,v=(n:Int)/\n<2^w:=by
 refine⟨v.toNat,(U6 j).symm,?_⟩;have e:((2:Int)^w)=((2^w:Nat):Int):=by rw[WF];rfl
 lia
theorem _9n(T:Txt K mg t):FnOk P w K mg base CX0 5 t.bh t.bv ["self","ferry","name","choice","asked"] (liSp K Vi):=by
 refine T.iE.okM _9j (_N (k:=4) (G:=Pi) (Φ:=[("is_wish_of",Wd)]) (Ψ:=[("Ferry_ring_giver",Vd),("Ferry_ring_taker",Wa)]) (Χ:=[("is_wish_of",Wd),("Ferry_ring_giver",Vd),("Ferry_ring_taker",Wa)]) rfl (_O T) (_P T) rfl (fMc ⟨_9r,(fMc ⟨_53,(fMc ⟨_52,nl0⟩)⟩)⟩) (fMc ⟨fE T.bZ (_dL T),nl0⟩) (fMc ⟨⟨_,_,rfl,_,_,_,_,(FnOk.mono (_87 T) (by decide)),T.aC,T.aH,T.fK,T.dM⟩,(fMc ⟨⟨_,_,rfl,_,_,_,_,(FnOk.mono (_86 T) (by decide)),T.aC,T.aH,T.cM,T.dR⟩,nl0⟩)⟩) nl0 (_Q T)) Gd _9D (fun vs M Q h=>?_) (fun vs M Q h=>?_)
 .obtain⟨_,_,_,_,_,_,_,_,_,_,_,rfl,_⟩:=h;rfl
 obtain⟨r,W,R,O,j,f,z,c,o,l,x,rfl,G,h,C,B,hz,hE,hT,hL,D,q⟩:=h;show wSs _ _ _ [some (.ref r),some f.mv,some (.str z),some (.int c),some (askO o l W.w),none,none,none] M;have hj:j<W.fer.length:=(XF.mp B).1;have fm:f∈W.fer:=Xo B;have fok:=G.fo f fm;have b:=h.ba j f x B D;have xl:=hL x (Xo D);have ob:=h.ob;have hb:=h.hb;have hg:=h.hg;have ht:=h.ht;have vb:=h.btl G B D;have vg:=h.gvl G B D;have vt:=h.tkl G B D;have fe:=b.fy.fe;have E:∀i,i≠j->O i<=(λi=>if i=j then R.m+1 else O i) i:=λi ne=>by simp[ne]
 have m1:(λi=>if i=j then R.m+1 else O i) j=R.m+1:=by simp
 have jO:∀d,FrM M d [x.b,x.g,x.u]->∀a kv,M a=some (.dic kv)->d a=some (.dic kv):=λd fr a kv e=>fr a _ e λc=>b.dic e (by
  simp only[Boat.ads,Xk,XJ,or_false]at c ⊢;rcases c with c|c|c<;>simp[c])
 have jP:∀d,FrM M d [x.b,x.g,x.u]->d r=some (runO W R):=λd fr=>fr _ _ ob λc=>b.run ob (by
  simp only[Boat.ads,Xk,XJ,or_false]at c ⊢;rcases c with c|c|c<;>simp[c])
 have glo:x.gl∉ [x.b,x.g,x.u]:=Sc b.fy b.gv;have tlo:x.tl∉ [x.b,x.g,x.u]:=Sc b.fy b.tk;have F:∀d,FrM M d [x.b,x.g,x.u]->FrM M d x.ads:=λd fr a o e U=>fr a o e λc=>U (by
  simp only[Boat.ads,Xk,XJ,or_false]at c ⊢;rcases c with c|c|c<;>simp[c])
 delta Gd Ph
 simp![ob,runO,valM,Fer.mv,hb,vb]
 delta Pg
 simp![Fer.mv]
 refine⟨o,l,W.w,f.name,rfl,?_⟩;delta Pf
 simp![Fer.mv]
 refine Y3 (λN=>?_) (λN=>?_)
 . -- the giver's end
  have S:XI o f.name=true->∃T,o=some (.give f.name T):=λe=>by
   rcases o with _|s
   .cases e
   .cases s with
    |take g y=>
     obtain rfl:g=f.name:=of_decide_eq_true e;exact absurd (N.trans ((hE _ rfl) f fm rfl).symm) fok.ne
    |give g T=>
     obtain rfl:g=f.name:=of_decide_eq_true e;exact⟨T,rfl⟩
    |put _ _=>cases e
    |jump _ _=>cases e
  have go:∀(m:Option Nat)(v:MV),v=wM m->Ul W.w f o l=m->(m=none\/∃T n,o=some (.give f.name T)/\askO o l W.w=.tup [.str "give",.str f.name,.int ((n:Nat):Int)]/\m=some n/\n<2^W.w)->
    Vd [.ref x.b,.int R.m,.int c,v] M (fun v1 M1=>wSs ([("is_wish_of",Wd),("Ferry_ring_giver",Vd),("Ferry_ring_taker",Wa)]:List (Str×SpM)) Gc {nx:=fun σ M=>wSs ([("is_wish_of",Wd),("Ferry_ring_giver",Vd),("Ferry_ring_taker",Wa)]:List (Str×SpM)) Gb {nx:=fun _ d=>Q .non d,rt:=Q} σ M,rt:=Q} [some (.ref r),some f.mv,some (.str z),some (.int c),some (askO o l W.w),some (.ref x.b),some (.bl (XI o f.name)),some v1] M1):=by
   intro m v hv eN hxo;subst hv;have eR:x.A.giver R.m c m=ZW W.w f z R.m c o l x.A:=by rw[ZW,if_pos N,eN]
   have eS:smpA f z c x.A=Xi x.A.k (x.A.gSamp c):=if_pos N;have eH:hitA W.w f z o l x.A=x.A.gives m:=by rw[hitA,if_pos N,eN]
   refine⟨x.b,x.p,x.g,x.u,x.A,R.m,c,m,rfl,b.fy,VG b.gm C,VG b.tm C,λX M1 H fr fy=>?_⟩;have p:=fr _ _ b.gv glo;have L:=fr _ _ b.tk tlo;have n1:x.gl≠X:=neM b.gv H;have n2:x.tl≠X:=neM b.tk H;have ads:∀(A:Ab),∀a∈(⟨x.b,X,x.g,x.u,x.gl,x.tl,A⟩:Boat).ads,a∈x.ads\/M a=none:=λA a ha=>by
    simp only[Boat.ads,Xk,XJ,or_false]at ha ⊢;rcases ha with e|e|e|e|e|e
    .exact .inl (.inl e)
    .exact .inr (e▸H)
    .exact .inl (.inr (.inr (.inl e)))
    .exact .inl (.inr (.inr (.inr (.inl e))))
    .exact .inl (.inr (.inr (.inr (.inr (.inl e)))))
    .exact .inl (.inr (.inr (.inr (.inr (.inr e)))))
   delta Gc;simp!;by_cases gvs:x.A.gives m=true
   .have Y:(x.A.giver R.m c m).ws=x.A.ws++[m.getD 0]:=if_pos gvs;rcases hxo with e|⟨T,n,I,ea,rfl,U⟩
    .subst e;cases gvs
    rw[gvs];have g1:=jO _ fr _ _ hg;have r1:=jP _ fr;simp!;delta Pc
    simp![Fer.mv,r1,runO,valM,g1,vg,p,ea]
    refine⟨⟨_,rfl⟩,by rw[Xd];lia,?_⟩
    have eM:x.A.ws.map natM++[MV.int (n:Int)]=(x.A.giver R.m c (some n)).ws.map natM:=by rw[Y,Y0];rfl
    rw[eM];have fy2:=fy.put p n1 ((x.A.giver R.m c (some n)).ws.map natM);have gl2:updM M1 x.gl (.lst ((x.A.giver R.m c (some n)).ws.map natM)) x.gl=_:=X9;have tl2:updM M1 x.gl (.lst ((x.A.giver R.m c (some n)).ws.map natM)) x.tl=_:=(Xc (XT b.n1.1)).trans L;have fr2:FrM M (updM M1 x.gl (.lst ((x.A.giver R.m c (some n)).ws.map natM))) x.ads:=λa o e U=>(Xc (λz=>U (by simp[Boat.ads,z]))).trans (F _ fr a o e U)
    generalize updM M1 x.gl _=M2 at*;delta Pb;simp!;have tn:(x.A.giver R.m c (some n)).tn<=x.A.ws.length:=by
     have:=b.fy.ok.lg1;have:=(b.fy.ok.tb _ (_v (by rw[b.fy.ok.tl];exact b.fy.ok.gl.1))).2
     have:=(b.fy.ok.tb _ (_v (by rw[b.fy.ok.tl];exact b.fy.ok.gl.1))).1
     have:=b.fy.ok.lt1;show x.A.tn<=_;lia
    have hy:BoatAt M2 f W.w (R.m+1) ⟨x.b,X,x.g,x.u,x.gl,x.tl,x.A.giver R.m c (some n)⟩:=⟨fy2,gl2,by
      show M2 x.tl=some (.lst (((x.A.giver R.m c (some n)).ws.take (x.A.giver R.m c (some n)).tn).map natM));rw[tl2,Y,HC tn];rfl,⟨b.n1.1,n1,n2⟩,b.k,by show R.m<R.m+1;lia,by show x.A.tm<R.m+1;have:=b.tm;lia,λu J=>by
      have J:u∈(x.A.giver R.m c (some n)).ws:=J;rw[Y]at J;rcases Yh.mp J with J|J
      .exact b.wd u J
      .obtain rfl:u=n:=by simpa using J
       exact U⟩
    obtain⟨A1,A2⟩:=h.boat (y:=⟨x.b,X,x.g,x.u,x.gl,x.tl,x.A.giver R.m c (some n)⟩) (mm':=λi=>if i=j then R.m+1 else O i) B D fr2 (by show BoatAt _ _ _ (if j=j then R.m+1 else O j) _;rw[if_pos rfl];exact hy) rfl rfl rfl (ads _) E
    rw[<-ea];have Z:YG W.w f z o l x.A=askO o l W.w:=by rw[YG,eH,if_pos gvs,if_pos N]
    have:=q _ M2 A1 A2 eR (Z▸.inr (.inl ⟨T,I,rfl⟩));rw[Z,eS]at this;exact this
   .have Y:(x.A.giver R.m c m).ws=x.A.ws:=if_neg gvs;rw[Bool.not_eq_true]at gvs;rw[gvs];simp!;delta Pd;simp!;have hy:BoatAt M1 f W.w (R.m+1) ⟨x.b,X,x.g,x.u,x.gl,x.tl,x.A.giver R.m c m⟩:=⟨fy,by
      show M1 x.gl=some (.lst ((x.A.giver R.m c m).ws.map natM));rw[Y];exact p,by
      show M1 x.tl=some (.lst (((x.A.giver R.m c m).ws.take (x.A.giver R.m c m).tn).map natM));rw[Y];exact L,⟨b.n1.1,n1,n2⟩,b.k,by show R.m<R.m+1;lia,by show x.A.tm<R.m+1;have:=b.tm;lia,by
      show∀u∈(x.A.giver R.m c m).ws,u<2^W.w;rw[Y];exact b.wd⟩
    obtain⟨A1,A2⟩:=h.boat (y:=⟨x.b,X,x.g,x.u,x.gl,x.tl,x.A.giver R.m c m⟩) (mm':=λi=>if i=j then R.m+1 else O i) B D (F _ fr) (by show BoatAt _ _ _ (if j=j then R.m+1 else O j) _;rw[if_pos rfl];exact hy) rfl rfl rfl (ads _) E
    have Z:YG W.w f z o l x.A=.non:=by rw[YG,eH,gvs];rfl
    have:=q _ M1 A1 A2 eR (Z▸.inl rfl);rw[Z,eS]at this;exact this
  delta Pe
  simp![fe,XW,valM,ob,runO]
  by_cases hw:XI o f.name=true
  .obtain⟨T,I⟩:=S hw;obtain⟨v0,v1⟩:=hT _ T I;obtain⟨n,en,U⟩:=_nj v0 v1;have ea:askO o l W.w=.tup [.str "give",.str f.name,.int (n:Int)]:=by rw[I];show MV.tup [.str "give",.str f.name,.int (T.val l W.w)]=_;rw[en]
   have:=go (some n) _ rfl (by subst I;show(if f.name=f.name then some (T.val l W.w).toNat else none)=some n;rw[if_pos rfl,en];rfl) (.inr ⟨T,n,I,ea,rfl,U⟩)
   rw[if_pos hw]
   simp![ea]
   rw[<-ea];exact this
  .have gn:Ul W.w f o l=none:=by
    rcases o with _|s
    .rfl
    .cases s with
     |give g T=>exact if_neg λe=>hw (decide_eq_true e)
     |take _ _=>rfl
     |put _ _=>rfl
     |jump _ _=>rfl
   have:=go none _ rfl gn (.inl rfl);rw[if_neg hw]
   try simp!
   exact this
 . -- the taker's end
  have zt:f.taker=z:=(hz.resolve_left λe=>N e.symm).symm;have S:XI o f.name=true->∃y,o=some (.take f.name y):=λe=>by
   rcases o with _|s
   .cases e
   .cases s with
    |take g y=>
     obtain rfl:g=f.name:=of_decide_eq_true e;exact⟨y,rfl⟩
    |give g T=>
     obtain rfl:g=f.name:=of_decide_eq_true e;exact absurd ((hE _ rfl) f fm rfl) N
    |put _ _=>cases e
    |jump _ _=>cases e
  delta Gb
  simp![fe,XW,valM,ob,runO]
  refine⟨x.b,x.p,x.g,x.u,x.A,R.m,c,XI o f.name,rfl,b.fy,VG b.gm C,VG b.tm C,λM1 fr fy=>?_⟩;have p:=fr _ _ b.gv glo;have L:=fr _ _ b.tk tlo;have ads:∀(A:Ab),∀a∈(⟨x.b,x.p,x.g,x.u,x.gl,x.tl,A⟩:Boat).ads,a∈x.ads\/M a=none:=λA a ha=>.inl ha;have eR:x.A.taker R.m c (XI o f.name)=ZW W.w f z R.m c o l x.A:=by rw[ZW,if_neg N]
  have eS:smpA f z c x.A=Xi x.A.k (x.A.tSamp c):=if_neg N;have eH:hitA W.w f z o l x.A=x.A.takes (XI o f.name):=if_neg N;delta Pa;simp!;by_cases tks:x.A.takes (XI o f.name)=true
  .have eT:takM x.A (XI o f.name)=.int (x.A.ws.getD x.A.tn 0:Nat):=if_pos tks;have Y:(x.A.taker R.m c (XI o f.name)).tn=x.A.tn+1:=if_pos tks;have hw:XI o f.name=true:=((XX _ _).mp tks).1;have hlt:x.A.tn<x.A.ws.length:=by
    have m2:=_v (xs:=x.A.tx) (by rw[b.fy.ok.tl];exact b.fy.ok.gl.1)
    have t1:=b.fy.ok.tb _ m2;have t2:=b.fy.ok.lt1;have t3:XH x.A.tx≠x.A.tn:=of_decide_eq_true ((XX _ _).mp tks).2;lia
   obtain⟨y,I⟩:=S hw;have gd:x.A.ws.getD x.A.tn 0=x.A.ws[x.A.tn]:=by rw[Yf,X8 hlt];rfl
   rw[eT];have t1:=jO _ fr _ _ ht;have r1:=jP _ fr;simp!;delta P8
   simp![Fer.mv,r1,runO,valM,t1,vt,L]
   refine⟨⟨_,rfl⟩,by rw[Xd,Z6];lia,?_⟩
   have eM:(x.A.ws.take x.A.tn).map natM++[MV.int ((x.A.ws.getD x.A.tn 0:Nat):Int)]=(x.A.ws.take (x.A.tn+1)).map natM:=by
    rw[U1,X8 hlt,Y0,gd];rfl
   rw[eM];have fy2:=fy.put L b.n1.2.2 ((x.A.ws.take (x.A.tn+1)).map natM);have tl2:updM M1 x.tl (.lst ((x.A.ws.take (x.A.tn+1)).map natM)) x.tl=_:=X9;have gl2:updM M1 x.tl (.lst ((x.A.ws.take (x.A.tn+1)).map natM)) x.gl=_:=(Xc b.n1.1).trans p;have fr2:FrM M (updM M1 x.tl (.lst ((x.A.ws.take (x.A.tn+1)).map natM))) x.ads:=λa o e U=>(Xc (λz=>U (by simp[Boat.ads,z]))).trans (F _ fr a o e U)
   generalize updM M1 x.tl _=M2 at*;delta P7
   simp![Fer.mv]
   have hy:BoatAt M2 f W.w (R.m+1) ⟨x.b,x.p,x.g,x.u,x.gl,x.tl,x.A.taker R.m c (XI o f.name)⟩:=⟨fy2,gl2,by
     show M2 x.tl=some (.lst ((x.A.ws.take (x.A.taker R.m c (XI o f.name)).tn).map natM));rw[Y];exact tl2,b.n1,b.k,by show x.A.gm<R.m+1;have:=b.gm;lia,by show R.m<R.m+1;lia,b.wd⟩
   obtain⟨A1,A2⟩:=h.boat (y:=⟨x.b,x.p,x.g,x.u,x.gl,x.tl,x.A.taker R.m c (XI o f.name)⟩) (mm':=λi=>if i=j then R.m+1 else O i) B D fr2 (by show BoatAt _ _ _ (if j=j then R.m+1 else O j) _;rw[if_pos rfl];exact hy) rfl rfl rfl (ads _) E
   have Z:YG W.w f z o l x.A=.tup [.str "take",.str f.name,.int (x.A.ws.getD x.A.tn 0:Nat)]:=by rw[YG,eH,if_pos tks,if_neg N]
   have:=q _ M2 A1 A2 eR (Z▸.inr (.inr ⟨y,_,I,by rw[gd];exact b.wd _ (XU hlt),rfl⟩))
   rw[Z,eS]at this;exact this
  .have eT:takM x.A (XI o f.name)=.non:=if_neg tks;have Y:(x.A.taker R.m c (XI o f.name)).tn=x.A.tn:=if_neg tks;rw[eT];simp!;delta P9;simp!;have hy:BoatAt M1 f W.w (R.m+1) ⟨x.b,x.p,x.g,x.u,x.gl,x.tl,x.A.taker R.m c (XI o f.name)⟩:=⟨fy,p,by
     show M1 x.tl=some (.lst ((x.A.ws.take (x.A.taker R.m c (XI o f.name)).tn).map natM));rw[Y];exact L,b.n1,b.k,by show x.A.gm<R.m+1;have:=b.gm;lia,by show R.m<R.m+1;lia,b.wd⟩
   obtain⟨A1,A2⟩:=h.boat (y:=⟨x.b,x.p,x.g,x.u,x.gl,x.tl,x.A.taker R.m c (XI o f.name)⟩) (mm':=λi=>if i=j then R.m+1 else O i) B D (F _ fr) (by show BoatAt _ _ _ (if j=j then R.m+1 else O j) _;rw[if_pos rfl];exact hy) rfl rfl rfl (ads _) E
   have Z:YG W.w f z o l x.A=.non:=by rw[YG,eH,if_neg tks]
   have:=q _ M1 A1 A2 eR (Z▸.inl rfl);rw[Z,eS]at this;exact this
noncomputable abbrev Hy:SpM:=λg M Q=>∃(l:List Str) (m:List MV) (z:Str) (i:Nat) (y:MV),g=[.tup m,.str z]/\(∀(j:Nat)u,m[j]?=some u->∃x r,u=.tup (.str x::r)/\l[j]?=some x)/\l.Nodup/\l[i]?=some z/\m[i]?=some y/\Q y M
theorem _9q:MonW Hy:=by walk_at "m"
theorem _dK(T:Txt K mg t):FnOk P w K mg base CX0 1 t.dI t.gq ["row","name"] (liSp K Hy):=by
 refine T.ci.F.okM _dC (fC (G:=Ow) (Φ:=[]) T rfl nl0 nl0) G3 _e9 (λR M Q h=>?_) (λR M Q h=>?_)
 .obtain⟨_,_,_,_,_,rfl,_⟩:=h;rfl
 obtain⟨Y,c,z,k,y,rfl,U,W,L,O,q⟩:=h;show wSs _ _ _ [some (.tup c),some (.str z),none] M;delta G3 Ov;simp!;obtain⟨J,f⟩:∃J:Nat->Sm->MH->Prop,∀j m g,J j m g↔g=M/\j<=k/\∃v,m=[some (.tup c),some (.str z),v]:=⟨_,λ_ _ _=>Ye⟩;refine⟨J,(f _ _ _).mpr ⟨rfl,YS _,_,rfl⟩,λj m g h=>trivial,?_,?_⟩
 .rintro j u m g d h;obtain⟨rfl,p,v,rfl⟩:=(f _ _ _).mp h;have d:c[j]?=some u:=d;obtain⟨x,r,rfl,N⟩:=U j u d;delta Ou;simp!;refine Y3 (λe=>?_) (λe=>?_)
  .subst e;have:=(C6 (XF.mp N).1 W).mp (N.trans L.symm);subst this;rw[O]at d;cases d;delta Ot;simp!;exact q
  .refine(f _ _ _).mpr ⟨rfl,?_,_,rfl⟩;rcases Ea p with l|l
   .exact l
   .subst l;rw[N]at L;exact absurd (Y9 L) e
 .rintro m g h;obtain⟨rfl,p,v,rfl⟩:=(f _ _ _).mp h;have:=(XF.mp O).1;have p:c.length<=k:=p;lia
noncomputable abbrev Vj:SpM:=λj M Q=>∃(W:Wld) (i:Nat) (I:Isl),j=[W.mv,.str I.name]/\W.Good/\W.isl[i]?=some I/\Q I.mv M
theorem _aO:MonW Vj:=by walk_at "m"
theorem _eO(T:Txt K mg t):FnOk P w K mg base CX0 2 t.ia t.eh ["world","name"] (liSp K Vj):=by
 refine T.bj.F.okM _et (fC (G:=Oy) (Φ:=[("one_called",Hy)]) T rfl (fMc ⟨_9q,nl0⟩) (fMc ⟨fE T.ci (_dK T),nl0⟩)) G4 _fn (fun y M Q h=>?_) (fun y M Q h=>?_)
 .obtain⟨_,_,_,rfl,_⟩:=h;rfl
 obtain⟨W,i,I,rfl,G,l,q⟩:=h;show wSs _ _ _ [some W.mv,some (.str I.name)] M;delta G4 Ox;rw[Wld.mv];simp!;refine⟨W.ins,W.isl.map Isl.mv,I.name,i,I.mv,rfl,λj u z=>?_,G.in_nd,_V l,by rw[Xq,l];rfl,q⟩
 obtain⟨m,rfl⟩:=YZ z;exact⟨_,_,rfl,_V (X8 m)⟩
def Sz(w:Nat)(o:Option Stp)(ρ:Str->Int)(v:MV):Prop:=v=Zb o\/(∃f T,o=some (.give f T)/\v=askO o ρ w)\/∃(f x:Str) (n:Nat),o=some (.take f x)/\n<2^w/\v=.tup [.str "take",.str f,.int n]
theorem RunAt.tick{M:MH}{W:Wld}{r:Addr}{R:RunS}{y mm':Nat->Int}(h:RunAt M W r R y)(c:∀i,i<W.fer.length->y i<=mm' i)(m:Int):RunAt (updM M r (runO W {R with m:=m})) W r {R with m:=m} mm'/\Kept M (updM M r (runO W {R with m:=m})) r R {R with m:=m}:=by
 have q:∀a l,M a=some (.dic l)->a≠r:=λa l e z=>by subst z;rw[h.ob]at e;cases e
 have d:∀a l,M a=some (.dic l)->updM M r (runO W {R with m:=m}) a=some (.dic l):=λa l e=>(Xc (q a l e)).trans e;refine⟨⟨X9,d _ _ h.hn,d _ _ h.hw,d _ _ h.hs,d _ _ h.hb,d _ _ h.hg,d _ _ h.ht,h.nl,h.wl,h.sl,h.bl,h.nb,λi I a p u=>let⟨k,e,o⟩:=h.wa i I a p u;⟨k,d _ _ e,o⟩,λj f x g L=>?_,h.sep,h.nd⟩,⟨λa o e N=>(Xc λz=>N (by simp[RunS.own,z])).trans e,λa u=>.inl u⟩⟩
 have b:=h.ba j f x g L;exact b.fr (c j (XF.mp g).1) λa u o e=>(Xc λz=>b.run h.ob (by rw[<-z];exact u)).trans e
theorem RunAt.le{M:MH}{W:Wld}{r:Addr}{R:RunS}{l mm':Nat->Int}(h:RunAt M W r R l)(u:∀i,l i<=mm' i):RunAt M W r R mm':={h with ba:=λj f x y z=>(h.ba j f x y z).fr (u j) λ_ _ _ e=>e}
theorem RunAt.off{M:MH}{W:Wld}{r:Addr}{R:RunS}{m:Nat->Int}(h:RunAt M W r R m){p:Addr}{xs:List MV}(q:M p=some (.lst xs))(g:p∉R.own r)(o:MO):RunAt (updM M p o) W r R m:=by
 have d:∀a l,M a=some (.dic l)->updM M p o a=some (.dic l):=λa l e=>(Xc λz=>by subst z;rw[q]at e;cases e).trans e
 refine⟨(Xc λz=>g (by rw[<-z];exact Ya ..)).trans h.ob,d _ _ h.hn,d _ _ h.hw,d _ _ h.hs,d _ _ h.hb,d _ _ h.hg,d _ _ h.ht,h.nl,h.wl,h.sl,h.bl,h.nb,λi I a L y=>let⟨k,e,u⟩:=h.wa i I a L y;⟨k,d _ _ e,u⟩,λj f x N c=>(h.ba j f x N c).fr (ZH _) λa y u e=>(Xc λz=>g ?_).trans e,h.sep,h.nd⟩
 rw[<-z];exact XM _ (XM _ (XM _ (XM _ (Uv.mpr ⟨x,Xo c,y⟩))))
theorem RunAt.ws_off{M:MH}{W:Wld}{r:Addr}{R:RunS}{g:Nat->Int}(h:RunAt M W r R g){i:Nat}{I:Isl}{a:Addr}(d:W.isl[i]?=some I)(y:R.ws[i]?=some a):a∉R.own r:=λz=>by
 obtain⟨f,e,_⟩:=h.wa i I a d y;have l:=h.nd;have u:=Xo y;simp only[Yp,Xk,not_or]at l;simp only[RunS.own,Xk,Uv]at z;rcases z with rfl|rfl|rfl|rfl|⟨x,c,z⟩
 .rw[h.ob]at e;cases e
 .exact l.1.2.2.2.2.2 u
 .exact l.2.1.2.2.2.2 u
 .exact l.2.2.1.2.2.2 u
 .obtain⟨j,m,rfl⟩:=Y5 c;exact(h.ba j _ _ (X8 (by rw[<-h.bl];exact m)) (X8 m)).dic e z
noncomputable def atB(W:Wld)(z:Str)(k:Nat):Bool:=match W.fer[k]? with
 |some f=>decide (z=f.giver\/z=f.taker)
 |none=>false
def smpM(W:Wld)(bs:List Boat)(z:Str)(c k:Nat):MV:=match W.fer[k]?,bs[k]? with
 |some f,some a=>.tup [.str f.name,.int (smpA f z (c/2^(8*k)) a.A:Nat)]
 |_,_=>.non
def ixs(W:Wld)(z:Str)(j:Nat):List Nat:=(Xt j).filter (atB W z)
theorem SA{W:Wld}{z:Str}{j:Nat}{f:Fer}(l:W.fer[j]?=some f):atB W z j=decide (z=f.giver\/z=f.taker):=by unfold atB;rw[l]
theorem _mU{W:Wld}{bs:List Boat}{z:Str}{c j:Nat}{f:Fer}{a:Boat}(l:W.fer[j]?=some f)(u:bs[j]?=some a):smpM W bs z c j=.tup [.str f.name,.int (smpA f z (c/2^(8*j)) a.A:Nat)]:=by unfold smpM;rw[l,u]
theorem _o2{W:Wld}{z:Str}{j:Nat}{f:Fer}(l:W.fer[j]?=some f)(c:z=f.giver\/z=f.taker):ixs W z (j+1)=ixs W z j++[j]:=by
 unfold ixs;rw[Cb,C4,List.filter_cons,SA l,decide_eq_true c];rfl
theorem _qt{W:Wld}{z:Str}{j:Nat}{f:Fer}(l:W.fer[j]?=some f)(c:¬(z=f.giver\/z=f.taker)):ixs W z (j+1)=ixs W z j:=by
 unfold ixs;rw[Cb,C4,List.filter_cons,SA l,decide_eq_false c];simp
theorem _o3{W:Wld}{z:Str}{j:Nat}:(ixs W z j).length<=j:=XY (List.length_filter_le ..) (by rw[Uu];exact Xe _)
def newA(w:Nat)(z:Str)(m:Int)(c:Nat)(o:Option Stp)(ρ:Str->Int)(k:Nat)(f:Fer)(A:Ab):Ab:=if z=f.giver\/z=f.taker then ZW w f z m (c/2^(8*k)) o ρ A else A
theorem _lg{w:Nat}{z:Str}{m:Int}{c:Nat}{o:Option Stp}{ρ:Str->Int}{k:Nat}{f:Fer}{A:Ab}:(newA w z m c o ρ k f A).ws.length<=A.ws.length+1:=by
 unfold newA;split
 .unfold ZW;split
  .show(if A.gives _=true then A.ws++[_]else A.ws).length<=_;split
   .rw[Yt];exact Xe _
   .exact U5 _
  .exact U5 _
 .exact U5 _
def Hit(W:Wld)(bs:List Boat)(z:Str)(o:Option Stp)(ρ:Str->Int)(k:Nat)(f:Fer)(a:Boat):Prop:=W.fer[k]?=some f/\bs[k]?=some a/\(z=f.giver\/z=f.taker)/\hitA W.w f z o ρ a.A=true
def WhatTo(W:Wld)(bs:List Boat)(z:Str)(o:Option Stp)(ρ:Str->Int)(j:Nat)(v:MV):Prop:=(v=Zb o/\∀k f a,k<j->¬Hit W bs z o ρ k f a)\/∃k f a,k<j/\Hit W bs z o ρ k f a/\v=YG W.w f z o ρ a.A
theorem WhatTo.stay{W:Wld}{bs:List Boat}{z:Str}{o:Option Stp}{ρ:Str->Int}{j:Nat}{v:MV}(h:WhatTo W bs z o ρ j v)(n:∀f a,¬Hit W bs z o ρ j f a):WhatTo W bs z o ρ (j+1) v:=by
 rcases h with⟨e,h⟩|⟨k,f,a,l,h,e⟩
 .refine .inl ⟨e,λk f a l=>?_⟩;rcases E9.mp l with l|rfl
  .exact h k f a l
  .exact n f a
 .exact .inr ⟨k,f,a,Uy l,h,e⟩
def BsTo(W:Wld)(bs l:List Boat)(z:Str)(m:Int)(c:Nat)(o:Option Stp)(ρ:Str->Int)(j:Nat):Prop:=∀k f a,k<j->W.fer[k]?=some f->bs[k]?=some a->∃u,l[k]?=some u/\u.A=newA W.w z m c o ρ k f a.A
theorem BsTo.len{W:Wld}{bs l:List Boat}{z:Str}{m:Int}{c:Nat}{o:Option Stp}{ρ:Str->Int}{j:Nat}(h:BsTo W bs l z m c o ρ j)(g:l.length=W.fer.length)(r:bs.length=W.fer.length)(p:∀k,j<=k->l[k]?=bs[k]?){n:Nat} (d:∀y∈bs,y.A.ws.length<=n):∀y∈l,y.A.ws.length<=n+1:=λy L=>by
 obtain⟨k,u,rfl⟩:=Y5 L;by_cases e:k<j
 .have f:k<bs.length:=by rw[r,<-g];exact u
  obtain⟨R,q,N⟩:=h k _ _ e (X8 (by rw[<-g];exact u)) (X8 f)
  rw[X8 u]at q;cases q;rw[N];exact XY _lg (Nat.succ_le_succ (d _ (XU f)))
 .have O:=(p k (Nat.le_of_not_lt e)).symm.trans (X8 u);exact Nat.le_succ_of_le (d _ (Xo O))
def GoTo(W:Wld)(M M':MH)(r:Addr)(R y:RunS)(bs:List Boat)(i n:Nat)(j:List (Key×MV))(o:Option Stp)(v:MV):Prop:=
 (y={R with bs:=bs,m:=R.m+1}/\v=Zb o/\∀s,o=some s->∃z,XI o z=true)\/
 ∃s l g p d,o=some s/\y=goR {R with bs:=bs,m:=R.m+1} i g p d/\R.dn[i]?=some d/\Zs s (rhoK j) W.w n=((g:Nat):Int)/\M' p=some (.dic (Uh s j (rhoK j) W.w l))/\(∀u,M p=some u->p∈R.own r)/\
  ((∀z,XI o z=false)/\v=Zb o/\l=.non\/(∃f T,s=.give f T/\v=askO o (rhoK j) W.w/\l=.non)\/∃f x m,s=.take f x/\v=.tup [.str "take",.str f,.int m]/\l=.int m)
abbrev Wh:SpM:=λz M Q=>∃(r:Addr) (W:Wld) (R:RunS) (i:Nat) (I:Isl) (c n:Nat) (o:Option Stp) (a:Addr) (j:List (Key×MV)),z=[.ref r,.str I.name,.int c]/\W.Good/\RunAt M W r R (λ_=>R.m)/\W.isl[i]?=some I/\(∀y∈R.bs,y.A.ws.length<=900)/\R.nums[i]?=some n/\I.stps[n]?=o/\R.ws[i]?=some a/\M a=some (.dic j)/\
 ∀bs l u v p,RunAt u W r l (λ_=>l.m)->Kept M u r R l->M p=none->p∉l.own r->u p=some (.lst ((ixs W I.name W.fer.length).map (smpM W R.bs I.name c)))->BsTo W R.bs bs I.name R.m c o (rhoK j) W.fer.length->WhatTo W R.bs I.name o (rhoK j) W.fer.length v->GoTo W M u r R l bs i n j o v->Q (.tup [.str I.name,.int n,v,.ref p]) u
theorem SC:MonW Wh:=by walk_at "m"
theorem UN{z a b:Str}:inV (toV (.str z)) ([MV.str a,.str b].map toV)=decide (z=a\/z=b):=by
 have:=GK (z:=z) (zs:=[a,b])
 simpa using this
set_option tactic.hygienic true in
theorem _fX(T:Txt K mg t):FnOk P w K mg base CX0 53 t.b9 t.bm ["self","name","choice"] (liSp K Wh):=by
 refine T.cL.okM _fU (_N (k:=52) (G:=P6) (Φ:=[("island_of",Vj),("two_to",Zr),("what_alone",Vf),("wish",Va)]) (Ψ:=[("Run_go_on",UM),("Run_ring_ferry",Vi)]) (Χ:=[("island_of",Vj),("two_to",Zr),("what_alone",Vf),("wish",Va),("Run_go_on",UM),("Run_ring_ferry",Vi)]) rfl (_O T) (_P T) rfl (fMc ⟨_aO,(fMc ⟨Do,(fMc ⟨_9p,(fMc ⟨_g1,(fMc ⟨_aQ,(fMc ⟨_5S,nl0⟩)⟩)⟩)⟩)⟩)⟩) (fMc ⟨fE T.bj (_eO T),(fMc ⟨fE T.aF (Dp T),(fMc ⟨fE T.bJ (_dJ T),(fMc ⟨fE T.cu (_nE T),nl0⟩)⟩)⟩)⟩) (fMc ⟨⟨_,_,rfl,_,_,_,_,(FnOk.mono (_eU T) (by decide)),T.ab,T.ac,T.dm,T.fS⟩,(fMc ⟨⟨_,_,rfl,_,_,_,_,(FnOk.mono (_9n T) (by decide)),T.ab,T.ac,T.fP,T.fT⟩,nl0⟩)⟩) nl0 (_Q T)) Ga _gw (fun vs M Q h=>?_) (fun vs M Q h=>?_)
 .obtain⟨_,_,_,_,_,_,_,_,_,_,rfl,_⟩:=h;rfl
 obtain⟨r,W,R,i,I,c,n,o,a,N,rfl,G,h,hI,hL,hn,ho,F,O,q⟩:=h;show wSs _ _ _ [some (.ref r),some (.str I.name),some (.int c),none,none,none,none,none,none,none,none] M;have hi:i<W.isl.length:=(XF.mp hI).1;have im:I∈W.isl:=Xo hI;have ok:=G.io I im;have f6:=G.f6;obtain⟨kv0,hk0,wk⟩:=h.wa i I a hI F;obtain rfl:N=kv0:=by rw[O]at hk0;cases hk0;rfl
 have ob:=h.ob;have hpn:=h.hn;have hpw:=h.hw;have vn:=h.nml G hI hn;have vw:=h.wdl G hI F;delta Ga P5
 simp![ob,runO,valM]
 refine⟨W,i,I,rfl,G,hI,?_⟩
 simp![Isl.mv]
 delta P4
 simp![ob,runO,valM,hpn,vn]
 delta P3
 simp![ob,runO,valM,Wld.mv,hpw,vw]
 refine⟨_,a,I.stps,n,W.w,N,rhoK N,I.vars,rfl,.inl rfl,λs hs=>Sw (ok.st s hs),h.nb i I n hI hn,G.w1,G.w2,O,wk.reads ok.nd,?_⟩;rw[_qL];rw[ho];have hE:∀s,o=some s->ZT W.fer I.name s:=λs e=>G.en I im s (Xo (ho.trans e));have hT:∀g T,o=some (.give g T)->0<=T.val (rhoK N) W.w/\T.val (rhoK N) W.w<2^W.w:=λg T e=>T.val_in G.w1 λy hy=>(wk.at ok.nd ((ok.st _ (Xo (ho.trans e))).2.2.2 y hy)).2;obtain⟨L,hρ⟩:∃L,rhoK N=L:=⟨_,rfl⟩;rw[hρ]at hT q ⊢;delta P2;simp!;refine⟨o,L,W.w,rfl,?_⟩;delta P1;simp!;intro p hp;have s1:=SameM.new hp (.lst []);have hp1:updM M p (.lst []) p=some (.lst []):=X9;have h1:=h.keep s1;have k1:Kept M (updM M p (.lst [])) r R R:=Kept.new s1;have own_some:∀b∈R.own r,∃u,M b=some u:=λb hb=>by
  simp only[RunS.own,Xk,Uv]at hb;rcases hb with rfl|rfl|rfl|rfl|⟨x,hx,hb⟩
  .exact⟨_,ob⟩
  .exact⟨_,hpn⟩
  .exact⟨_,hpw⟩
  .exact⟨_,h.hs⟩
  .obtain⟨j,hj,rfl⟩:=Y5 hx;obtain⟨u,e,_⟩:=(h.ba j _ _ (X8 (by rw[<-h.bl];exact hj)) (X8 hj)).at_ b hb
   exact⟨u,e⟩
 have pno:p∉R.own r:=λz=>by
  obtain⟨u,e⟩:=own_some p z;rw[hp]at e;cases e
 generalize updM M p _=M1 at*;have ob1:=h1.ob;delta P0
 simp![ob1,runO,valM,Wld.mv,Xd]
 obtain⟨J,hJ⟩:∃J:Nat->Sm->MH->Prop,∀j σ M',J j σ M'↔∃(bs:List Boat) (v:MV) (U Y l:Option MV),RunAt M' W r {R with bs:=bs} (λk=>if k<j then R.m+1 else R.m)/\Kept M M' r R {R with bs:=bs}/\Sz W.w o L v/\WhatTo W R.bs I.name o L j v/\M' p=some (.lst ((ixs W I.name j).map (smpM W R.bs I.name c)))/\p∉RunS.own {R with bs:=bs} r/\(∀k,j<=k->bs[k]?=R.bs[k]?)/\BsTo W R.bs bs I.name R.m c o L j/\
  σ=[some (.ref r),some (.str I.name),some (.int c),some (.tup (I.stps.map Stp.mv)),some (.int n),some (askO o L W.w),some v,some (.ref p),U,Y,l]:=⟨_,λ_ _ _=>Ye⟩
 refine⟨by lia,by lia,J,(hJ _ _ _).mpr ⟨R.bs,_,_,_,_,by simpa using h1,k1,.inl rfl,.inl ⟨rfl,λk f a O=>absurd O (Cm _)⟩,hp1,pno,λ_ _=>rfl,λk f a O=>absurd O (Cm _),rfl⟩,λj σ M' h=>trivial,?_,?_⟩
 .rintro j y σ M2 hy hj;obtain⟨bs,v,U,Y,l,hR,hK,hv,hw,Z,B,C,A,rfl⟩:=(hJ _ _ _).mp hj;obtain⟨S,rfl⟩:=W6 hy;have S:j<W.fer.length:=by simpa using S
  have ej:((0:Int)+(j:Nat))=(j:Nat):=by lia
  have hf:W.fer[j]?=some W.fer[j]:=X8 S;generalize W.fer[j]=f at*;have bl1:bs.length=W.fer.length:=hR.bl;obtain⟨x,hx⟩:∃x,bs[j]?=some x:=⟨_,X8 (by rw[bl1];exact S)⟩
  have hx0:R.bs[j]?=some x:=(C j (Xe _)).symm.trans hx;have xl:=_o3 (W:=W) (z:=I.name) (j:=j);have ob2:=hR.ob;have af:atI (W.fer.map Fer.mv) (j:Int)=some f.mv:=Yr (by rw[Xq,hf];rfl)
  rw[ej];delta OZ
  simp![ob2,runO,valM,Wld.mv,af]
  delta OY
  simp![Fer.mv]
  refine⟨rfl,rfl,?_⟩;rw[UN];simp!;refine Y3 (λcz=>?_) (λcz=>?_)
  .delta OX
   simp![ob2,runO,valM]
   have e8:(8:Int)*(j:Int)=((8*j:Nat):Int):=by lia
   rw[e8];refine⟨8*j,rfl,by lia,?_⟩
   simp!;have hc2:(c:Int)/2^(8*j)=((c/2^(8*j):Nat):Int):=by rw[Int.natCast_ediv,WF];rfl
   rw[hc2];refine⟨⟨BC _,Int.lt_of_le_of_lt (Rf (by lia)) (by decide)⟩,?_⟩
   refine⟨r,W,{R with bs:=bs},_,j,f,I.name,_,o,L,x,rfl,G,hR,by simp,hf,cz,hE,hT,λy hy=>XY (A.len bl1 h.bl C hL y hy) (by decide),hx,λy M3 a3 a4 eA a5=>?_⟩
   have a3:RunAt M3 W r {R with bs:=bs.set j y} (λi=>if i=j then R.m+1 else if i<j then R.m+1 else R.m):=a3;have a4:Kept M2 M3 r {R with bs:=bs} {R with bs:=bs.set j y}:=a4;have hp3:=a4.fr _ _ Z B;have pno2:p∉RunS.own {R with bs:=bs.set j y} r:=λz=>by
    rcases a4.nw p z with y|y
    .exact B y
    .rw[Z]at y;cases y
   have a3':RunAt M3 W r {R with bs:=bs.set j y} (λk=>if k<j+1 then R.m+1 else R.m):=a3.le λk=>by
    by_cases e1:k=j
    .subst e1;rw[if_pos rfl,if_pos (VA _)];exact ZH _
    .rw[if_neg e1];by_cases e2:k<j
     .rw[if_pos e2,if_pos (by lia)];exact ZH _
     .rw[if_neg e2,if_neg (by lia)];exact ZH _
   have k3:=hK.trans a4;delta OW
   simp![Fer.mv,hp3]
   refine⟨⟨_,rfl⟩,by rw[Xd];lia,?_⟩
   have es:(ixs W I.name j).map (smpM W R.bs I.name c)++[.tup [.str f.name,.int (smpA f I.name (c/2^(8*j)) x.A:Nat)]]=(ixs W I.name (j+1)).map (smpM W R.bs I.name c):=by rw[_o2 hf cz,Y0,<-_mU hf hx0];rfl
   rw[es];have r4:=a3'.off hp3 pno2 (.lst ((ixs W I.name (j+1)).map (smpM W R.bs I.name c)));have p4:updM M3 p (.lst ((ixs W I.name (j+1)).map (smpM W R.bs I.name c))) p=some (.lst ((ixs W I.name (j+1)).map (smpM W R.bs I.name c))):=X9;have k4:Kept M (updM M3 p (.lst ((ixs W I.name (j+1)).map (smpM W R.bs I.name c)))) r R {R with bs:=bs.set j y}:=⟨λb u e hb=>(Xc (neM e hp)).trans (k3.fr b u e hb),k3.nw⟩;generalize updM M3 p _=E at*;have bs4:∀k,j+1<=k->(bs.set j y)[k]?=R.bs[k]?:=λk O=>(C2 (by lia)).trans (C k (by lia))
   have to4:BsTo W R.bs (bs.set j y) I.name R.m c o L (j+1):=λk g a O X F=>by
    rcases E9.mp O with O|rfl
    .obtain⟨a',h1,h2⟩:=A k g a O X F;exact⟨a',(C2 (by lia)).trans h1,h2⟩
    .rw[hf]at X;cases X;rw[hx0]at F;cases F;exact⟨y,by rw[DP (by rw[bl1];exact S)],by rw[eA,newA,if_pos cz]⟩
   have fin:∀v3 w8 w9 w10,Sz W.w o L v3->WhatTo W R.bs I.name o L (j+1) v3->J (j+1) [some (.ref r),some (.str I.name),some (.int c),some (.tup (I.stps.map Stp.mv)),some (.int n),some (askO o L W.w),some v3,some (.ref p),w8,w9,w10] E:=λv3 w8 w9 w10 hv3 hw3=>(hJ _ _ _).mpr ⟨_,v3,w8,w9,w10,r4,k4,hv3,hw3,p4,pno2,bs4,to4,rfl⟩;delta OV;by_cases hh:hitA W.w f I.name o L x.A=true
   .have wt:WhatTo W R.bs I.name o L (j+1) (YG W.w f I.name o L x.A):=.inr ⟨j,f,x,VA _,⟨hf,hx0,cz,hh⟩,rfl⟩;rcases a5 with e|⟨T,eo,e⟩|⟨y,m,eo,hm,e⟩
    .rw[YG,if_pos hh]at e;split at e
     .rename_i eg
      rw[e]at fin ⊢;cases o with
      |none=>rw[hitA,if_pos eg]at hh;cases hh
      |some s=>cases s<;>cases e
     .cases e
    .rw[e]at wt ⊢;have ea:askO o L W.w=.tup [.str "give",.str f.name,.int (T.val L W.w)]:=by rw[eo];rfl
     simp![ea]
     delta G9;simp!;have:=fin (askO o L W.w) (some (.int (j:Int))) (some f.mv) (some (.tup [askO o L W.w,.int (smpA f I.name (c/2^(8*j)) x.A:Nat)])) (.inr (.inl ⟨_,T,eo,rfl⟩)) wt;rw[ea]at this;exact this
    .rw[e]at wt ⊢;simp!;delta G9;simp!;exact fin _ _ _ _ (.inr (.inr ⟨_,y,m,eo,hm,rfl⟩)) wt
   .have et:YG W.w f I.name o L x.A=.non:=if_neg hh;rw[et];simp!;exact fin _ _ _ _ hv (hw.stay λg a X=>hh (by
     obtain⟨z1,z2,_,z4⟩:=X;rw[hf]at z1;cases z1;rw[hx0]at z2;cases z2;exact z4))
  .refine(hJ _ _ _).mpr ⟨bs,v,_,_,_,hR.le λk=>?_,hK,hv,hw.stay λg a X=>cz (by
     obtain⟨z1,_,z3,_⟩:=X;rw[hf]at z1;cases z1;exact z3),by rw[_qt hf cz];exact Z,B,λk O=>C k (by lia),λk g a O X F=>?_,rfl⟩
   .show(if k<j then R.m+1 else R.m)<=(if k<j+1 then R.m+1 else R.m);by_cases e2:k<j
    .rw[if_pos e2,if_pos (by lia)];exact ZH _
    .rw[if_neg e2];by_cases e3:k<j+1
     .rw[if_pos e3];lia
     .rw[if_neg e3];exact ZH _
   .rcases E9.mp O with O|rfl
    .exact A k g a O X F
    .rw[hf]at X;cases X;exact⟨a,(C k (Xe _)).trans F,by rw[newA,if_neg cz]⟩
 .rintro σ M2 hj;obtain⟨bs,v,U,Y,l,hR,hK,hv,hw,Z,B,C,A,rfl⟩:=(hJ _ _ _).mp hj;have hw:WhatTo W R.bs I.name o L W.fer.length v:=hw;have A:BsTo W R.bs bs I.name R.m c o L W.fer.length:=A;have Z:M2 p=some (.lst ((ixs W I.name W.fer.length).map (smpM W R.bs I.name c))):=Z;have ob2:=hR.ob;obtain⟨t1,t2⟩:=hR.tick (mm':=λ_=>R.m+1) (λk O=>by show(if _ then _ else _)<=_;split<;>lia) (R.m+1)
  have k2:=hK.trans t2;have pr:p≠r:=λz=>B (by rw[z];exact Ya ..)
  delta OU
  simp![ob2,runO,valM,putM]
  have eo:updM M2 r (runO W {R with bs:=bs,m:=R.m+1})=updM M2 r (.ins "Run" [("world",W.mv),("moment",.int (R.m+1)),("next_numbers",.ref R.pn),("words_now",.ref R.pw),("steps_so_far",.ref R.ps),("boats",.ref R.pb),("given_so_far",.ref R.pg),("taken_so_far",.ref R.pt)]):=rfl;have px:updM M2 r (runO W {R with bs:=bs,m:=R.m+1}) p=_:=(Xc pr).trans Z;rw[eo]at t1 k2 px;have H:p∉RunS.own {R with bs:=bs,m:=R.m+1} r:=B;generalize updM M2 r _=M3 at*;have ret:∀(R3:RunS)(E:MH)(D:EndM),D.rt=Q->RunAt E W r R3 (fun _=>R3.m)->Kept M E r R R3->GoTo W M E r R R3 bs i n N o v->p∉R3.own r->E p=some (.lst ((ixs W I.name W.fer.length).map (smpM W R.bs I.name c)))->∀U Y l,wSs ([("island_of",Vj),("two_to",Zr),("what_alone",Vf),("wish",Va),("Run_go_on",UM),("Run_ring_ferry",Vi)]:List (Str×SpM)) BA D [some (.ref r),some (.str I.name),some (.int c),some (.tup (I.stps.map Stp.mv)),some (.int n),some (askO o L W.w),some v,some (.ref p),U,Y,l] E:=by
   intro R3 E D hD a1 a2 a3 a5 a6 U Y l;delta BA;simp!;rw[hD];exact q bs R3 E _ p a1 a2 hp a5 a6 A hw a3
  have stay:v=Zb o->(∀s,o=some s->∃z,XI o z=true)->∀D:EndM,D.rt=Q->∀U Y l,wSs ([("island_of",Vj),("two_to",Zr),("what_alone",Vf),("wish",Va),("Run_go_on",UM),("Run_ring_ferry",Vi)]:List (Str×SpM)) BA D [some (.ref r),some (.str I.name),some (.int c),some (.tup (I.stps.map Stp.mv)),some (.int n),some (askO o L W.w),some v,some (.ref p),U,Y,l] M3:=fun e1 e2 D hD=>ret {R with bs:=bs,m:=R.m+1} M3 D hD t1 k2 (.inl ⟨rfl,e1,e2⟩) H px;have ob3:=t1.ob;have hk3:=k2.fr _ _ O (h.ws_off hI F);have go:∀(s:Stp)(wd:MV),o=some s->(∀f x,s=.take f x->∃v:Int,wd=.int v/\0<=v/\v<2^W.w)->((∀z,XI o z=false)/\v=Zb o/\wd=.non\/(∃f T,s=.give f T/\v=askO o (rhoK N) W.w/\wd=.non)\/∃f x m,s=.take f x/\v=.tup [.str "take",.str f,.int m]/\wd=.int m)->∀U Y l,UM [.ref r,.str I.name,.tup (I.stps.map Stp.mv),wd] M3 (fun _ E=>wSs ([("island_of",Vj),("two_to",Zr),("what_alone",Vf),("wish",Va),("Run_go_on",UM),("Run_ring_ferry",Vi)]:List (Str×SpM)) BA {nx:=fun _ M'=>Q .non M',rt:=Q} [some (.ref r),some (.str I.name),some (.int c),some (.tup (I.stps.map Stp.mv)),some (.int n),some (askO o L W.w),some v,some (.ref p),U,Y,l] E):=fun s wd es hw hd U Y l=>
   ⟨r,W,{R with bs:=bs,m:=R.m+1},_,i,n,I,s,wd,a,N,rfl,G,t1,hI,hn,ho.trans es,hw,F,hk3,λn' p' d E e1 e2 e3 e4 a1 a2=>ret _ E _ rfl (a1.le λ_=>ZH _) (k2.trans a2) (.inr ⟨s,wd,n',p',d,es,rfl,e1,e2,e4,(λu e=>Decidable.byContradiction λz=>by rw[k2.fr _ _ e z]at e3;cases e3),hd⟩) (λz=>(a2.nw p z).elim H λy=>by rw[px]at y;cases y) (a2.fr _ _ px H) U Y l⟩
  delta OT;rcases hv with rfl|⟨f,T,es,rfl⟩|⟨f,y,m,es,hm,rfl⟩
  .rcases o with _|s
   .have stay:=stay rfl λs e=>nomatch e;simp only[Zb]at stay ⊢;simp!;refine⟨rfl,rfl,?_⟩;rw[UN];simp!;exact stay _ rfl _ _ _
   .cases s with
    |take f x=>
     have stay:=stay rfl λs e=>⟨f,decide_eq_true rfl⟩;simp only[Zb]at stay ⊢;simp!;refine⟨rfl,rfl,?_⟩;rw[UN];simp!;exact stay _ rfl _ _ _
    |give f T=>
     have stay:=stay rfl λs e=>⟨f,decide_eq_true rfl⟩;simp only[Zb]at stay ⊢;simp!;refine⟨rfl,rfl,?_⟩;rw[UN];simp!;exact stay _ rfl _ _ _
    |put x T=>
     have:=go _ .non rfl (λf x e=>nomatch e) (.inl ⟨λz=>rfl,rfl,rfl⟩) U Y l;simp only[Zb]at this ⊢;simp!;refine⟨rfl,rfl,?_⟩;rw[UN];simp!;delta BB
     simp![ob3,runO,valM]
     exact this
    |jump T x=>
     have:=go _ .non rfl (λf x e=>nomatch e) (.inl ⟨λz=>rfl,rfl,rfl⟩) U Y l;simp only[Zb]at this ⊢;simp!;refine⟨rfl,rfl,?_⟩;rw[UN];simp!;delta BB
     simp![ob3,runO,valM]
     exact this
  .have this:=go _ .non es (λf x e=>nomatch e) (.inr (.inl ⟨f,T,rfl,by rw[hρ],rfl⟩)) U Y l
   have ea:askO o L W.w=.tup [.str "give",.str f,.int (T.val L W.w)]:=by rw[es];rfl
   rw[ea]at this ⊢;simp!;refine⟨rfl,rfl,?_⟩;rw[UN];simp!;delta BB
   simp![ob3,runO,valM]
   exact this
  .have this:=go _ (.int (m:Int)) es (λf x e=>⟨_,rfl,by lia,by
    have e:((2:Int)^W.w)=((2^W.w:Nat):Int):=by rw[WF];rfl
    lia⟩) (.inr (.inr ⟨f,y,m,rfl,rfl,rfl⟩)) U Y l
   simp!;refine⟨rfl,rfl,?_⟩;rw[UN];simp!;delta BB
   simp![ob3,runO,valM]
   exact this
structure Sk where
 a:Nat
 kv:List (Key×MV)
 c:Str->Nat
def Sk.first(I:Isl):Sk:=⟨0,zipK I.vars ((I.prs.map (·.2)).map MV.int),λ_=>0⟩
def Sk.go(w:Nat)(S:Sk)(s:Stp)(wd:MV):Sk:=⟨(Zs s (rhoK S.kv) w S.a).toNat,Uh s S.kv (rhoK S.kv) w wd,λz=>if XI (some s) z=true then S.c z+1 else S.c z⟩
inductive Kn (W:Wld):Nat->Nat->Sk->Prop
 |init {i:Nat} {I:Isl}:W.isl[i]?=some I->Kn W i 0 (Sk.first I)
 |own {i n:Nat} {S:Sk} {I:Isl} {s:Stp}:Kn W i n S->W.isl[i]?=some I->I.stps[S.a]?=some s->(∀f x,s≠.take f x)->Kn W i (n+1) (S.go W.w s .non)
 |take {i n:Nat} {S:Sk} {I:Isl} {f x:Str} {g m:Nat} {S':Sk} {I':Isl} {T:Tm}:Kn W i n S->W.isl[i]?=some I->I.stps[S.a]?=some (.take f x)->Kn W g m S'->W.isl[g]?=some I'->I'.stps[S'.a]?=some (.give f T)->S'.c f=S.c f->Kn W i (n+1) (S.go W.w (.take f x) (.int (T.val (rhoK S'.kv) W.w)))
section
variable{W:Wld}
theorem go_c{w:Nat}{S:Sk}{s:Stp}{wd:MV}(z:Str):S.c z<=(S.go w s wd).c z/\(XI (some s) z=true->S.c z<(S.go w s wd).c z):=by
 show _<=(if _ then _ else _)/\(_->_<if _ then _ else _);split
 .exact⟨U5 _,λ_=>VA _⟩
 .exact⟨Xe _,λe=>absurd e (by assumption)⟩
def Hz(W:Wld)(i n:Nat)(S:Sk):Prop:=∀l,l<=n->∃j,Kn W i l j/\(∀z,j.c z<=S.c z)/\(l<n->∀(I:Isl)(s:Stp)z,W.isl[i]?=some I->I.stps[j.a]?=some s->XI (some s) z=true->j.c z<S.c z)
theorem SD{i n:Nat}{S:Sk}{I:Isl}{s:Stp}{wd:MV}(h:Kn W i n S)(u:Hz W i n S)(y:W.isl[i]?=some I)(m:I.stps[S.a]?=some s)(g:Kn W i (n+1) (S.go W.w s wd)):Hz W i (n+1) (S.go W.w s wd):=λj q=>by
 rcases Nat.lt_trichotomy j n with l|rfl|l
 .obtain⟨d,k,c,f⟩:=u j (UA l);exact⟨d,k,λz=>XY (c z) (go_c z).1,λ_ I s z a b e=>Yv (f l I s z a b e) (go_c z).1⟩
 .refine⟨S,h,λz=>(go_c z).1,λ_ r p z a b e=>?_⟩;rw[y]at a;cases a;rw[m]at b;cases b;exact(go_c z).2 e
 .obtain rfl:j=n+1:=by lia
  exact⟨_,g,λz=>Xe _,λl=>absurd l (Uz _)⟩
theorem Kn.pre{i n:Nat}{S:Sk}(h:Kn W i n S):Hz W i n S:=by
 induction h with
 |init j=>exact λr d=>⟨_,Nat.le_zero.mp d▸.init j,λz=>Xe _,λl=>by lia⟩
 |own h j u c y=>exact SD h y j u (.own h j u c)
 |take h j u g f m q y p=>exact SD h y j u (.take h j u g f m q)
theorem Kn.inv0{i:Nat}{S:Sk}(h:Kn W i 0 S):∃I,W.isl[i]?=some I/\S=.first I:=by
 cases h with
 |init j=>exact⟨_,j,rfl⟩
theorem Kn.inv{i n:Nat}{z:Sk}(h:Kn W i (n+1) z):∃S I s wd,Kn W i n S/\W.isl[i]?=some I/\I.stps[S.a]?=some s/\z=S.go W.w s wd/\((∀f x,s≠.take f x)/\wd=.non\/∃f x g m j d T,s=.take f x/\Kn W g m j/\W.isl[g]?=some d/\d.stps[j.a]?=some (.give f T)/\j.c f=S.c f/\wd=.int (T.val (rhoK j.kv) W.w)):=by
 cases h with
 |own h l u c=>exact⟨_,_,_,_,h,l,u,rfl,.inl ⟨c,rfl⟩⟩
 |take h l u g q y r=>exact⟨_,_,_,_,h,l,u,rfl,.inr ⟨_,_,_,_,_,_,_,rfl,g,q,y,r,rfl⟩⟩
noncomputable def Uq(W:Wld)(i n:Nat):Prop:=∀S j,Kn W i n S->Kn W i n j->S=j
theorem SE(G:W.Good){i j:Nat}{I J:Isl}(l:W.isl[i]?=some I)(u:W.isl[j]?=some J)(e:I.name=J.name):i=j:=
 (C6 (by rw[Vg];exact(XF.mp l).1) G.in_nd).mp ((_V l).trans ((_V u).trans (by rw[e])).symm)
theorem giv(G:W.Good){f:Str}{g m g' d:Nat}{S q:Sk}{I r:Isl}{T p:Tm}(h:Kn W g m S)(z:W.isl[g]?=some I)(e:I.stps[S.a]?=some (.give f T))(h':Kn W g' d q)(j:W.isl[g']?=some r)(y:r.stps[q.a]?=some (.give f p))(C:S.c f=q.c f)(u:∀n,n<=m->Uq W g n):S=q/\T=p:=by
 have O:=Xo z;have L:=Xo j;have R:=Xo e;obtain⟨x,U,rfl⟩:=XQ.mp ((G.io I O).st _ R).1;have Y:=G.en I O _ R x U rfl;have Z:=G.en r L _ (Xo y) x U rfl;obtain rfl:=SE G z j (Y.symm.trans Z);rw[z]at j;cases j;have A:XI (some (.give x.name T)) x.name=true:=decide_eq_true rfl;have N:XI (some (.give x.name p)) x.name=true:=decide_eq_true rfl;rcases Nat.lt_trichotomy m d with l|rfl|l
 .obtain⟨B,k,_,c⟩:=h'.pre m (UA l);obtain rfl:=u m (Xe _) _ _ h k;have:=c l _ _ _ z e A;lia
 .obtain rfl:=u m (Xe _) _ _ h h';rw[e]at y;cases y;exact⟨rfl,rfl⟩
 .obtain⟨B,k,_,c⟩:=h.pre d (UA l);obtain rfl:=u d (UA l) _ _ h' k;have:=c l _ _ _ z y N;lia
theorem Kn.uni(G:W.Good){i n:Nat}{S:Sk}(h:Kn W i n S):∀y,y<=n->Uq W i y:=by
 induction h with
 |init c=>
  intro y m A B a b;obtain rfl:=Nat.le_zero.mp m;obtain⟨L,u,rfl⟩:=a.inv0;obtain⟨D,j,rfl⟩:=b.inv0;rw[u]at j;cases j
  rfl
 |own h c q N d=>
  intro y m;rcases Ea m with l|rfl
  .exact d y (Nat.le_of_lt_succ l)
  have one:∀A,Kn W _ (_+1) A->A=_:=λA a=>by
   obtain⟨O,L,R,T,k,u,j,rfl,z⟩:=a.inv;obtain rfl:=d _ (Xe _) _ _ h k;rw[c]at u;cases u;rw[q]at j;cases j;rcases z with⟨_,rfl⟩|⟨f,x,_,_,_,_,_,e,_⟩
   .exact rfl
   .exact absurd e (N f x)
  exact λA B a b=>(one A a).trans (one B b).symm
 |take h c q g U r Y d Z=>
  intro y m;rcases Ea m with l|rfl
  .exact d y (Nat.le_of_lt_succ l)
  have one:∀A,Kn W _ (_+1) A->A=_:=λA a=>by
   obtain⟨O,L,R,T,k,u,j,rfl,z⟩:=a.inv;obtain rfl:=d _ (Xe _) _ _ h k;rw[c]at u;cases u;rw[q]at j;cases j;rcases z with⟨z,_⟩|⟨f,x,E,F,I,J,M,e,C,u,j,p,rfl⟩
   .exact absurd rfl (z _ _)
   .cases e;obtain⟨rfl,rfl⟩:=giv G g U r C u j (Y.trans p.symm) Z;exact rfl
  exact λA B a b=>(one A a).trans (one B b).symm
def Gv(W:Wld)(f:Str)(k v:Nat):Prop:=∃g m S I T,Kn W g m S/\W.isl[g]?=some I/\I.stps[S.a]?=some (.give f T)/\S.c f=k/\T.val (rhoK S.kv) W.w=(v:Int)
theorem Gv.uni(G:W.Good){f:Str}{k v j:Nat}(h:Gv W f k v)(h':Gv W f k j):v=j:=by
 obtain⟨g,m,S,I,T,a,b,c,d,e⟩:=h;obtain⟨r,p,L,N,O,l,u,y,z,q⟩:=h';obtain⟨rfl,rfl⟩:=giv G a b c l u y (d.trans z.symm) (a.uni G);exact Int.ofNat.inj (e.symm.trans q)
end
structure KnAt (W:Wld)(M:MH)(R:RunS):Prop where
 st:∀(i:Nat)I a n d,W.isl[i]?=some I->R.ws[i]?=some a->R.nums[i]?=some n->R.dn[i]?=some d->∃kv c,M a=some (.dic kv)/\Kn W i d ⟨n,kv,c⟩/\∀(j:Nat)f x,W.fer[j]?=some f->R.bs[j]?=some x->(f.giver=I.name->c f.name=x.A.ws.length)/\(f.taker=I.name->c f.name=x.A.tn)
 gv:∀(j:Nat)f x (k:Nat)v,W.fer[j]?=some f->R.bs[j]?=some x->x.A.ws[k]?=some v->Gv W f.name k v
noncomputable def RunS.all(R:RunS)(r:Addr):List Addr:=R.own r++R.pb::R.pg::R.pt::R.ws
theorem SF{w:Nat}{I:Isl}(l:I.vars.Nodup)(wd:∀p∈I.prs,0<=p.2/\p.2<2^w):YK (I.prs.map λp=>((Xs p.1:Key),MV.int p.2))=zipK I.vars ((I.prs.map (·.2)).map MV.int)/\WdOk w I (zipK I.vars ((I.prs.map (·.2)).map MV.int)):=by
 have e:∀j:List (Str×Int),(j.map λp=>((Xs p.1:Key),MV.int p.2))=zipK (j.map (·.1)) ((j.map (·.2)).map MV.int):=λj=>by
  induction j with
  |nil=>rfl
  |cons p r u=>rw[Xx,u];rfl
 refine⟨by rw[e];exact Hu (by simp) l,I.prs.map (·.2),by unfold Isl.vars;simp,rfl,λv y=>?_⟩
 obtain⟨p,z,rfl⟩:=XQ.mp y;exact wd p z
theorem _pU(ps:List (Str×Int)):ps.map prV=(ps.map λp=>((Xs p.1:Key),MV.int p.2)).map prM:=by rw[Yi];rfl
theorem SG:∀{ks:List Str} {vs ys:List MV},vs.length=ks.length->ys.length=ks.length->(∀(j:Nat)k v,ks[j]?=some k->vs[j]?=some v->ys[j]?=some (.tup [.str k,v]))->ys=(zipK ks vs).map prM
 |[],[],[],_,_,_=>rfl
 |[],_::_,_,h,_,_=>by cases h
 |[],_,_::_,_,h,_=>by cases h
 |_::_,[],_,h,_,_=>by cases h
 |_::_,_,[],_,h,_=>by cases h
 |k::ks,v::vs,y::ys,h1,h2,h=>by
  have e:=h 0 k v rfl rfl;have e:y=.tup [.str k,v]:=by simpa using e
  rw[e,SG (ks:=ks) (vs:=vs) (ys:=ys) (by simpa using h1) (by simpa using h2) λj k v a b=>by simpa using h (j+1) k v (by simpa using a) (by simpa using b)]
  rfl
theorem FrM.grow{M M1 M2:MH}{l:List Addr}(h:FrM M M1 l)(s:SameM M1 M2):FrM M M2 l:=λa o e n=>s a o (h a o e n)
theorem CV{l u:Type}{d:l}{f:l->u}{L:List l}{n:Nat}(h:L.length=n):(Xt n).map (λj=>f (L.getD j d))=L.map f:=by
 apply Wv;intro i;rw[Xq,Xq];by_cases hi:i<n
 .rw[Wt hi,X8 (by rw[h];exact hi),CI,CI,Yf,X8 (by rw[h];exact hi)];rfl
 .rw[ZC (by rw[Uu];lia),ZC (by lia)];rfl
def abOf(W:Wld)(j:Nat):Ab:=match W.fer[j]? with
 |some f=>ab0 f.k f.st
 |none=>ab0 0 1
def Zc(W:Wld)(l:List (List Addr))(gs u:List Addr)(j:Nat):Boat:=⟨(l.getD j []).getD 0 default,(l.getD j []).getD 1 default,(l.getD j []).getD 2 default,(l.getD j []).getD 3 default,gs.getD j default,u.getD j default,abOf W j⟩
theorem SH:∀{L:List (List Addr)} {i j:Nat} {x y:List Addr},L.flatten.Nodup->L[i]?=some x->L[j]?=some y->i≠j->∀a∈x,a∉y
 |[],_,_,_,_,_,h,_,_=>by simp at h
 |l::L,0,0,_,_,_,_,_,ne=>absurd rfl ne
 |l::L,0,j+1,x,y,nd,h1,h2,_=>λa u z=>by
  rw[ZD,Zg]at nd;obtain rfl:l=x:=by simpa using h1
  exact nd.2.2 a u a (Vt.mpr ⟨y,Xo (by simpa using h2),z⟩) rfl
 |l::L,i+1,0,x,y,nd,h1,h2,_=>λa u z=>by
  rw[ZD,Zg]at nd;obtain rfl:l=y:=by simpa using h2
  exact nd.2.2 a z a (Vt.mpr ⟨x,Xo (by simpa using h1),u⟩) rfl
 |l::L,i+1,j+1,x,y,nd,h1,h2,ne=>by
  rw[ZD,Zg]at nd;exact SH nd.2.1 (by simpa using h1) (by simpa using h2) (λe=>ne (by rw[e]))
theorem _X{L:List Addr}{j:Nat}(h:j<L.length):L.getD j default∈L/\L[j]?=some (L.getD j default):=by
 rw[Yf,X8 h];exact⟨XU h,rfl⟩
theorem SI{L:List Addr}(u:L.Nodup){i j:Nat}(l:i<L.length)(y:j<L.length)(z:i≠j):L.getD i default≠L.getD j default:=λe=>by
 have:=(C6 l u).mp ((_X l).2.trans ((congrArg some e).trans (_X y).2.symm));exact z this
abbrev Wi:SpM:=fun u M Q=>∃(r:Addr) (W:Wld),u=[.ref r,W.mv]/\M r=some (.ins "Run" [])/\W.Good/\∀R l,FrM M l [r]->RunAt l W r R (fun _=>R.m)->R.m=0->(∀(j:Nat)f y,W.fer[j]?=some f->R.bs[j]?=some y->y.A=ab0 f.k f.st)->(∀a∈R.all r,a=r\/M a=none)->R.nums=(W.isl.map fun _=>0)->R.dn=(W.isl.map fun _=>0)->(∀(i:Nat)I a,W.isl[i]?=some I->R.ws[i]?=some a->l a=some (.dic (zipK I.vars ((I.prs.map (·.2)).map MV.int))))->Q .non l
theorem SJ:MonW Wi:=by walk_at "m"
theorem _bs(T:Txt K mg t):FnOk P w K mg base CX0 6 t.aZ t.ck ["self","world"] (liSp K Wi):=by
 refine T.dX.okM _bf (_N (k:=5) (G:=OS) (Φ:=[]) (Ψ:=[("Ferry___init__",BL)]) (Χ:=[("Ferry___init__",BL)]) rfl (_O T) (_P T) rfl (fMc ⟨Sb,nl0⟩) nl0 nl0 (fMc ⟨⟨_,_,rfl,_,_,_,_,_,(by decide:4+1<=5),_9o T,T.aC,T.iG,T.gG,T.cO⟩,nl0⟩) (_Q T)) G8 _c6 (fun vs M Q h=>?_) (fun vs M Q h=>?_)
 .obtain⟨_,_,rfl,_⟩:=h;rfl
 obtain⟨r,W,rfl,hr,G,q⟩:=h;show wSs _ _ _ [some (.ref r),some W.mv] M;have hΦ:=(UH (Φ:=[("Ferry___init__",BL)]) (fMc ⟨Sb,nl0⟩));have i5:=G.i5;have f6:=G.f6;have dins:∀{C:List MV},C.length=W.isl.length->YK (zipK W.ins C)=zipK W.ins C:=λe=>Hu (by rw[Vg];exact e) G.in_nd
 have dfns:∀{C:List MV},C.length=W.fer.length->YK (zipK W.fns C)=zipK W.fns C:=λe=>Hu (by rw[BP];exact e) G.fn_nd
 delta G8 OR
 simp![hr,putM]
 have fr0:=(FrM.refl M [r]).upd (Y6.mpr rfl) (.ins "Run" [("world",W.mv)]);have r0:updM M r (.ins "Run" [("world",W.mv)]) r=some (.ins "Run" [("world",W.mv)]):=X9;generalize updM M r _=M0 at*;delta OQ
 simp![r0,putM]
 have fr1:=fr0.upd (Y6.mpr rfl) (.ins "Run" [("world",W.mv),("moment",.int 0)]);have r1:updM M0 r (.ins "Run" [("world",W.mv),("moment",.int 0)]) r=some (.ins "Run" [("world",W.mv),("moment",.int 0)]):=X9;generalize updM M0 r _=M1 at*;delta OP;simp!;refine _q W.isl Isl.mv (λI=>.tup [.str I.name,.int 0]) ?_ ?_ hΦ λD hD=>?_
 .simp![Wld.mv]
  exact⟨rfl,by lia,trivial⟩
 .intro I hI M' s;simp only[sCm,Xx,Yc,Yn,Yo,Yg,Y7]
  simp![Isl.mv]
  try exact⟨rfl,rfl⟩
 rw[Su W.isl (·.name) (λ_=>.int 0)];have s2:=SameM.new hD (.lst ((zipK (W.isl.map (·.name)) (W.isl.map λ_=>MV.int 0)).map prM));have d2:updM M1 D (.lst ((zipK (W.isl.map (·.name)) (W.isl.map λ_=>MV.int 0)).map prM)) D=some (.lst ((zipK (W.isl.map (·.name)) (W.isl.map λ_=>MV.int 0)).map prM)):=X9;generalize updM M1 D _=M2 at*;simp!;refine⟨_,d2,λF hpn=>?_⟩;have e2:YK (zipK (W.isl.map (·.name)) (W.isl.map λ_=>MV.int 0))=zipK W.ins ((W.isl.map λ_=>0).map natM):=by rw[Yi];exact dins (by rw[Xd])
 rw[e2];have s3:=s2.trans (SameM.new hpn (.dic (zipK W.ins ((W.isl.map λ_=>0).map natM))));have hn3:updM M2 F (.dic (zipK W.ins ((W.isl.map λ_=>0).map natM))) F=some (.dic (zipK W.ins ((W.isl.map λ_=>0).map natM))):=X9;have rpn:F≠r:=(neM (s2 _ _ r1) hpn).symm;have f_pn:M1 F=none:=s2.free hpn;generalize updM M2 F _=M3 at*;have r3:=s3 _ _ r1
 simp![r3,putM]
 obtain⟨X,E⟩:∃X,X=MO.ins "Run" [("world",W.mv),("moment",.int 0),("next_numbers",.ref F)]:=⟨_,rfl⟩;rw[<-E];have fr4:=(fr1.grow s3).upd (Y6.mpr rfl) X;have r4:updM M3 r X r=some X:=X9;have hn4:updM M3 r X F=_:=(Xc rpn).trans hn3;generalize updM M3 r _=M4 at*;subst E;delta OO;simp!;refine Hv W.isl Isl.mv (·.name) (λI=>.dic (zipK I.vars ((I.prs.map (·.2)).map MV.int))) (λM'=>M'=M4) ?_ ?_ hΦ λD5 J M5 hD5 s5 wl wnd Dn5 wfree wat hd5=>?_
 .simp![Wld.mv]
  first|exact .inl ⟨trivial,rfl⟩|exact⟨rfl,by lia,.inl ⟨trivial,rfl⟩,rfl⟩|exact⟨rfl,by lia,.inl ⟨trivial,rfl⟩⟩|exact⟨by lia,.inl ⟨trivial,rfl⟩⟩|exact⟨rfl,.inl ⟨trivial,rfl⟩⟩
 .intro I hI Ma M' e s;have ok:=G.io I hI;simp only[sCm,Xx,Yc,Yn,Yo,Yg,Y7]
  simp![Isl.mv]
  refine⟨_,_pU I.prs,λp hp=>?_⟩;exact⟨p,hp,rfl,by rw[(SF (w:=W.w) ok.nd ok.wd).1]⟩
 simp!;refine⟨_,hd5,λS hpw=>?_⟩;have e5:YK (zipK (W.isl.map (·.name)) (J.map MV.ref))=zipK W.ins (J.map MV.ref):=dins (by rw[Xd];exact wl)
 rw[e5];have s6:=s5.trans (SameM.new hpw (.dic (zipK W.ins (J.map MV.ref))));have hw6:updM M5 S (.dic (zipK W.ins (J.map MV.ref))) S=some (.dic (zipK W.ins (J.map MV.ref))):=X9;have k7:∀(j:Nat)a x,J[j]?=some a->W.isl[j]?=some x->updM M5 S (.dic (zipK W.ins (J.map MV.ref))) a=some (.dic (zipK x.vars ((x.prs.map (·.2)).map MV.int))):=λj a x h1 h2=>SameM.new hpw _ _ _ (wat j a x h1 h2);have wpw:S∉J:=λz=>by
  obtain⟨j,O,e⟩:=Y5 z;have:=wat j _ _ (X8 O) (X8 (by rw[<-wl];exact O))
  rw[e,hpw]at this;cases this
 have rpw:S≠r:=(neM (s5 _ _ r4) hpw).symm;have rws:∀a∈J,a≠r:=λa l=>(neM r4 (wfree a l)).symm;have k9:M4 S=none:=s5.free hpw;generalize updM M5 S _=M6 at*;have r6:=s6 _ _ r4;have hn6:=s6 _ _ hn4;have wpn:F∉J:=λz=>absurd hn4 (by rw[wfree _ z];intro y;cases y)
 have pnw:F≠S:=neM hn4 k9
 simp![r6,putM]
 obtain⟨X,E⟩:∃X,X=MO.ins "Run" [("world",W.mv),("moment",.int 0),("next_numbers",.ref F),("words_now",.ref S)]:=⟨_,rfl⟩;rw[<-E];have fr7:=(fr4.grow s6).upd (Y6.mpr rfl) X;have r7:updM M6 r X r=some X:=X9;have hn7:updM M6 r X F=_:=(Xc rpn).trans hn6;have hw7:updM M6 r X S=_:=(Xc rpw).trans hw6;have jR:∀(j:Nat)a x,J[j]?=some a->W.isl[j]?=some x->updM M6 r X a=some (.dic (zipK x.vars ((x.prs.map (·.2)).map MV.int))):=λj a x h1 h2=>(Xc (rws a (Xo h1))).trans (k7 j a x h1 h2);generalize updM M6 r _=M7 at*;subst E;delta ON;simp!;refine _q W.isl Isl.mv (λI=>.tup [.str I.name,.int 0]) ?_ ?_ hΦ λD8 hD8=>?_
 .simp![Wld.mv]
  exact⟨rfl,by lia,trivial⟩
 .intro I hI M' s;simp only[sCm,Xx,Yc,Yn,Yo,Yg,Y7]
  simp![Isl.mv]
  try exact⟨rfl,rfl⟩
 rw[Su W.isl (·.name) (λ_=>.int 0)];have s8:=SameM.new hD8 (.lst ((zipK (W.isl.map (·.name)) (W.isl.map λ_=>MV.int 0)).map prM));have d8:updM M7 D8 (.lst ((zipK (W.isl.map (·.name)) (W.isl.map λ_=>MV.int 0)).map prM)) D8=some (.lst ((zipK (W.isl.map (·.name)) (W.isl.map λ_=>MV.int 0)).map prM)):=X9;generalize updM M7 D8 _=M8 at*;simp!;refine⟨_,d8,λC hps=>?_⟩;rw[e2];have s9:=s8.trans (SameM.new hps (.dic (zipK W.ins ((W.isl.map λ_=>0).map natM))));have hs9:updM M8 C (.dic (zipK W.ins ((W.isl.map λ_=>0).map natM))) C=some (.dic (zipK W.ins ((W.isl.map λ_=>0).map natM))):=X9;have rps:C≠r:=(neM (s8 _ _ r7) hps).symm;have jK:M7 C=none:=s8.free hps;generalize updM M8 C _=M9 at*;have r9:=s9 _ _ r7;have hn9:=s9 _ _ hn7;have hw9:=s9 _ _ hw7;have pns:F≠C:=neM hn7 jK;have pws:S≠C:=neM hw7 jK;have wps:C∉J:=λz=>by
  obtain⟨j,O,e⟩:=Y5 z;have:=jR j _ _ (X8 O) (X8 (by rw[<-wl];exact O))
  rw[e,jK]at this;cases this
 simp![r9,putM]
 obtain⟨X,E⟩:∃X,X=MO.ins "Run" [("world",W.mv),("moment",.int 0),("next_numbers",.ref F),("words_now",.ref S),("steps_so_far",.ref C)]:=⟨_,rfl⟩;rw[<-E];have jS:=(fr7.grow s9).upd (Y6.mpr rfl) X;have r10:updM M9 r X r=some X:=X9;have jB:∀a o,M9 a=some o->a≠r->updM M9 r X a=some o:=λa o e z=>(Xc z).trans e;generalize updM M9 r _=M10 at*;subst E;have kc:=jB _ _ hn9 rpn;have ke:=jB _ _ hw9 rpw;have kf:=jB _ _ hs9 rps;have jQ:∀(j:Nat)a x,J[j]?=some a->W.isl[j]?=some x->M10 a=some (.dic (zipK x.vars ((x.prs.map (·.2)).map MV.int))):=λj a x h1 h2=>jB _ _ (s9 _ _ (jR j a x h1 h2)) (rws a (Xo h1));clear jB s9 s8 s6 s5 s3 s2 jR k7 wat d8 d2 hd5 r9 r7 r6 r4 r3 hn9 hn7 hn6 hn4 hn3 hw9 hw7 hw6 hs9;delta OM;simp!;refine Sv W.fer Fer.mv (λf y N M2=>∃b p g u,N=[b,p,g,u]/\y=.tup [.str f.name,.ref b]/\FyAt M2 b p g u (ab0 f.k f.st)) (λM'=>M'=M10) ?_ ?_ ?_ hΦ λD11 ys B M11 hD11 s11 yl Nl Nnd DN Nfree Nat_ hd11=>?_
 .rintro f y N M2 M3 hk ⟨b,p,g,u,rfl,e1,R⟩;obtain⟨pl,hp,H⟩:=R.pls;exact⟨b,p,g,u,rfl,e1,⟨R.ok,(hk b (by simp)).trans R.fe,⟨pl,(hk p (by simp)).trans hp,H⟩,(hk g (by simp)).trans R.gi,(hk u (by simp)).trans R.ta,R.ne⟩⟩
 .simp![Wld.mv]
  first|exact .inl ⟨trivial,rfl⟩|exact⟨rfl,by lia,.inl ⟨trivial,rfl⟩,rfl⟩|exact⟨rfl,by lia,.inl ⟨trivial,rfl⟩⟩|exact⟨by lia,.inl ⟨trivial,rfl⟩⟩|exact⟨rfl,.inl ⟨trivial,rfl⟩⟩
 .intro f hf Ma M' e s;have fo:=G.fo f hf;simp only[sCm,Xx,Yc,Yn,Yo,Yg,Y7]
  simp![Fer.mv]
  intro b hb;refine⟨b,f.k,f.st,rfl,X9,by have:=fo.k3;lia,fo.s1,fo.s3,λp g u M3 hp hg hu fr R=>?_⟩
  have fb:updM M' b (.ins "Ferry" []) b=some (.ins "Ferry" []):=X9;have ne:∀z,updM M' b (.ins "Ferry" []) z=none->z≠b/\M' z=none:=fun z hz=>by
   have n:z≠b:=(neM fb hz).symm;exact⟨n,by rw[Xc n]at hz;exact hz⟩
  obtain⟨pl,H,_⟩:=R.pls;have pg:p≠g:=λz=>by rw[z,R.gi]at H;cases H
  have pu:p≠u:=λz=>by rw[z,R.ta]at H;cases H
  have sm:SameM M' M3:=λa o ea=>by
   have n:a≠b:=neM ea hb;exact fr a o ((Xc n).trans ea) (by simpa using n)
  try simp!
  refine⟨sm,[b,p,g,u],?_,λa l=>?_,b,p,g,u,rfl,rfl,R⟩
  .simp only[Yp,Xk,XJ,or_false,not_or,not_false_eq_true,List.nodup_nil,and_true];exact⟨⟨(ne p hp).1.symm,(ne g hg).1.symm,(ne u hu).1.symm⟩,⟨pg,pu⟩,R.ne⟩
  .simp only[Xk,XJ,or_false]at l;rcases l with rfl|rfl|rfl|rfl
   .exact⟨hb,_,R.fe⟩
   .exact⟨(ne _ hp).2,_,H⟩
   .exact⟨(ne _ hg).2,_,R.gi⟩
   .exact⟨(ne _ hu).2,_,R.ta⟩
 have eys:ys=(zipK W.fns (B.map λN=>MV.ref (N.getD 0 default))).map prM:=by
  refine SG (by rw[Xd,BP];exact Nl) (by rw[BP];exact yl) λj k v hk hv=>?_
  have O:j<W.fer.length:=by rw[<-BP];exact(XF.mp hk).1
  have hfj:=X8 O;rw[We hfj]at hk;cases hk;have U:=X8 (show j<B.length by rw[Nl];exact O)
  have hY:=X8 (show j<ys.length by rw[yl];exact O)
  rw[Xq,U]at hv;cases hv;obtain⟨b,p,g,u,eN,ey,_⟩:=Nat_ j _ _ _ hfj hY U;rw[hY,ey,eN];rfl
 rw[eys]at hd11;simp!;refine⟨_,hd11,λpb hpb=>?_⟩;rw[dfns (by rw[Xd];exact Nl)]
 have s12:=s11.trans (SameM.new hpb (.dic (zipK W.fns (B.map λN=>MV.ref (N.getD 0 default)))));have hb12:updM M11 pb (.dic (zipK W.fns (B.map λN=>MV.ref (N.getD 0 default)))) pb=some (.dic (zipK W.fns (B.map λN=>MV.ref (N.getD 0 default)))):=X9;have rpb:pb≠r:=(neM (s11 _ _ r10) hpb).symm;have jC:M10 pb=none:=s11.free hpb;have rN:∀N∈B,∀a∈N,a≠r:=λN U a l=>(neM r10 (Nfree a (Vt.mpr ⟨N,U,l⟩))).symm;obtain⟨Fx,hFx⟩:∃Fx:MH->Prop,∀X,Fx X↔(X F=some (.dic (zipK W.ins ((W.isl.map λ_=>0).map natM)))/\X S=some (.dic (zipK W.ins (J.map MV.ref)))/\X C=some (.dic (zipK W.ins ((W.isl.map λ_=>0).map natM)))/\X pb=some (.dic (zipK W.fns (B.map λN=>MV.ref (N.getD 0 default))))/\(∀(j:Nat)a x,J[j]?=some a->W.isl[j]?=some x->X a=some (.dic (zipK x.vars ((x.prs.map (·.2)).map MV.int))))/\∀(j:Nat)f N,W.fer[j]?=some f->B[j]?=some N->∃b p g u,N=[b,p,g,u]/\FyAt X b p g u (ab0 f.k f.st)):=⟨_,λ_=>Ye⟩;have fx:∀X Y,(∀a o,X a=some o->a≠r->Y a=some o)->Fx X->Fx Y:=λX Y k h=>by
  obtain⟨h1,h2,h3,h4,h5,h6⟩:=(hFx X).mp h;refine(hFx Y).mpr ⟨k _ _ h1 rpn,k _ _ h2 rpw,k _ _ h3 rps,k _ _ h4 rpb,λj a x e1 e2=>k _ _ (h5 j a x e1 e2) (rws a (Xo e1)),λj f N e1 e2=>?_⟩;obtain⟨b,p,g,u,rfl,R⟩:=h6 j f N e1 e2;have rn:=rN _ (Xo e2);obtain⟨pl,hp,H⟩:=R.pls;exact⟨b,p,g,u,rfl,⟨R.ok,k _ _ R.fe (rn b (by simp)),⟨pl,k _ _ hp (rn p (by simp)),H⟩,k _ _ R.gi (rn g (by simp)),k _ _ R.ta (rn u (by simp)),R.ne⟩⟩
 have F12:Fx (updM M11 pb (.dic (zipK W.fns (B.map λN=>MV.ref (N.getD 0 default))))):=(hFx _).mpr ⟨s12 _ _ kc,s12 _ _ ke,s12 _ _ kf,hb12,λj a x e1 e2=>s12 _ _ (jQ j a x e1 e2),λj f N e1 e2=>by
  have hY:=X8 (show j<ys.length by rw[yl];exact(XF.mp e1).1)
  obtain⟨b,p,g,u,e,_,R⟩:=Nat_ j f _ N e1 hY e2;exact⟨b,p,g,u,e,R.keep (SameM.new hpb _)⟩⟩
 have Nsome:∀N∈B,∀a∈N,a≠pb:=λN U a l=>by
  obtain⟨j,O,rfl⟩:=Y5 U;have hj2:j<W.fer.length:=by rw[<-Nl];exact O
  obtain⟨b,p,g,u,e,_,R⟩:=Nat_ j _ _ _ (X8 hj2) (X8 (show j<ys.length by rw[yl];exact hj2)) (X8 O)
  obtain⟨pl,hp,_⟩:=R.pls;rw[e]at l;simp only[Xk,XJ,or_false]at l;rcases l with rfl|rfl|rfl|rfl
  .exact neM R.fe hpb
  .exact neM hp hpb
  .exact neM R.gi hpb
  .exact neM R.ta hpb
 have jy:F≠pb/\S≠pb/\C≠pb/\pb∉J:=⟨neM kc jC,neM ke jC,neM kf jC,λz=>by
  obtain⟨j,O,e⟩:=Y5 z;have:=jQ j _ _ (X8 O) (X8 (by rw[<-wl];exact O))
  rw[e,jC]at this;cases this⟩
 generalize updM M11 pb _=M12 at*;have r12:=s12 _ _ r10
 simp![r12,putM]
 obtain⟨X,E⟩:∃X,X=MO.ins "Run" [("world",W.mv),("moment",.int 0),("next_numbers",.ref F),("words_now",.ref S),("steps_so_far",.ref C),("boats",.ref pb)]:=⟨_,rfl⟩;rw[<-E];have jT:=(jS.grow s12).upd (Y6.mpr rfl) X;have r13:updM M12 r X r=some X:=X9;have F13:=fx _ (updM M12 r X) (λa o e z=>(Xc z).trans e) F12;generalize updM M12 r _=M13 at*;subst E;clear F12 r12 s12 s11 hd11 eys;delta OL;simp!;refine Hv W.fer Fer.mv (·.name) (λ_=>.lst []) (λM'=>M'=M13) ?_ ?_ hΦ λD14 Z M14 hD14 s14 gsl gnd Dg gfree gat hd14=>?_
 .simp![Wld.mv]
  first|exact .inl ⟨trivial,rfl⟩|exact⟨rfl,by lia,.inl ⟨trivial,rfl⟩,rfl⟩|exact⟨rfl,by lia,.inl ⟨trivial,rfl⟩⟩|exact⟨by lia,.inl ⟨trivial,rfl⟩⟩|exact⟨rfl,.inl ⟨trivial,rfl⟩⟩
 .intro f hf Ma M' e s;simp only[sCm,Xx,Yc,Yn,Yo,Yg,Y7]
  simp![Fer.mv]
  exact λp hp=>⟨p,hp,rfl,rfl⟩
 simp!;refine⟨_,hd14,λpg hpg=>?_⟩;have e14:YK (zipK (W.fer.map (·.name)) (Z.map MV.ref))=zipK W.fns (Z.map MV.ref):=dfns (by rw[Xd];exact gsl)
 rw[e14];have s15:=s14.trans (SameM.new hpg (.dic (zipK W.fns (Z.map MV.ref))));have kg:updM M14 pg (.dic (zipK W.fns (Z.map MV.ref))) pg=some (.dic (zipK W.fns (Z.map MV.ref))):=X9;have rpg:pg≠r:=(neM (s14 _ _ r13) hpg).symm;have jA:M13 pg=none:=s14.free hpg;have rgs:∀a∈Z,a≠r:=λa l=>(neM r13 (gfree a l)).symm;have g15:∀a∈Z,updM M14 pg (.dic (zipK W.fns (Z.map MV.ref))) a=some (.lst []):=λa l=>by
  obtain⟨j,O,rfl⟩:=Y5 l;exact SameM.new hpg _ _ _ (gat j _ _ (X8 O) (X8 (by rw[<-gsl];exact O)))
 generalize updM M14 pg _=M15 at*;have r15:=s15 _ _ r13;have F15:=fx _ M15 (λa o e _=>s15 a o e) F13
 simp![r15,putM]
 obtain⟨X,E⟩:∃X,X=MO.ins "Run" [("world",W.mv),("moment",.int 0),("next_numbers",.ref F),("words_now",.ref S),("steps_so_far",.ref C),("boats",.ref pb),("given_so_far",.ref pg)]:=⟨_,rfl⟩;rw[<-E];have jU:=(jT.grow s15).upd (Y6.mpr rfl) X;have r16:updM M15 r X r=some X:=X9;have jL:∀a o,M15 a=some o->a≠r->updM M15 r X a=some o:=λa o e z=>(Xc z).trans e;generalize updM M15 r _=M16 at*;subst E;have F16:=fx _ M16 jL F15;have kh:=jL _ _ kg rpg;have g16:∀a∈Z,M16 a=some (.lst []):=λa l=>jL _ _ (g15 a l) (rgs a l);clear jL g15 kg r15 F15 s15 s14 hd14 gat;delta OK;simp!;refine Hv W.fer Fer.mv (·.name) (λ_=>.lst []) (λM'=>M'=M16) ?_ ?_ hΦ λD17 A M17 hD17 s17 tsl tnd Dt tfree tat hd17=>?_
 .simp![Wld.mv]
  first|exact .inl ⟨trivial,rfl⟩|exact⟨rfl,by lia,.inl ⟨trivial,rfl⟩,rfl⟩|exact⟨rfl,by lia,.inl ⟨trivial,rfl⟩⟩|exact⟨by lia,.inl ⟨trivial,rfl⟩⟩|exact⟨rfl,.inl ⟨trivial,rfl⟩⟩
 .intro f hf Ma M' e s;simp only[sCm,Xx,Yc,Yn,Yo,Yg,Y7]
  simp![Fer.mv]
  exact λp hp=>⟨p,hp,rfl,rfl⟩
 simp!;refine⟨_,hd17,λpt hpt=>?_⟩;have e17:YK (zipK (W.fer.map (·.name)) (A.map MV.ref))=zipK W.fns (A.map MV.ref):=dfns (by rw[Xd];exact tsl)
 rw[e17];have s18:=s17.trans (SameM.new hpt (.dic (zipK W.fns (A.map MV.ref))));have ht18:updM M17 pt (.dic (zipK W.fns (A.map MV.ref))) pt=some (.dic (zipK W.fns (A.map MV.ref))):=X9;have rpt:pt≠r:=(neM (s17 _ _ r16) hpt).symm;have jq:M16 pt=none:=s17.free hpt;have rts:∀a∈A,a≠r:=λa l=>(neM r16 (tfree a l)).symm;have t18:∀a∈A,updM M17 pt (.dic (zipK W.fns (A.map MV.ref))) a=some (.lst []):=λa l=>by
  obtain⟨j,O,rfl⟩:=Y5 l;exact SameM.new hpt _ _ _ (tat j _ _ (X8 O) (X8 (by rw[<-tsl];exact O)))
 generalize updM M17 pt _=M18 at*;have r18:=s18 _ _ r16;have F18:=fx _ M18 (λa o e _=>s18 a o e) F16
 simp![r18,putM]
 obtain⟨X,E⟩:∃X,X=MO.ins "Run" [("world",W.mv),("moment",.int 0),("next_numbers",.ref F),("words_now",.ref S),("steps_so_far",.ref C),("boats",.ref pb),("given_so_far",.ref pg),("taken_so_far",.ref pt)]:=⟨_,rfl⟩;rw[<-E];have fr19:=(jU.grow s18).upd (Y6.mpr rfl) X;have r19:updM M18 r X r=some X:=X9;have jD:∀a o,M18 a=some o->a≠r->updM M18 r X a=some o:=λa o e z=>(Xc z).trans e;generalize updM M18 r _=M19 at*;subst E;have F19:=fx _ M19 jD F18;have hg19:=jD _ _ (s18 _ _ kh) rpg;have g19:∀a∈Z,M19 a=some (.lst []):=λa l=>jD _ _ (s18 _ _ (g16 a l)) (rgs a l);have ht19:=jD _ _ ht18 rpt;have t19:∀a∈A,M19 a=some (.lst []):=λa l=>jD _ _ (t18 a l) (rts a l);obtain⟨hn,hw,hs,hb,wat,nat⟩:=(hFx _).mp F19;obtain⟨n13,w13,p13,b13,wat13,nat13⟩:=(hFx _).mp F13;obtain⟨n16,w16,p16,b16,wat16,nat16⟩:=(hFx _).mp F16;have Nin:∀(X:MH),(∀(j:Nat)f N,W.fer[j]?=some f->B[j]?=some N->∃b p g u,N=[b,p,g,u]/\FyAt X b p g u (ab0 f.k f.st))->∀N∈B,∀a∈N,∃o,X a=some o:=λX E N U a l=>by
  obtain⟨j,O,rfl⟩:=Y5 U;obtain⟨b,p,g,u,e,R⟩:=E j _ _ (X8 (by rw[<-Nl];exact O)) (X8 O)
  obtain⟨pl,hp,_⟩:=R.pls;rw[e]at l;simp only[Xk,XJ,or_false]at l;rcases l with rfl|rfl|rfl|rfl
  .exact⟨_,R.fe⟩
  .exact⟨_,hp⟩
  .exact⟨_,R.gi⟩
  .exact⟨_,R.ta⟩
 have Ng:∀N∈B,∀a∈N,a∉Z:=λN U a l z=>by
  obtain⟨o,e⟩:=Nin _ nat13 N U a l;rw[gfree a z]at e;cases e
 have Nt:∀N∈B,∀a∈N,a∉A:=λN U a l z=>by
  obtain⟨o,e⟩:=Nin _ nat16 N U a l;rw[tfree a z]at e;cases e
 have gt:∀a∈Z,a∉A:=λa l z=>by
  have:=g16 a l;rw[tfree a z]at this;cases this
 have at_:∀(j:Nat)f,W.fer[j]?=some f->∃b p g u,B[j]?=some [b,p,g,u]/\FyAt M19 b p g u (ab0 f.k f.st)/\Zc W B Z A j=⟨b,p,g,u,Z.getD j default,A.getD j default,ab0 f.k f.st⟩:=λj f hf=>by
  have O:j<B.length:=by rw[Nl];exact(XF.mp hf).1
  have U:=X8 O;obtain⟨b,p,g,u,e,R⟩:=nat j f _ hf U;rw[e]at U;refine⟨b,p,g,u,U,R,?_⟩;have eg:B.getD j []=[b,p,g,u]:=by rw[Yf,U];rfl
  unfold Zc abOf;rw[hf,eg];rfl
 have bat:∀(j:Nat)x,((Xt W.fer.length).map (Zc W B Z A))[j]?=some x->j<W.fer.length/\x=Zc W B Z A j:=λj x h=>by
  have O:=(XF.mp h).1;rw[Xd,Uu]at O;rw[Xq,Wt O]at h;exact⟨O,(Y9 h).symm⟩
 have adsI:∀j,j<W.fer.length->∀a∈(Zc W B Z A j).ads,(∃N,B[j]?=some N/\a∈N)\/a=Z.getD j default\/a=A.getD j default:=λj O a l=>by
  obtain⟨b,p,g,u,U,_,e⟩:=at_ j _ (X8 O);rw[e]at l;simp only[Boat.ads,Xk,XJ,or_false]at l;rcases l with c|c|c|c|c|c
  .exact .inl ⟨_,U,by simp[c]⟩
  .exact .inl ⟨_,U,by simp[c]⟩
  .exact .inl ⟨_,U,by simp[c]⟩
  .exact .inl ⟨_,U,by simp[c]⟩
  .exact .inr (.inl c)
  .exact .inr (.inr c)
 have free:∀X,FrM M X [r]->∀a,a≠r->X a=none->M a=none:=λX fr a ne hx=>by
  cases e:M a with
  |none=>rfl
  |some o=>rw[fr a o e (by simpa using ne)]at hx;cases hx
 have eb:((Xt W.fer.length).map (Zc W B Z A)).map (λx=>MV.ref x.b)=B.map λN=>MV.ref (N.getD 0 default):=by
  rw[Yi];exact CV (d:=[]) (f:=λN=>MV.ref (N.getD 0 default)) Nl
 have eg:((Xt W.fer.length).map (Zc W B Z A)).map (λx=>MV.ref x.gl)=Z.map MV.ref:=by
  rw[Yi];exact CV (d:=default) (f:=MV.ref) gsl
 have et:((Xt W.fer.length).map (Zc W B Z A)).map (λx=>MV.ref x.tl)=A.map MV.ref:=by
  rw[Yi];exact CV (d:=default) (f:=MV.ref) tsl
 have wno:∀(X:MH)(z:Addr),(∀(j:Nat)a x,J[j]?=some a->W.isl[j]?=some x->X a=some (.dic (zipK x.vars ((x.prs.map (·.2)).map MV.int))))->X z=none->z∉J:=λX z E hz c=>by
  obtain⟨j,O,e⟩:=Y5 c;have:=E j _ _ (X8 O) (X8 (by rw[<-wl];exact O))
  rw[e,hz]at this;cases this
 refine q ⟨0,W.isl.map λ_=>0,J,W.isl.map λ_=>0,(Xt W.fer.length).map (Zc W B Z A),F,S,C,pb,pg,pt⟩ M19 fr19 ⟨r19,hn,hw,hs,?_,?_,?_,by rw[Xd],wl,by rw[Xd],by rw[Xd,Uu],λi I m hI hm=>?_,λi I a hI l=>⟨_,wat i a I l hI,(SF (G.io I (Xo hI)).nd (G.io I (Xo hI)).wd).2⟩,λj f x hf hx=>?_,λi j x y ne hx hy a l hb=>?_,?_⟩ rfl (λj f y hf hy=>?_) (λa l=>?_) rfl rfl (λi I a hI l=>wat i a I l hI)
 .show M19 pb=some (.dic (zipK W.fns (((Xt W.fer.length).map (Zc W B Z A)).map (λx=>MV.ref x.b))));rw[eb];exact hb
 .show M19 pg=some (.dic (zipK W.fns (((Xt W.fer.length).map (Zc W B Z A)).map (λx=>MV.ref x.gl))));rw[eg];exact hg19
 .show M19 pt=some (.dic (zipK W.fns (((Xt W.fer.length).map (Zc W B Z A)).map (λx=>MV.ref x.tl))));rw[et];exact ht19
 .have hm:(W.isl.map λ_=>0)[i]?=some m:=hm;rw[Xq,hI]at hm;cases hm;exact YS _
 .obtain⟨O,rfl⟩:=bat j x hx;obtain⟨b,p,g,u,U,R,e⟩:=at_ j f hf;rw[e];have g1:=(_X (L:=Z) (j:=j) (by rw[gsl];exact O)).1
  have t1:=(_X (L:=A) (j:=j) (by rw[tsl];exact O)).1
  have pm:p∈ [b,p,g,u]:=by simp
  have q1:Z.getD j default≠A.getD j default:=λz=>gt _ g1 (z▸t1);have q2:Z.getD j default≠p:=λz=>Ng _ (Xo U) p pm (z▸g1);have q3:A.getD j default≠p:=λz=>Nt _ (Xo U) p pm (z▸t1);exact⟨R,g19 _ g1,t19 _ t1,⟨q1,q2,q3⟩,rfl,(by decide:(-1:Int)<0),(by decide:(-1:Int)<0),λz hz=>by cases hz⟩
 .obtain⟨hi,rfl⟩:=bat i x hx;obtain⟨O,rfl⟩:=bat j y hy;have gi:=(_X (L:=Z) (j:=i) (by rw[gsl];exact hi)).1
  have gj:=(_X (L:=Z) (j:=j) (by rw[gsl];exact O)).1
  have ti:=(_X (L:=A) (j:=i) (by rw[tsl];exact hi)).1
  have tj:=(_X (L:=A) (j:=j) (by rw[tsl];exact O)).1
  rcases adsI i hi a l with⟨N,U,c⟩|c|c<;>rcases adsI j O a hb with⟨N',hN',d⟩|d|d
  .exact SH Nnd U hN' ne a c d
  .exact Ng N (Xo U) a c (d▸gj)
  .exact Nt N (Xo U) a c (d▸tj)
  .exact Ng N' (Xo hN') a d (c▸gi)
  .exact SI gnd (by rw[gsl];exact hi) (by rw[gsl];exact O) ne (c.symm.trans d)
  .exact gt a (c▸gi) (d▸tj)
  .exact Nt N' (Xo hN') a d (c▸ti)
  .exact gt a (d▸gj) (c▸ti)
  .exact SI tnd (by rw[tsl];exact hi) (by rw[tsl];exact O) ne (c.symm.trans d)
 .show(F::S::C::pb::pg::pt::J).Nodup;simp only[Yp,Xk,not_or];exact⟨⟨pnw,pns,jy.1,neM n13 jA,neM n16 jq,wpn⟩,⟨pws,jy.2.1,neM w13 jA,neM w16 jq,wpw⟩,⟨jy.2.2.1,neM p13 jA,neM p16 jq,wps⟩,⟨neM b13 jA,neM b16 jq,jy.2.2.2⟩,⟨neM kh jq,wno _ _ wat13 jA⟩,wno _ _ wat16 jq,wnd⟩
 .obtain⟨hj2,rfl⟩:=bat j y hy;obtain⟨b,p,g,u,U,R,e⟩:=at_ j f hf;rw[e]
 .simp only[RunS.all,RunS.own,Yh,Xk,Uv]at l;rcases l with(c|c|c|c|⟨x,hx,c⟩)|c|c|c|c
  rotate_right 4
  .exact .inr (c▸free _ jS _ rpb jC)
  .exact .inr (c▸free _ jT _ rpg jA)
  .exact .inr (c▸free _ jU _ rpt jq)
  .exact .inr (free _ fr4 _ (rws a c) (wfree a c))
  .exact .inl c
  .exact .inr (c▸free _ fr1 _ rpn f_pn)
  .exact .inr (c▸free _ fr4 _ rpw k9)
  .exact .inr (c▸free _ fr7 _ rps jK)
  .obtain⟨j,O,e⟩:=Y5 hx;obtain⟨hj2,rfl⟩:=bat j x (by rw[X8 O,e])
   have g1:=(_X (L:=Z) (j:=j) (by rw[gsl];exact hj2)).1
   have t1:=(_X (L:=A) (j:=j) (by rw[tsl];exact hj2)).1
   rcases adsI j hj2 a c with⟨N,U,d⟩|d|d
   .exact .inr (free _ jS _ (rN N (Xo U) a d) (Nfree a (Vt.mpr ⟨N,Xo U,d⟩)))
   .subst d;exact .inr (free _ jT _ (rgs _ g1) (gfree _ g1))
   .subst d;exact .inr (free _ jU _ (rts _ t1) (tfree _ t1))
noncomputable abbrev Wj:SpM:=λj M Q=>∃(r:Addr) (W:Wld) (R:RunS) (l:Nat->Int) (i n:Nat) (I:Isl),j=[.ref r,.str I.name]/\W.Good/\RunAt M W r R l/\W.isl[i]?=some I/\R.nums[i]?=some n/\Q (.int n) M
theorem SK:MonW Wj:=by walk_at "m"
theorem _dN(T:Txt K mg t):FnOk P w K mg base CX0 3 t.bf t.cb ["self","name"] (liSp K Wj):=by
 refine T.gJ.okM _dH (fC (G:=Pq) (Φ:=[("looked_up",Vh)]) T rfl (fMc ⟨BQ,nl0⟩) (fMc ⟨fE T.aE (BR T),nl0⟩)) Gf _ee (fun j M Q h=>?_) (fun j M Q h=>?_)
 .obtain⟨_,_,_,_,_,_,_,rfl,_⟩:=h;rfl
 obtain⟨r,W,R,z,i,n,I,rfl,G,h,l,u,q⟩:=h;show wSs _ _ _ [some (.ref r),some (.str I.name)] M;have y:=h.ob;delta Gf Pp
 simp![y,runO,valM]
 refine⟨_,_,_,_,rfl,h.hn,h.nml G l u,?_⟩;exact q
noncomputable abbrev Wk:SpM:=λj M Q=>∃(r:Addr) (W:Wld) (R:RunS) (l:Nat->Int) (i n:Nat) (I:Isl),j=[.ref r,.str I.name]/\W.Good/\RunAt M W r R l/\W.isl[i]?=some I/\R.dn[i]?=some n/\Q (.int n) M
theorem SL:MonW Wk:=by walk_at "m"
theorem _9m(T:Txt K mg t):FnOk P w K mg base CX0 3 t.bY t.cy ["self","name"] (liSp K Wk):=by
 refine T.iu.okM _9i (fC (G:=Pu) (Φ:=[("looked_up",Vh)]) T rfl (fMc ⟨BQ,nl0⟩) (fMc ⟨fE T.aE (BR T),nl0⟩)) Gh _9C (fun j M Q h=>?_) (fun j M Q h=>?_)
 .obtain⟨_,_,_,_,_,_,_,rfl,_⟩:=h;rfl
 obtain⟨r,W,R,z,i,n,I,rfl,G,h,l,u,q⟩:=h;show wSs _ _ _ [some (.ref r),some (.str I.name)] M;have y:=h.ob;delta Gh Pt
 simp![y,runO,valM]
 refine⟨_,_,_,_,rfl,h.hs,h.dnl G l u,?_⟩;exact q
abbrev Wl:SpM:=λl M Q=>∃(r:Addr) (W:Wld) (R:RunS) (u:Nat->Int) (i:Nat) (I:Isl) (a:Addr) (j:List (Key×MV)),l=[.ref r,.str I.name]/\W.Good/\RunAt M W r R u/\W.isl[i]?=some I/\R.ws[i]?=some a/\M a=some (.dic j)/\∀p,M p=none->Q (.ref p) (updM M p (.dic j))
theorem SM:MonW Wl:=by walk_at "m"
theorem _eS(T:Txt K mg t):FnOk P w K mg base CX0 3 t.bp t.bQ ["self","name"] (liSp K Wl):=by
 refine T.fM.okM _ez (fC (G:=Ps) (Φ:=[("looked_up",Vh)]) T rfl (fMc ⟨BQ,nl0⟩) (fMc ⟨fE T.aE (BR T),nl0⟩)) Gg _ft (fun j M Q h=>?_) (fun j M Q h=>?_)
 .obtain⟨_,_,_,_,_,_,_,_,rfl,_⟩:=h;rfl
 obtain⟨r,W,R,g,i,I,a,l,rfl,G,h,u,y,z,q⟩:=h;show wSs _ _ _ [some (.ref r),some (.str I.name)] M;have m:=h.ob;delta Gg Pr
 simp![m,runO,valM]
 refine⟨_,_,_,_,rfl,h.hw,h.wdl G u y,?_⟩
 simp![z]
 exact q
theorem RunAt.own_some{M:MH}{W:Wld}{r:Addr}{R:RunS}{z:Nat->Int}(h:RunAt M W r R z):∀a∈R.own r,∃o,M a=some o:=λb l=>by
 simp only[RunS.own,Xk,Uv]at l;rcases l with rfl|rfl|rfl|rfl|⟨x,m,l⟩
 .exact⟨_,h.ob⟩
 .exact⟨_,h.hn⟩
 .exact⟨_,h.hw⟩
 .exact⟨_,h.hs⟩
 .obtain⟨j,y,rfl⟩:=Y5 m;obtain⟨u,e,_⟩:=(h.ba j _ _ (X8 (by rw[<-h.bl];exact y)) (X8 y)).at_ b l
  exact⟨u,e⟩
noncomputable abbrev rgM(x:Str×Nat):MV:=.tup [.str x.1,.int x.2]
abbrev Wm:SpM:=λd M Q=>∃(z m:Addr) (l:List Int) (g:List MV) (j:List Isl),d=[.ref z,.ref m]/\M z=some (.lst (l.map MV.int))/\l.length<=80/\M m=some (.lst g)/\IslsIn M j g/\1<=j.length/\j.length<=5/\
 ∀p (u:List (Str×Nat))y,SameM M y->M p=none->y p=some (.lst (u.map rgM))->u.length=l.length->(∀x∈u,∃I∈j,x.1=I.name)->Q (.ref p) y
theorem SN:MonW Wm:=by walk_at "m"
theorem _dM(T:Txt K mg t):FnOk P w K mg base CX0 1 t.fX t.gg ["cells","islands"] (liSp K Wm):=by
 refine T.b8.F.okM _dG (fC (G:=QL) (Φ:=[]) T rfl nl0 nl0) Gw _ed (λo M Q h=>?_) (λo M Q h=>?_)
 .obtain⟨_,_,_,_,_,rfl,_⟩:=h;rfl
 obtain⟨D,E,O,g,R,rfl,F,cl,i,S,i1,i5,q⟩:=h;show wSs _ _ _ [some (.ref D),some (.ref E),none,none] M;have yl:=S.1;delta Gw QK;simp!;intro p U;have X:=SameM.new U (.lst []);have W:updM M p (.lst []) p=some (.lst []):=X9;generalize updM M p _=M1 at*;have Y:=X _ _ F;delta QJ
 simp![Y]
 obtain⟨J,f⟩:∃J:Nat->Sm->MH->Prop,∀j r u,J j r u↔∃(m:List (Str×Nat)) (v:Option MV),SameM M u/\u p=some (.lst (m.map rgM))/\m.length=j/\(∀x∈m,∃I∈R,x.1=I.name)/\r=[some (.ref D),some (.ref E),some (.ref p),v]:=⟨_,λ_ _ _=>Ye⟩;refine⟨J,(f _ _ _).mpr ⟨[],_,X,W,rfl,(λx h=>nomatch h),rfl⟩,λj r u h=>?_,?_,?_⟩
 .obtain⟨_,_,s,_⟩:=(f _ _ _).mp h;exact s _ _ F
 .rintro j y r u n h;obtain⟨m,v,s,l,Z,A,rfl⟩:=(f _ _ _).mp h;obtain⟨H,rfl⟩:=YZ (show(O.map MV.int)[j]?=some y from n);generalize O[j]=x at*;have e:=s _ _ i;have B:=S.keep s;delta QI
  simp![l,e]
  have m0:=ZG x (show(g.length:Int)≠0 by lia)
  have m1:=U7 x (show(0:Int)<(g.length:Int) by lia)
  obtain⟨k,hk⟩:∃k:Nat,x%(g.length:Int)=(k:Int):=⟨_,(U6 m0).symm⟩;rw[hk]at m1 ⊢;have L:k<g.length:=by lia
  have N:k<R.length:=by lia
  obtain⟨a,b,ey,_⟩:=B.2 k _ _ (X8 N) (X8 L);refine⟨⟨_,rfl⟩,by lia,_,Yr (X8 L),?_⟩
  rw[ey]
  simp![e,l]
  have c0:=ZG (x/(g.length:Int)) (show(1000000000000000000000000000000:Int)≠0 by decide)
  obtain⟨c,C⟩:∃c:Nat,x/(g.length:Int)%1000000000000000000000000000000=(c:Int):=⟨_,(U6 c0).symm⟩;rw[C];have H:j<O.length:=H;refine⟨⟨by lia,by lia⟩,by rw[Xd];lia,(f _ _ _).mpr ⟨m++[(R[k].name,c)],_,s.upd U _,by rw[X9,Y0];rfl,by rw[Yt,Z];rfl,(λz d=>?_),rfl⟩⟩
  rcases Yh.mp d with d|d
  .exact A z d
  .rw[Y6]at d;subst d;exact⟨_,XU N,rfl⟩
 .rintro r u h;obtain⟨m,v,s,l,Z,A,rfl⟩:=(f _ _ _).mp h;delta QH;simp!;exact q p m u s U l (Z.trans (Xd _)) A
abbrev Wn:SpM:=λy M Q=>∃(a b:Addr) (j l:List Nat),y=[.ref a,.ref b]/\M a=some (.lst (j.map natM))/\M b=some (.lst (l.map natM))/\j.take (min j.length l.length)=l.take (min j.length l.length)/\∀u,SameM M u->Q (.bl true) u
theorem SO:MonW Wn:=by walk_at "m"
theorem _cB(T:Txt K mg t):FnOk P w K mg base CX0 1 t.ib t.gR ["one","other"] (liSp K Wn):=by
 refine T.bF.F.okM _ct (fC (G:=QP) (Φ:=[]) T rfl nl0 nl0) Gx _cT (λr M Q h=>?_) (λr M Q h=>?_)
 .obtain⟨_,_,_,_,rfl,_⟩:=h;rfl
 obtain⟨a,b,l,j,rfl,m,g,e,q⟩:=h;show wSs _ _ _ [some (.ref a),some (.ref b),none] M;delta Gx QO
 simp![m,g,Xd]
 have L:(if(j.length:Int)<(l.length:Int)then(j.length:Int)else(l.length:Int))=((min l.length j.length:Nat):Int):=by split<;>lia
 rw[L];generalize min l.length j.length=n at*;delta QN
 simp![m]
 intro p N;rw[Rc,<-E3,e];have d:=SameM.new N (.lst ((j.take n).map natM));have O:updM M p (.lst ((j.take n).map natM)) p=some (.lst ((j.take n).map natM)):=X9;generalize updM M p _=M1 at*;have u:=d _ _ g
 simp![u]
 intro y z;rw[Rc,<-E3];have f:=SameM.new z (.lst ((j.take n).map natM));have R:updM M1 y (.lst ((j.take n).map natM)) y=some (.lst ((j.take n).map natM)):=X9;generalize updM M1 y _=M2 at*;refine KL rfl (Alike.lstFlat 0 (.inr ⟨_,rfl,f _ _ O⟩) (.inr ⟨_,rfl,R⟩) (λv U=>by obtain⟨c,_,rfl⟩:=XQ.mp U;rfl)) (by decide) ?_
 try simp!
 exact q _ (d.trans f)
theorem RunS.in_own{R:RunS}{r a:Addr}(h:a∈R.own r):a∈R.all r:=DQ _ h
theorem RunAt.move{M M':MH}{W:Wld}{r:Addr}{R:RunS}{y:Nat->Int}(h:RunAt M W r R y)(s:∀a∈R.all r,∀o,M a=some o->M' a=some o):RunAt M' W r R y:=
 have t:∀a,a∈R.own r\/a∈(R.pb::R.pg::R.pt::R.ws)->∀o,M a=some o->M' a=some o:=λa e=>s a (Yh.mpr e)
 ⟨t _ (.inl (by simp[RunS.own])) _ h.ob,t _ (.inl (by simp[RunS.own])) _ h.hn,t _ (.inl (by simp[RunS.own])) _ h.hw,t _ (.inl (by simp[RunS.own])) _ h.hs,t _ (.inr (by simp)) _ h.hb,t _ (.inr (by simp)) _ h.hg,t _ (.inr (by simp)) _ h.ht,h.nl,h.wl,h.sl,h.bl,h.nb,λi I a m l=>let⟨k,e,o⟩:=h.wa i I a m l;⟨k,t _ (.inr (by simp[Xo l])) _ e,o⟩,λj f x g z=>(h.ba j f x g z).fr (ZH _) λa l u e=>t _ (.inl (XM _ (XM _ (XM _ (XM _ (Uv.mpr ⟨x,Xo z,l⟩)))))) _ e,h.sep,h.nd⟩
theorem KnAt.move{W:Wld}{M M':MH}{R:RunS}(h:KnAt W M R)(s:∀a∈R.ws,∀o,M a=some o->M' a=some o):KnAt W M' R:=
 ⟨λi I a n d l j u y=>let⟨kv,c,e,k⟩:=h.st i I a n d l j u y;⟨kv,c,s _ (Xo j) _ e,k⟩,h.gv⟩
theorem RunAt.all_some{M:MH}{W:Wld}{r:Addr}{R:RunS}{u:Nat->Int}(h:RunAt M W r R u):∀a∈R.all r,∃o,M a=some o:=λa y=>by
 rcases Yh.mp y with z|z
 .exact h.own_some a z
 .simp only[Xk]at z;rcases z with rfl|rfl|rfl|z
  .exact⟨_,h.hb⟩
  .exact⟨_,h.hg⟩
  .exact⟨_,h.ht⟩
  .obtain⟨j,l,rfl⟩:=Y5 z;obtain⟨m,e,_⟩:=h.wa j _ _ (X8 (by rw[<-h.wl];exact l)) (X8 l)
   exact⟨_,e⟩
theorem GoTo.all{W:Wld}{M M':MH}{r:Addr}{R j:RunS}{bs:List Boat}{i n:Nat}{l:List (Key×MV)}{o:Option Stp}{v:MV}(h:GoTo W M M' r R j bs i n l o v)(k:Kept M M' r R j):∀a∈j.all r,a∈R.all r\/M a=none:=λa y=>by
 rcases Yh.mp y with z|z
 .exact(k.nw a z).imp_left RunS.in_own
 .rcases h with⟨rfl,_⟩|⟨s,g,c,p,d,_,rfl,_,_,_,m,_⟩
  .exact .inl (YC _ z)
  .have z:a∈R.pb::R.pg::R.pt::R.ws.set i p:=z;simp only[Xk]at z;rcases z with z|z|z|z
   .exact .inl (YC _ (by simp[z]))
   .exact .inl (YC _ (by simp[z]))
   .exact .inl (YC _ (by simp[z]))
   .rcases DM z with z|rfl
    .exact .inl (YC _ (by simp[z]))
    .cases e:M a with
     |none=>exact .inr rfl
     |some u=>exact .inl (RunS.in_own (m u e))
theorem KnAt.first{W:Wld}{M:MH}{R:RunS}(r:R.nums=W.isl.map λ_=>0)(p:R.dn=W.isl.map λ_=>0)(hw:∀(i:Nat)I a,W.isl[i]?=some I->R.ws[i]?=some a->M a=some (.dic (zipK I.vars ((I.prs.map (·.2)).map MV.int))))(m:∀(j:Nat)f y,W.fer[j]?=some f->R.bs[j]?=some y->y.A=ab0 f.k f.st):KnAt W M R:=by
 refine⟨λi I a n d l e g c=>?_,λj f x k v u z q=>?_⟩
 .rw[r,Xq,l]at g;rw[p,Xq,l]at c;cases g;cases c;exact⟨_,λ_=>0,hw i I a l e,.init l,λj f x u z=>by rw[m j f x u z];exact⟨λ_=>rfl,λ_=>rfl⟩⟩
 .rw[m j f x u z]at q;cases q
noncomputable def tlen:MV->Nat
 |.tup xs=>xs.length
 |_=>0
theorem HA{w:Nat}{f:Fer}{z:Str}{o:Option Stp}{ρ:Str->Int}{A:Ab}(h:hitA w f z o ρ A=true)(c:f.giver=z):∃T,o=some (.give f.name T)/\A.gives (Ul w f o ρ)=true/\Ul w f o ρ=some (T.val ρ w).toNat:=by
 rw[hitA,if_pos c]at h;have j:(Ul w f o ρ).isSome=true:=((XX _ _).mp h).1;rcases o with _|s
 .cases j
 .cases s with
  |give g T=>
   by_cases e:g=f.name
   .subst e;exact⟨T,rfl,h,if_pos rfl⟩
   .rw[show Ul w f (some (.give g T)) ρ=none from if_neg e]at j;cases j
  |take _ _=>cases j
  |put _ _=>cases j
  |jump _ _=>cases j
theorem UO{w:Nat}{f:Fer}{z:Str}{o:Option Stp}{ρ:Str->Int}{A:Ab}(h:hitA w f z o ρ A=true):XI o f.name=true:=by
 by_cases c:f.giver=z
 .obtain⟨T,rfl,_⟩:=HA h c;exact decide_eq_true rfl
 .rw[hitA,if_neg c]at h;exact((XX _ _).mp h).1
theorem _kD{A:Ab}(ok:A.Ok){b:Bool}(h:A.takes b=true):A.tn<A.ws.length:=by
 have j:=_v (xs:=A.tx) (by rw[ok.tl];exact ok.gl.1)
 have l:=ok.tb _ j;have u:=ok.lt1;have y:XH A.tx≠A.tn:=of_decide_eq_true ((XX _ _).mp h).2;lia
section
variable{w:Nat}{z:Str}{m:Int}{c:Nat}{o:Option Stp}{ρ:Str->Int}{k:Nat}{f:Fer}{A:Ab}
theorem HB(h:¬((z=f.giver\/z=f.taker)/\hitA w f z o ρ A=true)):(newA w z m c o ρ k f A).ws=A.ws/\(newA w z m c o ρ k f A).tn=A.tn:=by
 unfold newA;by_cases e:z=f.giver\/z=f.taker
 .rw[if_pos e];have h:¬hitA w f z o ρ A=true:=λy=>h ⟨e,y⟩;unfold ZW;by_cases g:f.giver=z
  .rw[hitA,if_pos g]at h;rw[if_pos g];exact⟨if_neg h,rfl⟩
  .rw[hitA,if_neg g]at h;rw[if_neg g];exact⟨rfl,if_neg h⟩
 .rw[if_neg e];exact⟨rfl,rfl⟩
theorem _nO(g:f.giver=z)(h:hitA w f z o ρ A=true):(newA w z m c o ρ k f A).ws=A.ws++[(Ul w f o ρ).getD 0]/\(newA w z m c o ρ k f A).tn=A.tn:=by
 unfold newA;rw[if_pos (.inl g.symm),ZW,if_pos g];rw[hitA,if_pos g]at h;exact⟨if_pos h,rfl⟩
theorem _nN(g:¬f.giver=z)(t:z=f.taker)(h:hitA w f z o ρ A=true):(newA w z m c o ρ k f A).ws=A.ws/\(newA w z m c o ρ k f A).tn=A.tn+1:=by
 unfold newA;rw[if_pos (.inr t),ZW,if_neg g];rw[hitA,if_neg g]at h;exact⟨rfl,if_pos h⟩
end
theorem SQ{W:Wld}(G:W.Good){i j:Nat}{f g:Fer}(l:W.fer[i]?=some f)(u:W.fer[j]?=some g)(e:f.name=g.name):i=j:=
 (C6 (by rw[BP];exact(XF.mp l).1) G.fn_nd).mp ((We l).trans ((We u).trans (by rw[e])).symm)
def ZoX(W:Wld)(R:RunS)(bs:List Boat)(z:Str)(o:Option Stp):Prop:=∀(j:Nat)f l,W.fer[j]?=some f->bs[j]?=some l->∃x,R.bs[j]?=some x/\(f.giver=z->l.A.ws.length=x.A.ws.length+if XI o f.name=true then 1 else 0)/\(f.taker=z->l.A.tn=x.A.tn+if XI o f.name=true then 1 else 0)/\(f.giver≠z->l.A.ws=x.A.ws)/\(f.taker≠z->l.A.tn=x.A.tn)/\∀(k:Nat)v,l.A.ws[k]?=some v->x.A.ws[k]?=some v\/Gv W f.name k v
section
variable{W:Wld}{M M':MH}{r:Addr}{R:RunS}{bs:List Boat}{i n n' d:Nat}{I:Isl}{p:Addr}{s:Stp}{wd:MV}{kvs:List (Key×MV)}{c:Str->Nat}
theorem KnAt.went(G:W.Good)(h:KnAt W M R)(D:∀(j:Nat)J b,W.isl[j]?=some J->R.ws[j]?=some b->∀u,M b=some u->M' b=some u)(Z:W.isl[i]?=some I)(to:ZoX W R bs I.name (some s))(E:M' p=some (.dic (Uh s kvs (rhoK kvs) W.w wd)))(F:Zs s (rhoK kvs) W.w n=((n':Nat):Int))(A:Kn W i (d+1) (Sk.go W.w ⟨n,kvs,c⟩ s wd))(Q:∀(j:Nat)f x,W.fer[j]?=some f->R.bs[j]?=some x->(f.giver=I.name->c f.name=x.A.ws.length)/\(f.taker=I.name->c f.name=x.A.tn)):KnAt W M' (goR {R with bs:=bs,m:=R.m+1} i n' p d):=by
 refine⟨λj J a b e N g q L=>?_,λj f x k v y O S=>?_⟩
 .have g:(R.ws.set i p)[j]?=some a:=g;have q:(R.nums.set i n')[j]?=some b:=q;have L:(R.dn.set i (d+1))[j]?=some e:=L;by_cases ij:j=i
  .subst ij;rw[Z]at N;cases N;obtain⟨_,rfl⟩:=(_a g).resolve_right λz=>z.1 rfl;obtain⟨_,rfl⟩:=(_a q).resolve_right λz=>z.1 rfl;obtain⟨_,rfl⟩:=(_a L).resolve_right λz=>z.1 rfl;have X:Sk.go W.w ⟨n,kvs,c⟩ s wd=⟨b,Uh s kvs (rhoK kvs) W.w wd,λz=>if XI (some s) z=true then c z+1 else c z⟩:=by
    unfold Sk.go;show(⟨(Zs s (rhoK kvs) W.w n).toNat,_,_⟩:Sk)=_;rw[F];rfl
   rw[X]at A;refine⟨_,_,E,A,λj f x y O=>?_⟩;obtain⟨T,l,H,o,_⟩:=to j f x y O;obtain⟨U,Y⟩:=Q j f T y l;refine⟨λz=>?_,λz=>?_⟩
   .rw[H z,<-U z];show(if _ then _ else _)=_;split<;>rfl
   .rw[o z,<-Y z];show(if _ then _ else _)=_;split<;>rfl
  .obtain⟨_,g⟩:=(_a g).resolve_left λz=>ij z.1;obtain⟨_,q⟩:=(_a q).resolve_left λz=>ij z.1;obtain⟨_,L⟩:=(_a L).resolve_left λz=>ij z.1;obtain⟨kv,c',e1,e2,e3⟩:=h.st j J a b e N g q L;refine⟨kv,c',D j J a N g _ e1,e2,λB f x y O=>?_⟩;obtain⟨T,l,_,_,t3,t4,_⟩:=to B f x y O;obtain⟨U,Y⟩:=e3 B f T y l;have C:J.name≠I.name:=λz=>ij (SE G N Z z);exact⟨λz=>by rw[t3 (by rw[z];exact C)];exact U z,λz=>by rw[t4 (by rw[z];exact C)];exact Y z⟩
 .obtain⟨T,l,_,_,_,_,t5⟩:=to j f x y O;exact(t5 k v S).elim (h.gv j f T k v y l) id
theorem KnAt.stay(h:KnAt W M R)(Y:∀(j:Nat)J b,W.isl[j]?=some J->R.ws[j]?=some b->∀u,M b=some u->M' b=some u)(to:∀(j:Nat)f z,W.fer[j]?=some f->bs[j]?=some z->∃x,R.bs[j]?=some x/\z.A.ws=x.A.ws/\z.A.tn=x.A.tn):KnAt W M' {R with bs:=bs,m:=R.m+1}:=by
 refine⟨λj J a b e N O Z A=>?_,λj f x k v y g T=>?_⟩
 .obtain⟨B,C,D,E,F⟩:=h.st j J a b e N O Z A;refine⟨B,C,Y j J a N O _ D,E,λU f x y g=>?_⟩;obtain⟨q,l,L,G⟩:=to U f x y g;rw[L,G];exact F U f q y l
 .obtain⟨q,l,L,_⟩:=to j f x y g;rw[L]at T;exact h.gv j f q k v y l T
end
theorem KnAt.ring{W:Wld}{M M':MH}{r:Addr}{R R':RunS}{bs:List Boat}{i n m:Nat}{I:Isl}{a:Addr}{U:List (Key×MV)}{o:Option Stp}{v:MV}(G:W.Good)(hR:RunAt M W r R (λ_=>R.m))(h:KnAt W M R)(Q:W.isl[i]?=some I)(hn:R.nums[i]?=some n)(ho:I.stps[n]?=o)(ha:R.ws[i]?=some a)(hk:M a=some (.dic U))(hbl:bs.length=W.fer.length)(k:Kept M M' r R R')(to:BsTo W R.bs bs I.name R.m m o (rhoK U) W.fer.length)(wt:WhatTo W R.bs I.name o (rhoK U) W.fer.length v)(go:GoTo W M M' r R R' bs i n U o v):KnAt W M' R':=by
 have im:=Xo Q;have ms:∀(j:Nat)J b,W.isl[j]?=some J->R.ws[j]?=some b->∀u,M b=some u->M' b=some u:=λj J b hJ E u e=>k.fr _ _ e (hR.ws_off hJ E);have Y:∀(j:Nat)f Z,W.fer[j]?=some f->bs[j]?=some Z->∃x,R.bs[j]?=some x/\Z.A=newA W.w I.name R.m m o (rhoK U) j f x.A:=λj f Z N C=>by
  have hj:=(XF.mp N).1;obtain⟨x,q⟩:∃x,R.bs[j]?=some x:=⟨_,X8 (by rw[hR.bl];exact hj)⟩
  obtain⟨a',e1,e2⟩:=to j f _ hj N q;rw[C]at e1;cases e1;exact⟨_,q,e2⟩
 have O:(∀(j:Nat)f x,W.fer[j]?=some f->R.bs[j]?=some x->¬((I.name=f.giver\/I.name=f.taker)/\hitA W.w f I.name o (rhoK U) x.A=true))->∀(j:Nat)f Z,W.fer[j]?=some f->bs[j]?=some Z->∃x,R.bs[j]?=some x/\Z.A.ws=x.A.ws/\Z.A.tn=x.A.tn:=λnh j f Z N C=>by
  obtain⟨x,q,e⟩:=Y j f Z N C;rw[e];exact⟨x,q,HB (nh j f x N q)⟩
 rcases go with⟨rfl,D,hs⟩|⟨s,wd,n',p,d,es,rfl,hd,hl,hp,_,hc⟩
 .refine h.stay ms (O λj f x N C z=>?_);rcases wt with⟨_,nh⟩|⟨k,g,b,_,⟨_,_,_,L⟩,ev⟩
  .exact nh j f x (XF.mp N).1 ⟨N,C,z⟩
  .rw[YG,if_pos L]at ev;have X:=congrArg tlen (D.symm.trans ev);by_cases cg:g.giver=I.name
   .obtain⟨T,rfl,_⟩:=HA L cg;rw[if_pos cg]at X;cases X
   .rw[if_neg cg]at X;have hw:=UO L;rcases o with _|s
    .cases hw
    .cases s with
     |take _ _=>cases X
     |give _ _=>cases X
     |put _ _=>cases hw
     |jump _ _=>cases hw
 .subst es;obtain⟨kv0,c,e1,K,F⟩:=h.st i I a n d Q ha hn hd;obtain rfl:U=kv0:=by rw[hk]at e1;cases e1;rfl
  have hE:=G.en I im s (Xo ho);rcases hc with⟨nw,D,rfl⟩|⟨f0,T,rfl,D,rfl⟩|⟨f0,x0,u,rfl,D,rfl⟩
  .refine h.went G ms Q (λj f Z N C=>?_) hp hl (.own K Q ho λf x e=>by subst e;exact by have:=nw f;rw[show XI (some (Stp.take f x)) f=true from decide_eq_true rfl]at this;cases this) F
   obtain⟨x,q,t1,t2⟩:=O (λj f x N C z=>absurd (UO z.2) (by rw[nw f.name];decide)) j f Z N C
   rw[t1,t2,if_neg (by rw[nw f.name];decide)]
   exact⟨x,q,λ_=>rfl,λ_=>rfl,λ_=>rfl,λ_=>rfl,λ_ _=>.inl⟩
  .rcases wt with⟨e,_⟩|⟨k,g,b,_,⟨B,E,_,L⟩,ev⟩
   .have X:=congrArg tlen (D.symm.trans e);cases X
   .have gn:f0=g.name:=of_decide_eq_true (UO L);subst gn;have S:g.giver=I.name:=hE g (Xo B) rfl;have gt:g.taker≠I.name:=λz=>(G.fo g (Xo B)).ne (S.trans z.symm);have tv:=T.val_in G.w1 λy hy=>by
     obtain⟨_,e5,wk⟩:=hR.wa i I a Q ha;rw[hk]at e5;cases e5;exact(wk.at (G.io I im).nd (((G.io I im).st _ (Xo ho)).2.2.2 y hy)).2
    refine h.went G ms Q (λj f Z N C=>?_) hp hl (.own K Q ho λf x e=>nomatch e) F;by_cases jk:j=k
    .subst jk;rw[B]at N;cases N;obtain⟨x,q,e⟩:=Y j g Z B C;rw[E]at q;cases q;obtain⟨H,n2⟩:=_nO (m:=R.m) (c:=m) (k:=j) S L;obtain⟨T',eT,_,eN⟩:=HA L S;cases eT;rw[eN]at H;rw[e,H,n2,if_pos (UO L)];refine⟨b,E,λ_=>by rw[Yt];rfl,λz=>absurd z gt,λz=>absurd S z,λ_=>rfl,λk v D=>?_⟩
     rcases Nat.lt_or_ge k b.A.ws.length with l|l
     .rw[ZB l]at D;exact .inl D
     .rw[Zf l]at D;have hk0:k - b.A.ws.length=0:=by
       have:=(XF.mp D).1;simp only[List.length_singleton]at this;lia
      rw[hk0]at D;cases D;exact .inr ⟨i,d,_,I,T,K,Q,ho,((F j g b B E).1 S).trans (by lia),(U6 tv.1).symm⟩
    .have nm:¬XI (some (Stp.give g.name T)) f.name=true:=λz=>jk (SQ G N B (of_decide_eq_true z:g.name=f.name).symm);obtain⟨x,q,e⟩:=Y j f Z N C;obtain⟨H,n2⟩:=HB (w:=W.w) (z:=I.name) (m:=R.m) (c:=m) (o:=some (.give g.name T)) (ρ:=rhoK U) (k:=j) (f:=f) (A:=x.A) λz=>nm (UO z.2);rw[e,H,n2,if_neg nm];exact⟨x,q,λ_=>rfl,λ_=>rfl,λ_=>rfl,λ_=>rfl,λ_ _=>.inl⟩
  .rcases wt with⟨e,_⟩|⟨k,g,b,_,⟨B,E,gend,L⟩,ev⟩
   .have X:=congrArg tlen (D.symm.trans e);cases X
   .have gn:f0=g.name:=of_decide_eq_true (UO L);subst gn;have S:g.taker=I.name:=hE g (Xo B) rfl;have gt:¬g.giver=I.name:=λz=>(G.fo g (Xo B)).ne (z.trans S.symm);have hlt:b.A.tn<b.A.ws.length:=by
     rw[hitA,if_neg gt]at L;exact _kD (hR.ba k g b B E).fy.ok L
    rw[YG,if_pos L,if_neg gt]at ev;have eu:u=((b.A.ws[b.A.tn]:Nat):Int):=by
     have:=D.symm.trans ev;injection this with this;injection this with _ this;injection this with _ this;injection this with this _;injection this with this;rw[this,Yf,X8 hlt];rfl
    obtain⟨g',m',S',I',T',k1,k2,k3,k4,k5⟩:=h.gv k g b b.A.tn _ B E (X8 hlt);have K2:=Kn.take K Q ho k1 k2 k3 (k4.trans ((F k g b B E).2 S).symm);rw[k5,<-eu]at K2;refine h.went G ms Q (λj f Z N C=>?_) hp hl K2 F;by_cases jk:j=k
    .subst jk;rw[B]at N;cases N;obtain⟨x,q,e⟩:=Y j g Z B C;rw[E]at q;cases q;obtain⟨H,n2⟩:=_nN (m:=R.m) (c:=m) (k:=j) gt S.symm L;rw[e,H,n2,if_pos (UO L)];exact⟨b,E,λz=>absurd z gt,λ_=>rfl,λ_=>rfl,λz=>absurd S z,λ_ _=>.inl⟩
    .have nm:¬XI (some (Stp.take g.name x0)) f.name=true:=λz=>jk (SQ G N B (of_decide_eq_true z:g.name=f.name).symm);obtain⟨x,q,e⟩:=Y j f Z N C;obtain⟨H,n2⟩:=HB (w:=W.w) (z:=I.name) (m:=R.m) (c:=m) (o:=some (.take g.name x0)) (ρ:=rhoK U) (k:=j) (f:=f) (A:=x.A) λz=>nm (UO z.2);rw[e,H,n2,if_neg nm];exact⟨x,q,λ_=>rfl,λ_=>rfl,λ_=>rfl,λ_=>rfl,λ_ _=>.inl⟩
structure Both (W:Wld)(M:MH)(r1 r2:Addr)(R1 R2:RunS):Prop where
 a1:RunAt M W r1 R1 (λ_=>R1.m)
 a2:RunAt M W r2 R2 (λ_=>R2.m)
 k1:KnAt W M R1
 k2:KnAt W M R2
 d1:∀a∈R1.all r1,a∉R2.own r2
 d2:∀a∈R2.all r2,a∉R1.own r1
theorem RunS.in_ws{R:RunS}{r a:Addr}(h:a∈R.ws):a∈R.all r:=YC _ (by simp[h])
section
variable{W:Wld}{M M':MH}{r1 r2:Addr}{R1 R2 R':RunS}
theorem Both.symm(B:Both W M r1 r2 R1 R2):Both W M r2 r1 R2 R1:=⟨B.a2,B.a1,B.k2,B.k1,B.d2,B.d1⟩
theorem Both.keep(B:Both W M r1 r2 R1 R2)(s:SameM M M'):Both W M' r1 r2 R1 R2:=⟨B.a1.keep s,B.a2.keep s,B.k1.move λ_ _=>s _,B.k2.move λ_ _=>s _,B.d1,B.d2⟩
theorem GoTo.bs{r:Addr}{R:RunS}{bs:List Boat}{i n:Nat}{j:List (Key×MV)}{o:Option Stp}{v:MV}(h:GoTo W M M' r R R' bs i n j o v):R'.bs=bs:=by
 rcases h with⟨rfl,_⟩|⟨_,_,_,_,_,_,rfl,_⟩<;>rfl
theorem Both.rung(G:W.Good)(B:Both W M r1 r2 R1 R2){bs:List Boat}{i n m:Nat}{I:Isl}{a:Addr}{g:List (Key×MV)}{o:Option Stp}{v:MV}(L:W.isl[i]?=some I)(N:R1.nums[i]?=some n)(O:I.stps[n]?=o)(R:R1.ws[i]?=some a)(T:M a=some (.dic g))(q:RunAt M' W r1 R' (λ_=>R'.m))(k:Kept M M' r1 R1 R')(to:BsTo W R1.bs bs I.name R1.m m o (rhoK g) W.fer.length)(U:WhatTo W R1.bs I.name o (rhoK g) W.fer.length v)(go:GoTo W M M' r1 R1 R' bs i n g o v){l:Nat} (Y:∀y∈R1.bs,y.A.ws.length<=l):Both W M' r1 r2 R' R2/\∀y∈R'.bs,y.A.ws.length<=l+1:=by
 have f:bs.length=W.fer.length:=by rw[<-go.bs];exact q.bl
 have un:∀b,M b=none->b∉R2.all r2:=λb e z=>by
  obtain⟨u,r⟩:=B.a2.all_some b z;rw[e]at r;cases r
 refine⟨⟨q,B.a2.move λb d u e=>k.fr _ _ e (B.d2 b d),B.k1.ring G B.a1 L N O R T f k to U go,B.k2.move λb d u e=>k.fr _ _ e (B.d2 b (RunS.in_ws d)),λb d z=>?_,λb d z=>?_⟩,?_⟩
 .rcases go.all k b d with c|c
  .exact B.d1 b c z
  .exact un b c (RunS.in_own z)
 .rcases k.nw b z with c|c
  .exact B.d2 b d c
  .exact un b c d
 .rw[go.bs];exact to.len f B.a1.bl (λj p=>by rw[ZC (by rw[f];exact p),ZC (by rw[B.a1.bl];exact p)]) Y
theorem RunAt.isl{r:Addr}{R:RunS}{z:Nat->Int}(h:RunAt M W r R z){i:Nat}{I:Isl}(u:W.isl[i]?=some I):∃n a j d,R.nums[i]?=some n/\R.ws[i]?=some a/\M a=some (.dic j)/\WdOk W.w I j/\R.dn[i]?=some d:=by
 have l:=(XF.mp u).1;obtain⟨a,y⟩:∃a,R.ws[i]?=some a:=⟨_,X8 (by rw[h.wl];exact l)⟩
 obtain⟨j,e,o⟩:=h.wa i I _ u y;exact⟨_,_,j,_,X8 (by rw[h.nl];exact l),y,e,o,X8 (by rw[h.sl];exact l)⟩
theorem SR{xs ys:List Nat}(h:∀(k:Nat)v w,xs[k]?=some v->ys[k]?=some w->v=w):xs.take (min xs.length ys.length)=ys.take (min xs.length ys.length):=by
 apply Wv;intro k;rw[DU,DU];split
 .have j:k<xs.length:=by lia
  have l:k<ys.length:=by lia
  rw[X8 j,X8 l,h k _ _ (X8 j) (X8 l)]
 .rfl
theorem Both.gave(G:W.Good)(B:Both W M r1 r2 R1 R2){j:Nat}{f:Fer}{x y:Boat}(l:W.fer[j]?=some f)(u:R1.bs[j]?=some x)(z:R2.bs[j]?=some y)(k:Nat)(v w:Nat)(h:x.A.ws[k]?=some v)(g:y.A.ws[k]?=some w):v=w:=(B.k1.gv j f x k v l u h).uni G (B.k2.gv j f y k w l z g)
theorem Both.stand(G:W.Good)(B:Both W M r1 r2 R1 R2){i n y d:Nat}{I:Isl}{a z:Addr}{l j:List (Key×MV)}(m:W.isl[i]?=some I)(h1:R1.nums[i]?=some n)(h2:R2.nums[i]?=some y)(h3:R1.ws[i]?=some a)(h4:R2.ws[i]?=some z)(h5:M a=some (.dic l))(h6:M z=some (.dic j))(h7:R1.dn[i]?=some d)(h8:R2.dn[i]?=some d):n=y/\l=j:=by
 obtain⟨r,c,g,K,_⟩:=B.k1.st i I a n d m h3 h1 h7;obtain⟨f,p,u,q,_⟩:=B.k2.st i I z y d m h4 h2 h8;have:=K.uni G d (Xe _) _ _ K q;rw[h5]at g;cases g;rw[h6]at u;cases u;injection this with e2 e3;exact⟨e2,e3⟩
end
theorem SS{xs:List Nat}{n k v:Nat}(h:(xs.take n)[k]?=some v):xs[k]?=some v:=by
 rw[DU]at h;split at h
 .exact h
 .cases h
theorem RunAt.ab0_len{M:MH}{W:Wld}{r:Addr}{R:RunS}{u:Nat->Int}(h:RunAt M W r R u)(z:∀(j:Nat)f y,W.fer[j]?=some f->R.bs[j]?=some y->y.A=ab0 f.k f.st):∀y∈R.bs,y.A.ws.length<=0:=λy m=>by
 obtain⟨j,l,rfl⟩:=Y5 m;rw[z j _ _ (X8 (by rw[<-h.bl];exact l)) (X8 l)]
 exact Xe _
noncomputable def Offs(M:MH)(j l:Addr)(u R2:RunS)(L:List (Addr×MO)):Prop:=∀x∈L,M x.1=some x.2/\x.1∉u.own j/\x.1∉R2.own l
theorem Offs.kept{M M':MH}{j l:Addr}{u R2 y:RunS}{L:List (Addr×MO)}(h:Offs M j l u R2 L)(k:Kept M M' j u y):Offs M' j l y R2 L:=λx m=>let⟨a,b,c⟩:=h x m;⟨k.fr _ _ a b,(λz=>(k.nw _ z).elim b λe=>by rw[a]at e;cases e),c⟩
theorem Offs.symm{M:MH}{j l:Addr}{u R2:RunS}{L:List (Addr×MO)}(h:Offs M j l u R2 L):Offs M l j R2 u L:=λx y=>let⟨a,b,c⟩:=h x y;⟨a,c,b⟩
theorem Offs.keep{M M':MH}{j l:Addr}{u R2:RunS}{L:List (Addr×MO)}(h:Offs M j l u R2 L)(s:SameM M M'):Offs M' j l u R2 L:=λx y=>let⟨a,b⟩:=h x y;⟨s _ _ a,b⟩
theorem Both.free{W:Wld}{M:MH}{j l p:Addr}{u R2:RunS}(B:Both W M j l u R2)(h:M p=none):p∉u.own j/\p∉R2.own l:=by
 refine⟨λz=>?_,λz=>?_⟩
 .obtain⟨o,e⟩:=B.a1.own_some p z;rw[e]at h;cases h
 .obtain⟨o,e⟩:=B.a2.own_some p z;rw[e]at h;cases h
theorem _qf(T:Txt K mg t):FnOk P w K mg base CX0 60 t.fV t.dZ ["script"] (liSp K KI):=by
 refine T.fZ.F.okM _pe (_N (k:=59) (G:=Rb) (Φ:=[("_law_begins",Wn),("_law_cell_at",Ve),("_law_rings",Wm),("_law_things",Wc),("made",W8)]) (Ψ:=[("Run___init__",Wi),("Run_given",Wf),("Run_number",Wj),("Run_ring",Wh),("Run_steps_done",Wk),("Run_taken",Wg),("Run_words",Wl)]) (Χ:=[("_law_begins",Wn),("_law_cell_at",Ve),("_law_rings",Wm),("_law_things",Wc),("made",W8),("Run___init__",Wi),("Run_given",Wf),("Run_number",Wj),("Run_ring",Wh),("Run_steps_done",Wk),("Run_taken",Wg),("Run_words",Wl)]) rfl (_O T) (_P T) rfl (fMc ⟨SO,(fMc ⟨Hl,(fMc ⟨SN,(fMc ⟨Sr,(fMc ⟨RN,(fMc ⟨SJ,(fMc ⟨Sx,(fMc ⟨SK,(fMc ⟨SC,(fMc ⟨SL,(fMc ⟨Sy,(fMc ⟨SM,nl0⟩)⟩)⟩)⟩)⟩)⟩)⟩)⟩)⟩)⟩)⟩)⟩) (fMc ⟨fE T.bF (_cB T),(fMc ⟨fE T.aX (Sd T),(fMc ⟨fE T.b8 (_dM T),(fMc ⟨fE T.ce (_cz T),(fMc ⟨fE T.cq (_nG T),nl0⟩)⟩)⟩)⟩)⟩) (fMc ⟨⟨_,_,rfl,_,_,_,_,(FnOk.mono (_eV T) (by decide)),T.ab,T.ac,T.cU,T.iI⟩,(fMc ⟨⟨_,_,rfl,_,_,_,_,(FnOk.mono (_dN T) (by decide)),T.ab,T.ac,T.iH,T.iJ⟩,(fMc ⟨⟨_,_,rfl,_,_,_,_,(FnOk.mono (_fX T) (by decide)),T.ab,T.ac,T.iN,T.gc⟩,(fMc ⟨⟨_,_,rfl,_,_,_,_,(FnOk.mono (_9m T) (by decide)),T.ab,T.ac,T.hV,T.fJ⟩,(fMc ⟨⟨_,_,rfl,_,_,_,_,(FnOk.mono (_eT T) (by decide)),T.ab,T.ac,T.hZ,T.cV⟩,(fMc ⟨⟨_,_,rfl,_,_,_,_,(FnOk.mono (_eS T) (by decide)),T.ab,T.ac,T.iO,T.gZ⟩,nl0⟩)⟩)⟩)⟩)⟩)⟩) (fMc ⟨⟨_,_,rfl,_,_,_,_,_,(by decide:6+1<=59),_bs T,T.ab,T.cB,T.di,T.fY⟩,nl0⟩) (_Q T)) Gz _qN (fun vs M Q h=>?_) (fun vs M Q h=>?_)
 .obtain⟨X,rfl,_⟩:=h;rfl
 obtain⟨X,rfl,h63,q⟩:=h;have hΦ:=(UH (Φ:=[("_law_begins",Wn),("_law_cell_at",Ve),("_law_rings",Wm),("_law_things",Wc),("made",W8),("Run___init__",Wi),("Run_given",Wf),("Run_number",Wj),("Run_ring",Wh),("Run_steps_done",Wk),("Run_taken",Wg),("Run_words",Wl)]) (fMc ⟨SO,(fMc ⟨Hl,(fMc ⟨SN,(fMc ⟨Sr,(fMc ⟨RN,(fMc ⟨SJ,(fMc ⟨Sx,(fMc ⟨SK,(fMc ⟨SC,(fMc ⟨SL,(fMc ⟨Sy,(fMc ⟨SM,nl0⟩)⟩)⟩)⟩)⟩)⟩)⟩)⟩)⟩)⟩)⟩)⟩));show wSs _ _ _ [some (.frl (X.map .int)),none,none,none,none,none,none,none,none,none,none,none,none] M;delta Gz Ra;simp!;refine⟨X,3,rfl,λW pi pf ys M1 s1 G i1 f1 f2 f3 hpi hIs hpf=>?_⟩;have i5:=G.i5;have f6:=G.f6;simp!;delta R9
 simp![hpi]
 intro p1 hp1;have s2:=SameM.new hp1 (.lst ys);have hp2:updM M1 p1 (.lst ys) p1=some (.lst ys):=X9;generalize updM M1 p1 _=M2 at*;have hpf2:=s2 _ _ hpf
 simp![hpf2]
 intro p2 hp3;have s3:=SameM.new hp3 (.lst (W.fer.map Fer.mv));have hp4:updM M2 p2 (.lst (W.fer.map Fer.mv)) p2=some (.lst (W.fer.map Fer.mv)):=X9;generalize updM M2 p2 _=M3 at*;refine⟨p1,p2,ys,W,rfl,s3 _ _ hp2,hIs.keep (s2.trans s3),hp4,G,λM4 s4=>?_⟩;have l:=(s2.trans s3).trans s4;have Y:=l _ _ hpi;have jM:=l _ _ hpf;have hIs4:=hIs.keep l;have hys:∀(i:Nat)I y,W.isl[i]?=some I->ys[i]?=some y->∃xs,y=.tup (.str I.name::xs):=λi I y a b=>by
  obtain⟨_,_,e,_⟩:=hIs.2 i I y a b;exact⟨_,e⟩
 have yl:ys.length=W.isl.length:=hIs.1
 try simp!
 delta R8;simp!;intro r hr;have rr:updM M4 r (.ins "Run" []) r=some (.ins "Run" []):=X9;have s5:=SameM.new hr (.ins "Run" []);refine⟨r,W,rfl,rr,G,λR M5 fr5 hR5 hm5 hA5 ho5 hn5 hd5 hw5=>?_⟩;have s45:SameM M4 M5:=λa o e=>fr5 a o (s5 a o e) (by simpa using neM e hr)
 have no5:∀a o,M4 a=some o->a∉R.own r:=λa o e z=>by
  rcases ho5 a (RunS.in_own z)with rfl|c
  .rw[hr]at e;cases e
  .rw[s5 _ _ e]at c;cases c
 clear fr5 rr s5
 try simp!
 delta R7;simp!;intro N hr2;have rr:updM M5 N (.ins "Run" []) N=some (.ins "Run" []):=X9;have s6:=SameM.new hr2 (.ins "Run" []);refine⟨N,W,rfl,rr,G,λR2 M6 fr6 hR6 hm6 hA6 ho6 hn6 hd6 hw6=>?_⟩;have s56:SameM M5 M6:=λa o e=>fr6 a o (s6 a o e) (by simpa using neM e hr2)
 have no6:∀a o,M5 a=some o->a∉R2.all N:=λa o e z=>by
  rcases ho6 a z with rfl|c
  .rw[hr2]at e;cases e
  .rw[s6 _ _ e]at c;cases c
 have B6:Both W M6 r N R R2:=⟨hR5.keep s56,hR6,(KnAt.first hn5 hd5 hw5 hA5).move λa _=>s56 a,KnAt.first hn6 hd6 hw6 hA6,λa ha z=>let⟨o,e⟩:=hR5.all_some a ha;no6 a o e (RunS.in_own z),λa ha z=>let⟨o,e⟩:=hR5.own_some a z;no6 a o e ha⟩
 have l1:=hR5.ab0_len hA5;have l2:=hR6.ab0_len hA6;have s46:=s45.trans s56;clear fr6 rr s6 ho6 hw6 hn6 hd6 hA6 hm6 ho5 hw5 hn5 hd5 hA5 hm5
 try simp!
 delta R6;simp!;intro pc hpc;obtain⟨cs,hcs,cl⟩:∃cs:List Int,cutM (X.map MV.int) (some 10) (some 90)=cs.map MV.int/\cs.length<=63:=by
  refine⟨(X.drop (HT.sIx (X.map MV.int).length 0 (some 10))).take (HT.sIx (X.map MV.int).length (X.map MV.int).length (some 90) - HT.sIx (X.map MV.int).length 0 (some 10)),?_,?_⟩
  .unfold cutM;rw[E3,List.map_drop]
  .rw[Z6,C8];lia
 rw[hcs];have s7:=SameM.new hpc (.lst (cs.map MV.int));have hc7:updM M6 pc (.lst (cs.map MV.int)) pc=some (.lst (cs.map MV.int)):=X9;generalize updM M6 pc _=M7 at*;have s47:=s46.trans s7;refine⟨pc,pi,cs,ys,W.isl,rfl,hc7,by lia,s47 _ _ Y,hIs4.keep s47,i1,i5,λp Z M8 s8 hp hp8 rl ro=>?_⟩
 have s48:=s47.trans s8;have B8:=B6.keep (s7.trans s8);have nP:=(B6.keep s7).free hp
 try simp!
 delta R5;simp!;refine _q Z rgM (λx=>rgM (x.1,x.2/7+1)) ?_ ?_ hΦ λp8 hq8=>?_
 .simp![hp8]
  exact⟨rfl,by lia,hp8⟩
 .intro x hx D s;simp only[sCm,Xx,Yc,Yn,Yo,Yg,Y7];have e:((x.2:Int)/7+1)=((x.2/7+1:Nat):Int):=by lia
  simp!;rw[e]
 have nT:=B8.free hq8;have rest:∀(ts:List (Str×Nat))M9,ts.length=Z.length->(∀x∈ts,∃I∈W.isl,x.1=I.name)->SameM M8 M9->M9 p8=some (.lst (ts.map rgM))->wSs ([("_law_begins",Wn),("_law_cell_at",Ve),("_law_rings",Wm),("_law_things",Wc),("made",W8),("Run___init__",Wi),("Run_given",Wf),("Run_number",Wj),("Run_ring",Wh),("Run_steps_done",Wk),("Run_taken",Wg),("Run_words",Wl)]:List (Str×SpM)) Gy {nx:=fun _ D=>Q .non D,rt:=Q} [some (.frl (X.map MV.int)),some (.int W.w),some (.ref pi),some (.ref pf),some W.mv,some (.ref r),some (.ref N),some (.ref p),some (.ref p8),none,none,none,none] M9:=by
  intro ts M9 tl to s9 hp9;have s49:=s48.trans s9;obtain⟨L,hL⟩:∃L,L=[(pi,MO.lst ys),(pf,MO.lst (W.fer.map Fer.mv)),(p,MO.lst (Z.map rgM)),(p8,MO.lst (ts.map rgM))]:=⟨_,rfl⟩;have O9:Offs M9 r N R R2 L:=by
   subst hL;intro x hx;simp only[Xk,XJ,or_false]at hx;rcases hx with rfl|rfl|rfl|rfl
   .exact⟨s49 _ _ Y,no5 _ _ Y,λz=>no6 _ _ (s45 _ _ Y) (RunS.in_own z)⟩
   .exact⟨s49 _ _ jM,no5 _ _ jM,λz=>no6 _ _ (s45 _ _ jM) (RunS.in_own z)⟩
   .exact⟨s9 _ _ hp8,nP⟩
   .exact⟨hp9,nT⟩
  have m1:(pi,MO.lst ys)∈L:=by simp[hL]
  have m2:(pf,MO.lst (W.fer.map Fer.mv))∈L:=by simp[hL]
  have m3:(p,MO.lst (Z.map rgM))∈L:=by simp[hL]
  have m4:(p8,MO.lst (ts.map rgM))∈L:=by simp[hL]
  have B9:=B8.keep s9;have hp8:=s9 _ _ hp8;clear hL nP nT s49 s48 s47 s46 s45 no5 no6 B6 B8 Y jM hIs4;delta Gy
  simp![hp8,Xd]
  obtain⟨J,hJ⟩:∃J:Nat->Sm->MH->Prop,∀j A D,J j A D↔∃(R1 R3:RunS) (v9 u m g:Option MV),Both W D r N R1 R3/\Offs D r N R1 R3 L/\(∀y∈R1.bs,y.A.ws.length<=j)/\(∀y∈R3.bs,y.A.ws.length<=j)/\A=[some (.frl (X.map MV.int)),some (.int W.w),some (.ref pi),some (.ref pf),some W.mv,some (.ref r),some (.ref N),some (.ref p),some (.ref p8),v9,u,m,g]:=⟨_,λ_ _ _=>Ye⟩;refine⟨by lia,by lia,J,(hJ _ _ _).mpr ⟨R,R2,_,_,_,_,B9,O9,l1,l2,rfl⟩,λj A D h=>trivial,?_,?_⟩
  .rintro j y A M10 H h;obtain⟨R1,R3,v9,u,m,g,B,O,b1,b3,rfl⟩:=(hJ _ _ _).mp h;obtain⟨hj,rfl⟩:=W6 H;have hj:j<Z.length:=by simpa using hj
   have ej:((0:Int)+(j:Nat))=(j:Nat):=by lia
   obtain⟨I,hIm,en⟩:=ro _ (XU hj);obtain⟨I',hIm',en'⟩:=to _ (XU (show j<ts.length by rw[tl];exact hj))
   have ax:atI (Z.map rgM) (j:Int)=some (.tup [.str I.name,.int Z[j].2]):=Yr (by rw[Xq,X8 hj,<-en];rfl)
   have ay:atI (ts.map rgM) (j:Int)=some (.tup [.str I'.name,.int (ts[j]'(by rw[tl];exact hj)).2]):=Yr (by rw[Xq,X8 (by rw[tl];exact hj),<-en'];rfl)
   generalize Z[j].2=c1 at*;generalize(ts[j]'_).2=c2 at*;obtain⟨i,hi⟩:=List.getElem?_of_mem hIm;obtain⟨i',hi'⟩:=List.getElem?_of_mem hIm';obtain⟨n1,a1,d,d1,hn1,ha1,hk1,_,_⟩:=B.a1.isl hi;have n:=B.a1.ob;have q3:=(O _ m3).1;rw[ej];delta QZ
   simp![q3,ax,n,runO,valM]
   refine⟨r,W,R1,i,I,c1,n1,_,a1,d,rfl,G,B.a1,hi,λy H=>XY (b1 y H) (by lia),hn1,rfl,ha1,hk1,λbs E M11 v pv hR k1 _ _ _ t1 t2 t3=>?_⟩
   obtain⟨B',b1'⟩:=B.rung G hi hn1 rfl ha1 hk1 hR k1 t1 t2 t3 b1;have O':=O.kept k1;obtain⟨n2,a2,kv2,d2,hn2,ha2,C,_,_⟩:=B'.a2.isl hi';have F:=B'.a2.ob;have q4:=(O' _ m4).1;clear O B n q3 ax hR k1 t1 t2 t3 hn1 ha1 hk1
   try simp!
   delta QY
   simp![q4,ay,F,runO,valM]
   refine⟨N,W,R3,i',I',c2,n2,_,a2,kv2,rfl,G,B'.a2,hi',λy H=>XY (b3 y H) (by lia),hn2,rfl,ha2,C,λbs S M12 v pv hR k1 _ _ _ t1 t2 t3=>?_⟩
   obtain⟨B2,b3'⟩:=B'.symm.rung G hi' hn2 rfl ha2 C hR k1 t1 t2 t3 b3;have O2:=(O'.symm.kept k1).symm;replace B2:=B2.symm;clear O' B' F q4 ay hR k1 t1 t2 t3 hn2 ha2 C;have qf:=(O2 _ m2).1;have qi:=(O2 _ m1).1
   try simp!
   delta QX
   simp![qf]
   obtain⟨J2,hJ2⟩:∃J:Nat->Sm->MH->Prop,∀j' A D,J j' A D↔∃(u m g:Option MV),SameM M12 D/\A=[some (.frl (X.map MV.int)),some (.int W.w),some (.ref pi),some (.ref pf),some W.mv,some (.ref r),some (.ref N),some (.ref p),some (.ref p8),some (.int j),u,m,g]:=⟨_,λ_ _ _=>Ye⟩;refine⟨J2,(hJ2 _ _ _).mpr ⟨_,_,_,SameM.refl _,rfl⟩,λj A D h=>?_,?_,?_⟩
   .obtain⟨_,_,_,h,_⟩:=(hJ2 _ _ _).mp h;exact h _ _ qf
   .rintro k y A M13 H h;obtain⟨u,m,g,s13,rfl⟩:=(hJ2 _ _ _).mp h;obtain⟨hk,rfl⟩:=YZ (show(W.fer.map Fer.mv)[k]?=some y from H);have hf:=X8 hk;generalize W.fer[k]=f at*;have U:=B2.keep s13;obtain⟨x,hx⟩:∃b,E.bs[k]?=some b:=⟨_,X8 (by rw[U.a1.bl];exact hk)⟩
    obtain⟨z,hz⟩:∃b,S.bs[k]?=some b:=⟨_,X8 (by rw[U.a2.bl];exact hk)⟩
    have gave:=U.gave G hf hx hz;have n:=U.a1.ob;delta QW
    simp![n,runO,valM,Fer.mv]
    refine⟨r,W,E,_,k,f,x,rfl,G,U.a1,hf,hx,λg1 hg1=>?_⟩;have l:=SameM.new hg1 (.lst (x.A.ws.map natM));have e14:updM M13 g1 (.lst (x.A.ws.map natM)) g1=some (.lst (x.A.ws.map natM)):=X9;generalize updM M13 g1 _=M14 at*;have B4:=U.keep l;have n:=B4.a2.ob
    try simp!
    simp![n,runO,valM,Fer.mv]
    refine⟨N,W,S,_,k,f,z,rfl,G,B4.a2,hf,hz,λg2 hg2=>?_⟩;have s15:=SameM.new hg2 (.lst (z.A.ws.map natM));have e15:updM M14 g2 (.lst (z.A.ws.map natM)) g2=some (.lst (z.A.ws.map natM)):=X9;have e14':=s15 _ _ e14;generalize updM M14 g2 _=M15 at*
    try simp!
    refine⟨g1,g2,_,_,rfl,e14',e15,SR gave,λM16 s16=>?_⟩;have s':=l.trans (s15.trans s16);have B5:=U.keep s';have n:=B5.a1.ob
    try simp!
    delta QV
    simp![n,runO,valM,Fer.mv]
    refine⟨r,W,E,_,k,f,x,rfl,G,B5.a1,hf,hx,λg3 hg3=>?_⟩;have s17:=SameM.new hg3 (.lst ((x.A.ws.take x.A.tn).map natM));have e17:updM M16 g3 (.lst ((x.A.ws.take x.A.tn).map natM)) g3=some (.lst ((x.A.ws.take x.A.tn).map natM)):=X9;generalize updM M16 g3 _=M17 at*;have B6:=B5.keep s17;have n:=B6.a2.ob
    try simp!
    simp![n,runO,valM,Fer.mv]
    refine⟨N,W,S,_,k,f,z,rfl,G,B6.a2,hf,hz,λg4 hg4=>?_⟩;have s18:=SameM.new hg4 (.lst ((z.A.ws.take z.A.tn).map natM));have e18:updM M17 g4 (.lst ((z.A.ws.take z.A.tn).map natM)) g4=some (.lst ((z.A.ws.take z.A.tn).map natM)):=X9;have e17':=s18 _ _ e17;generalize updM M17 g4 _=M18 at*
    try simp!
    refine⟨g3,g4,_,_,rfl,e17',e18,SR λk v w a b=>gave k v w (SS a) (SS b),λM19 s19=>?_⟩
    try simp!
    exact(hJ2 _ _ _).mpr ⟨_,_,_,s13.trans (s'.trans (s17.trans (s18.trans s19))),rfl⟩
   .rintro A M13 h;obtain⟨u,m,g,s13,rfl⟩:=(hJ2 _ _ _).mp h;have qi:=s13 _ _ qi;delta QU
    simp![qi]
    obtain⟨J3,hJ3⟩:∃J:Nat->Sm->MH->Prop,∀j' A D,J j' A D↔∃(u m g:Option MV),SameM M12 D/\A=[some (.frl (X.map MV.int)),some (.int W.w),some (.ref pi),some (.ref pf),some W.mv,some (.ref r),some (.ref N),some (.ref p),some (.ref p8),some (.int j),u,m,g]:=⟨_,λ_ _ _=>Ye⟩;refine⟨J3,(hJ3 _ _ _).mpr ⟨_,_,_,s13,rfl⟩,λj A D h=>?_,?_,?_⟩
    .obtain⟨_,_,_,h,_⟩:=(hJ3 _ _ _).mp h;exact h _ _ (O2 _ m1).1
    .rintro k y A M14 H h;obtain⟨u,m,g,l,rfl⟩:=(hJ3 _ _ _).mp h;have H:ys[k]?=some y:=H;have hk:k<W.isl.length:=by rw[<-yl];exact(XF.mp H).1
     have hI:=X8 hk;obtain⟨xs,rfl⟩:=hys k _ y hI H;generalize W.isl[k]=I at*;have U:=B2.keep l;obtain⟨n1,a1,d,d1,hn1,ha1,hk1,wk1,hd1⟩:=U.a1.isl hI;obtain⟨n2,a2,kv2,d2,hn2,ha2,C,wk2,hd2⟩:=U.a2.isl hI;have n:=U.a1.ob;have F:=U.a2.ob;delta QT;simp!;delta QS
     simp![n,runO,valM]
     refine⟨r,W,E,_,k,d1,I,rfl,G,U.a1,hI,hd1,?_⟩
     try simp!
     simp![F,runO,valM]
     refine⟨N,W,S,_,k,d2,I,rfl,G,U.a2,hI,hd2,?_⟩
     try simp!
     refine Y3 (λc=>?_) (λ_=>(hJ3 _ _ _).mpr ⟨_,_,_,l,rfl⟩);obtain rfl:d1=d2:=by lia
     obtain⟨rfl,rfl⟩:=U.stand G hI hn1 hn2 ha1 ha2 hk1 C hd1 hd2;delta QR
     simp![n,runO,valM]
     refine⟨r,W,E,_,k,n1,I,rfl,G,U.a1,hI,hn1,?_⟩
     try simp!
     simp![n,runO,valM]
     refine⟨r,W,E,_,k,I,a1,d,rfl,G,U.a1,hI,ha1,hk1,λw1 hw1=>?_⟩;have s15:=SameM.new hw1 (.dic d);have e15:updM M14 w1 (.dic d) w1=some (.dic d):=X9;generalize updM M14 w1 _=M15 at*;have B4:=U.keep s15;have F:=B4.a2.ob;have C:=s15 _ _ C
     try simp!
     simp![F,runO,valM]
     refine⟨N,W,S,_,k,n1,I,rfl,G,B4.a2,hI,hn2,?_⟩
     try simp!
     simp![F,runO,valM]
     refine⟨N,W,S,_,k,I,a2,d,rfl,G,B4.a2,hI,ha2,C,λw2 hw2=>?_⟩;have s16:=SameM.new hw2 (.dic d);have e16:updM M15 w2 (.dic d) w2=some (.dic d):=X9;have e15':=s16 _ _ e15;generalize updM M15 w2 _=M16 at*
     try simp!
     obtain⟨nd,fl⟩:=wk1.nodup (G.io I (Xo hI)).nd;refine KL rfl (Alike.two (Alike.flat _ rfl) (Alike.dicFlat 0 e15' e16 nd fl)) (by decide) ?_
     try simp!
     exact(hJ3 _ _ _).mpr ⟨_,_,_,l.trans (s15.trans s16),rfl⟩
    .rintro A M14 h;obtain⟨u,m,g,l,rfl⟩:=(hJ3 _ _ _).mp h;exact(hJ _ _ _).mpr ⟨E,S,_,_,_,_,B2.keep l,O2.keep l,b1',b3',rfl⟩
  .rintro A M10 h;obtain⟨R1,R3,v9,u,m,g,B,O,b1,b3,rfl⟩:=(hJ _ _ _).mp h;delta QQ;simp!;exact q _
 have s9:=SameM.new hq8 (.lst (Z.map λx=>rgM (x.1,x.2/7+1)));have hp9:updM M8 p8 (.lst (Z.map λx=>rgM (x.1,x.2/7+1))) p8=some (.lst (Z.map λx=>rgM (x.1,x.2/7+1))):=X9;generalize updM M8 p8 _=M9 at*
 try simp!
 delta R4;simp!;refine⟨X,0,rfl,?_⟩;have em:(Z.map λx=>rgM (x.1,x.2/7+1))=(Z.map λx=>(x.1,x.2/7+1)).map rgM:=by rw[Yi];rfl
 rw[em]at hp9;have tm:∀x∈Z.map (λx=>(x.1,x.2/7+1)),∃I∈W.isl,x.1=I.name:=λx hx=>by
  obtain⟨y,H,rfl⟩:=XQ.mp hx;exact ro y H
 have tl:(Z.map λx=>(x.1,x.2/7+1)).length=Z.length:=Xd ..;generalize(Z.map λx=>(x.1,x.2/7+1))=ts at*;simp!;refine Y3 (λc=>?_) (λc=>rest ts M9 tl tm s9 hp9);delta R0
 simp![hp9]
 refine⟨⟨_,rfl⟩,show∃ys,M9 p8=some (.lst ys)/\_ from⟨_,hp9,?_⟩⟩;exact rest ts.reverse _ (by rw[List.length_reverse];exact tl) (λx hx=>tm x (List.mem_reverse.mp hx)) (s9.upd hq8 _) (by rw[X9,List.map_reverse])
end
theorem all_mk{l:E8}{w:Xm}{K:X4}{h:Heap}{mg:Str->Option X0}{fa:Addr}(X:K.In h)(G:h.Ns Xp mg)(hfa:mg "law"=some (.ref fa))
  {j:Addr}
  {y:Addr}
  {u:Addr}
  {m:Addr} {d15:Xb}
  {g:Addr} {d16:Xb}
  {d:Addr} {d17:Xb}
  {c:Addr} {d18:Xb}
  {f:Addr} {d19:Xb}
  {q:Addr} {d20:Xb}
  {r:Addr} {d21:Xb}
  {p:Addr} {d22:Xb}
  {L:Addr} {d52:Xb}
  {N:Addr} {d53:Xb}
  {O:Addr} {d54:Xb}
  {P:Addr} {d55:Xb}
  {R:Addr} {d56:Xb}
  {U:Addr} {d57:Xb}
  {W:Addr} {d58:Xb}
  {Y:Addr} {d59:Xb}
  {Z:Addr} {d60:Xb}
  {f1 f2 f3 f4 f5 f6 f7 f8 f9 A B C D E F I J M Q S H o i n x b a f36 f37 f38 f39 f40 f41 f42 f43 f44 f45 f46 f47 f48 f49 f50 f51 f61 f62 f63 f64 f65 f66 f67 f68 f69:Addr} {d1 d2 d3 d4 d5 d6 d7 d8 d9 d10 d11 d12 d13 d14 d23 d24 d25 d26 d27 d28 d29 d30 d31 d32 d33 d34 d35 d36 d37 d38 d39 d40 d41 d42 d43 d44 d45 d46 d47 d48 d49 d50 d51 d61 d62 d63 d64 d65 d66 d67 d68 z:Xb}
  {tk1:Tok}
  {tk2:Tok}
  {tk3:Tok}
  {tk4:Tok}
  {tk5:Tok}
  {tk6:Tok}
  {tk7:Tok}
  {tk8:Tok}
  {tk9:Tok}
  {tk10:Tok}
  {tk11:Tok}
  (jz:Xy K Xp "Run"=some (some (.ref j)))
  (jg:Xy K Xp "Ferry"=some (some (.ref y)))
  (jh:Xy K Xp "Side"=some (some (.ref u)))
  (h1:Fn1 K "is_whole" Af f1 d1)
  (h2:Fn1 K "is_width" Ag f2 d2)
  (h3:Fn1 K "two_to" Ah f3 d3)
  (h4:Fn1 K "fits" Ai f4 d4)
  (h5:Fn1 K "cut" Aj f5 d5)
  (h6:Fn1 K "amid" Ak f6 d6)
  (h7:Fn1 K "code_of" Al f7 d7)
  (h8:Fn1 K "number_of" Am f8 d8)
  (h9:Fn1 K "first_sign" An f9 d9)
  (h10:Fn1 K "shown" Ao A d10)
  (h11:Fn1 K "first_sight" Ap B d11)
  (h12:Fn1 K "sampled" Aq C d12)
  (h13:Fn1 K "moved" Ar D d13)
  (h14:Fn1 K "used" As E d14)
  (h15:Mt1 K u "__init__" "Side.__init__" At m d15)
  (h16:Mt1 K u "ring_ahead" "Side.ring_ahead" Au g d16)
  (h17:Mt1 K u "less_the_seen" "Side.less_the_seen" Av d d17)
  (h18:Mt1 K u "grow" "Side.grow" Aw c d18)
  (h19:Mt1 K u "show_and_see" "Side.show_and_see" Ax f d19)
  (h20:Mt1 K y "__init__" "Ferry.__init__" Ay q d20)
  (h21:Mt1 K y "ring_giver" "Ferry.ring_giver" Az r d21)
  (h22:Mt1 K y "ring_taker" "Ferry.ring_taker" AA p d22)
  (h23:Fn1 K "parts_within" AB F d23)
  (h24:Fn1 K "size_of" AC I d24)
  (h25:Fn1 K "names_read" AD J d25)
  (h26:Fn1 K "vars_in" AE M d26)
  (h27:Fn1 K "worth_of_two" AF Q d27)
  (h28:Fn1 K "worth" AG S d28)
  (h29:Fn1 K "wish" AH H d29)
  (h30:Fn1 K "number_after" AI o d30)
  (h31:Fn1 K "words_after" AJ i d31)
  (h32:Fn1 K "after" AK n d32)
  (h33:Fn1 K "is_name" AL x d33)
  (h34:Fn1 K "refuse_name" AM b d34)
  (h35:Fn1 K "refuse_unknown" AN a d35)
  (h36:Fn1 K "refuse_ferry_names" AO f36 d36)
  (h37:Fn1 K "refuse_variables" AQ f37 d37)
  (h38:Fn1 K "refuse_term" AR f38 d38)
  (h39:Fn1 K "refuse_step" AS f39 d39)
  (h40:Fn1 K "refuse_island" AT f40 d40)
  (h41:Fn1 K "refuse_islands" AU f41 d41)
  (h42:Fn1 K "refuse_ferry" AV f42 d42)
  (h43:Fn1 K "refuse_wrong_end" AW f43 d43)
  (h44:Fn1 K "refuse_wrong_ends" AX f44 d44)
  (h45:Fn1 K "frozen" AY f45 d45)
  (h46:Fn1 K "made" AZ f46 d46)
  (h47:Fn1 K "one_called" B0 f47 d47)
  (h48:Fn1 K "island_of" B1 f48 d48)
  (h49:Fn1 K "what_alone" B7 f49 d49)
  (h50:Fn1 K "is_wish_of" Ba f50 d50)
  (h51:Fn1 K "looked_up" Bb f51 d51)
  (h52:Mt1 K j "__init__" "Run.__init__" Bc L d52)
  (h53:Mt1 K j "ring" "Run.ring" Bd N d53)
  (h54:Mt1 K j "ring_ferry" "Run.ring_ferry" Be O d54)
  (h55:Mt1 K j "go_on" "Run.go_on" Bf P d55)
  (h56:Mt1 K j "number" "Run.number" Bg R d56)
  (h57:Mt1 K j "words" "Run.words" Bh U d57)
  (h58:Mt1 K j "steps_done" "Run.steps_done" Bi W d58)
  (h59:Mt1 K j "given" "Run.given" Bj Y d59)
  (h60:Mt1 K j "taken" "Run.taken" Bk Z d60)
  (h61:Fn1 K "_law_cell_at" Bl f61 d61)
  (h62:Fn1 K "_law_name" Bm f62 d62)
  (h63:Fn1 K "_law_term" Bn f63 d63)
  (h64:Fn1 K "_law_step" Bo f64 d64)
  (h65:Fn1 K "_law_island" Bp f65 d65)
  (h66:Fn1 K "_law_things" Bq f66 d66)
  (h67:Fn1 K "_law_rings" Br f67 d67)
  (h68:Fn1 K "_law_begins" Bs f68 d68)
  (h69:Fn1 K "law" Bt f69 z)
  (jr:UT K u U8=true)(jt:Vy K u=true)(ju:Wz K u=true)(jv:XV K (.ref u) "__setattr__"=some (some (.builtin "object.__setattr__")))(jw:WB K u=true)(jx:YI K (.ref u)=true)
  (jc:XV K (.ref u) "turn"=some none)
  (j9:XV K (.ref u) "total"=some none)
  (jd:XV K (.ref u) "sign"=some none)
  (ja:XV K (.ref u) "sight"=some none)
  (ji:UT K y U8=true)(jj:Vy K y=true)(jm:Wz K y=true)(jn:XV K (.ref y) "__setattr__"=some (some (.builtin "object.__setattr__")))(jo:WB K y=true)(jp:YI K (.ref y)=true)
  (j6:XV K (.ref y) "places"=some none)
  (j7:XV K (.ref y) "giver"=some none)
  (j8:XV K (.ref y) "taker"=some none)
  (jE:UT K j U8=true)(jF:Vy K j=true)(jG:Wz K j=true)(jH:XV K (.ref j) "__setattr__"=some (some (.builtin "object.__setattr__")))(jI:WB K j=true)(jJ:YI K (.ref j)=true)
  (je:XV K (.ref j) "world"=some none)
  (jb:XV K (.ref j) "moment"=some none)
  (iV:XV K (.ref j) "next_numbers"=some none)
  (j5:XV K (.ref j) "words_now"=some none)
  (iW:XV K (.ref j) "steps_so_far"=some none)
  (jf:XV K (.ref j) "boats"=some none)
  (iX:XV K (.ref j) "given_so_far"=some none)
  (iY:XV K (.ref j) "taken_so_far"=some none)
  (z1:Xy K Xp "all"=some none)
  (z2:Xy K Xp "bool"=some none)
  (z3:Xy K Xp "dict"=some none)
  (z4:Xy K Xp "int"=some none)
  (z5:Xy K Xp "isinstance"=some none)
  (z6:Xy K Xp "len"=some none)
  (z7:Xy K Xp "list"=some none)
  (z8:Xy K Xp "max"=some none)
  (z9:Xy K Xp "min"=some none)
  (z10:Xy K Xp "range"=some none)
  (z11:Xy K Xp "set"=some none)
  (z12:Xy K Xp "sorted"=some none)
  (z13:Xy K Xp "tuple"=some none)
  (g1:Xy K Xp "MOST_WIDTH"=some (some (.int 64 tk1)))
  (g2:Xy K Xp "MOST_LETTERS"=some (some (.int 8 tk2)))
  (g3:Xy K Xp "MOST_ISLANDS"=some (some (.int 5 tk3)))
  (g4:Xy K Xp "MOST_FERRIES"=some (some (.int 6 tk4)))
  (g5:Xy K Xp "MOST_VARS"=some (some (.int 6 tk5)))
  (g6:Xy K Xp "MOST_STEPS"=some (some (.int 12 tk6)))
  (g7:Xy K Xp "MOST_PARTS"=some (some (.int 30 tk7)))
  (g8:Xy K Xp "MOST_DEPTH"=some (some (.int 8 tk8)))
  (g9:Xy K Xp "MOST_K"=some (some (.int 3 tk9)))
  (g10:Xy K Xp "MOST_STAGES"=some (some (.int 3 tk10)))
  (g11:Xy K Xp "BITS_A_FERRY"=some (some (.int 8 tk11))):
  ∃fd:Xb,(∀(s:X2)(v:X0),BindsTo s fd ⟨[v],[]⟩ [("script",v)])/\∀base:Heap,K.In base->base.Ns Xp mg->FnOk l.prog w K mg base CX0 60 fa fd ["script"] (Dc K):=by
 have e:=hfa.symm.trans (Yu X G h69.a);cases e;have T:Txt K mg ⟨f1,d1,f2,d2,f3,d3,f4,d4,f5,d5,f6,d6,f7,d7,f8,d8,f9,d9,A,d10,B,d11,C,d12,D,d13,E,d14,m,_,g,_,d,_,c,_,f,_,q,_,r,_,p,_,F,d23,I,d24,J,d25,M,d26,Q,d27,S,d28,H,d29,o,d30,i,d31,n,d32,x,d33,b,d34,a,d35,f36,d36,f37,d37,f38,d38,f39,d39,f40,d40,f41,d41,f42,d42,f43,d43,f44,d44,f45,d45,f46,d46,f47,d47,f48,d48,f49,d49,f50,d50,f51,d51,L,_,N,_,O,_,P,_,R,_,U,_,W,_,Y,_,Z,_,f61,d61,f62,d62,f63,d63,f64,d64,f65,d65,f66,d66,f67,d67,f68,d68,fa,z,u,y,j⟩:={
  aT:=h1.t X G λ_ _ _ _ _ _=>us1 (λ_=>rfl)
  aP:=h2.t X G λ_ _ _ _ _ _=>us1 (λ_=>rfl)
  aF:=h3.t X G λ_ _ _ _ _ _=>us1 (λ_=>rfl)
  bS:=h4.t X G λ_ _ _ _ _ _=>us2 (λ_ _=>rfl)
  aG:=h5.t X G λ_ _ _ _ _ _=>us2 (λ_ _=>rfl)
  bM:=h6.t X G λ_ _ _ _ _ _=>us3 (λ_ _ _=>rfl)
  aU:=h7.t X G λ_ _ _ _ _ _=>us1 (λ_=>rfl)
  bz:=h8.t X G λ_ _ _ _ _ _=>us1 (λ_=>rfl)
  aS:=h9.t X G λ_ _ _ _ _ _=>us1 (λ_=>rfl)
  aV:=h10.t X G λ_ _ _ _ _ _=>us3 (λ_ _ _=>rfl)
  bA:=h11.t X G λ_ _ _ _ _ _=>us2 (λ_ _=>rfl)
  b0:=h12.t X G λ_ _ _ _ _ _=>us3 (λ_ _ _=>rfl)
  be:=h13.t X G λ_ _ _ _ _ _=>us2 (λ_ _=>rfl)
  bE:=h14.t X G λ_ _ _ _ _ _=>us1 (λ_=>rfl)
  gT:=h15.F
  gY:=h15.F.binds (ps:=["self","turn","stages"]) fun _ _ _ _ _ _=>us3 (fun _ _ _=>rfl)
  iR:=h15.M
  gk:=h16.F
  bX:=h16.F.binds (ps:=["self"]) fun _ _ _ _ _ _=>us1 (fun _=>rfl)
  bq:=h16.M
  dh:=h17.F
  c7:=h17.F.binds (ps:=["self"]) fun _ _ _ _ _ _=>us1 (fun _=>rfl)
  ca:=h17.M
  fD:=h18.F
  cr:=h18.F.binds (ps:=["self"]) fun _ _ _ _ _ _=>us1 (fun _=>rfl)
  bL:=h18.M
  ge:=h19.F
  bD:=h19.F.binds (ps:=["self","moment","choice","other_sign"]) fun _ _ _ _ _ _=>us4 (fun _ _ _ _=>rfl)
  bG:=h19.M
  iq:=h20.F
  cO:=h20.F.binds (ps:=["self","k","stages"]) fun _ _ _ _ _ _=>us3 (fun _ _ _=>rfl)
  iS:=h20.M
  gU:=h21.F
  dM:=h21.F.binds (ps:=["self","moment","choice","word"]) fun _ _ _ _ _ _=>us4 (fun _ _ _ _=>rfl)
  fK:=h21.M
  fi:=h22.F
  dR:=h22.F.binds (ps:=["self","moment","choice","wished"]) fun _ _ _ _ _ _=>us4 (fun _ _ _ _=>rfl)
  cM:=h22.M
  aA:=h23.t X G λ_ _ _ _ _ _=>us1 (λ_=>rfl)
  aB:=h24.t X G λ_ _ _ _ _ _=>us1 (λ_=>rfl)
  aw:=h25.t X G λ_ _ _ _ _ _=>us1 (λ_=>rfl)
  aL:=h26.t X G λ_ _ _ _ _ _=>us1 (λ_=>rfl)
  aN:=h27.t X G λ_ _ _ _ _ _=>us4 (λ_ _ _ _=>rfl)
  ae:=h28.t X G λ_ _ _ _ _ _=>us3 (λ_ _ _=>rfl)
  cu:=h29.t X G λ_ _ _ _ _ _=>us4 (λ_ _ _ _=>rfl)
  aQ:=h30.t X G λ_ _ _ _ _ _=>us4 (λ_ _ _ _=>rfl)
  aK:=h31.t X G λ_ _ _ _ _ _=>us4 (λ_ _ _ _=>rfl)
  bW:=h32.t X G λ_ _ _ _ _ _=>us5 (λ_ _ _ _ _=>rfl)
  cf:=h33.t X G λ_ _ _ _ _ _=>us1 (λ_=>rfl)
  aM:=h34.t X G λ_ _ _ _ _ _=>us2 (λ_ _=>rfl)
  ao:=h35.t X G λ_ _ _ _ _ _=>us2 (λ_ _=>rfl)
  aR:=h36.t X G λ_ _ _ _ _ _=>us1 (λ_=>rfl)
  bP:=h37.t X G λ_ _ _ _ _ _=>us2 (λ_ _=>rfl)
  bN:=h38.t X G λ_ _ _ _ _ _=>us2 (λ_ _=>rfl)
  cw:=h39.t X G λ_ _ _ _ _ _=>us4 (λ_ _ _ _=>rfl)
  bH:=h40.t X G λ_ _ _ _ _ _=>us3 (λ_ _ _=>rfl)
  aJ:=h41.t X G λ_ _ _ _ _ _=>us3 (λ_ _ _=>rfl)
  aI:=h42.t X G λ_ _ _ _ _ _=>us2 (λ_ _=>rfl)
  bB:=h43.t X G λ_ _ _ _ _ _=>us4 (λ_ _ _ _=>rfl)
  aO:=h44.t X G λ_ _ _ _ _ _=>us2 (λ_ _=>rfl)
  ak:=h45.t X G λ_ _ _ _ _ _=>us1 (λ_=>rfl)
  cq:=h46.t X G λ_ _ _ _ _ _=>us3 (λ_ _ _=>rfl)
  ci:=h47.t X G λ_ _ _ _ _ _=>us2 (λ_ _=>rfl)
  bj:=h48.t X G λ_ _ _ _ _ _=>us2 (λ_ _=>rfl)
  bJ:=h49.t X G λ_ _ _ _ _ _=>us1 (λ_=>rfl)
  bZ:=h50.t X G λ_ _ _ _ _ _=>us2 (λ_ _=>rfl)
  aE:=h51.t X G λ_ _ _ _ _ _=>us2 (λ_ _=>rfl)
  dX:=h52.F
  fY:=h52.F.binds (ps:=["self","world"]) fun _ _ _ _ _ _=>us2 (fun _ _=>rfl)
  iT:=h52.M
  cL:=h53.F
  gc:=h53.F.binds (ps:=["self","name","choice"]) fun _ _ _ _ _ _=>us3 (fun _ _ _=>rfl)
  iN:=h53.M
  iE:=h54.F
  fT:=h54.F.binds (ps:=["self","ferry","name","choice","asked"]) fun _ _ _ _ _ _=>us5 (fun _ _ _ _ _=>rfl)
  fP:=h54.M
  fk:=h55.F
  fS:=h55.F.binds (ps:=["self","name","steps","word"]) fun _ _ _ _ _ _=>us4 (fun _ _ _ _=>rfl)
  dm:=h55.M
  gJ:=h56.F
  iJ:=h56.F.binds (ps:=["self","name"]) fun _ _ _ _ _ _=>us2 (fun _ _=>rfl)
  iH:=h56.M
  fM:=h57.F
  gZ:=h57.F.binds (ps:=["self","name"]) fun _ _ _ _ _ _=>us2 (fun _ _=>rfl)
  iO:=h57.M
  iu:=h58.F
  fJ:=h58.F.binds (ps:=["self","name"]) fun _ _ _ _ _ _=>us2 (fun _ _=>rfl)
  hV:=h58.M
  cN:=h59.F
  iI:=h59.F.binds (ps:=["self","name"]) fun _ _ _ _ _ _=>us2 (fun _ _=>rfl)
  cU:=h59.M
  gL:=h60.F
  cV:=h60.F.binds (ps:=["self","name"]) fun _ _ _ _ _ _=>us2 (fun _ _=>rfl)
  hZ:=h60.M
  aX:=h61.t X G λ_ _ _ _ _ _=>us2 (λ_ _=>rfl)
  b7:=h62.t X G λ_ _ _ _ _ _=>us2 (λ_ _=>rfl)
  bC:=h63.t X G λ_ _ _ _ _ _=>us2 (λ_ _=>rfl)
  cx:=h64.t X G λ_ _ _ _ _ _=>us5 (λ_ _ _ _ _=>rfl)
  bb:=h65.t X G λ_ _ _ _ _ _=>us5 (λ_ _ _ _ _=>rfl)
  ce:=h66.t X G λ_ _ _ _ _ _=>us2 (λ_ _=>rfl)
  b8:=h67.t X G λ_ _ _ _ _ _=>us2 (λ_ _=>rfl)
  bF:=h68.t X G λ_ _ _ _ _ _=>us2 (λ_ _=>rfl)
  fZ:=h69.t X G λ_ _ _ _ _ _=>us1 (λ_=>rfl)
  ag:=jh
  fu:=Yu X G jh
  aj:=⟨jr,jt,ju,jv⟩
  dc:=⟨jw,h15.M.at_,h15.M.fn,jx⟩
  eL:=jc
  cW:=j9
  ic:=jd
  fO:=ja
  aC:=jg
  iG:=Yu X G jg
  aH:=⟨ji,jj,jm,jn⟩
  gG:=⟨jo,h20.M.at_,h20.M.fn,jp⟩
  dS:=j6
  dY:=j7
  gN:=j8
  ab:=jz
  cB:=Yu X G jz
  ac:=⟨jE,jF,jG,jH⟩
  di:=⟨jI,h52.M.at_,h52.M.fn,jJ⟩
  gS:=je
  iB:=jb
  fc:=iV
  dg:=j5
  iL:=iW
  fL:=jf
  eX:=iX
  iM:=iY
  ii:=YX X G z1
  cG:=YX X G z2
  dW:=YX X G z3
  eJ:=YX X G z4
  cR:=YX X G z5
  iy:=YX X G z6
  dr:=YX X G z7
  dC:=YX X G z8
  cE:=YX X G z9
  cH:=YX X G z10
  eE:=YX X G z11
  ga:=YX X G z12
  cF:=YX X G z13
  fN:=⟨_,Yu X G g1⟩
  fW:=⟨_,Yu X G g2⟩
  il:=⟨_,Yu X G g3⟩
  d0:=⟨_,Yu X G g4⟩
  df:=⟨_,Yu X G g5⟩
  eB:=⟨_,Yu X G g6⟩
  iw:=⟨_,Yu X G g7⟩
  eK:=⟨_,Yu X G g8⟩
  iC:=⟨_,Yu X G g9⟩
  eC:=⟨_,Yu X G g10⟩
  eY:=⟨_,Yu X G g11⟩
 }
 exact⟨z,h69.bt λ_ _ _ _ _ _ _=>rfl,λbase _ _=>_o0 (FnOk.mono (_qf T) (by decide))⟩
theorem walk{l:E8}{q:Xw}{j:List Str}{r:(Str->Option X0)->Heap->Prop}{m:Xm->Heap->Prop}{d:DefRec}{K:Params->X4}(p:l.most=some 63)(y:d.params.defaults=[])
  (e:∀(w:Xm)(h:Heap),m w h->(K w.params).In h)
  (F:∀(w:Xm)(mg:Str->Option X0)(g:Addr)(h:Heap),(K w.params).In h->h.Ns Xp mg->mg d.name=some (.ref g)->
   ∃c:Xb,(∀(s:X2)(u:X0),BindsTo s c ⟨[u],[]⟩ [("script",u)])/\∀base:Heap,(K w.params).In base->base.Ns Xp mg->FnOk l.prog w (K w.params) mg base CX0 60 g c ["script"] (Dc (K w.params))):
  PySem.W.WalkO q j r m l.row.toRowW d [] (λf vs=>PySem.call f vs):=
 L2.walk_of (n:=63) (k:=60) (x:="script") (CX:=fun _=>CX0) (sp:=fun w=>Dc (K w.params)) p (by decide) y ⟨rfl,by decide,by decide⟩ e F (fun _ H a L N O P=>⟨a,L,rfl,_qH O P,N,fun _=>rfl⟩) fun _ _ _ _ _ z=>z
end My
structure PySem.W.Fast:Prop where
 (tw4848891428799660608 tw15321000857685727659 tw16327617296734062493 tw6722988430436507766 tw2764254798333323027 tw15381976292575783916 tw1470827996657289672 tw17031113194221000317 tw1869375708071975308 tw13601180742953975355 tw6784447656812614025 tw5018739265933121929 tw2454605886639341428 tw17526571004377857853 tw13791397725377279421 tw589934182795169627 tw13050871116636364161 tw8266594369431199044 tw13822834404389275860 tw18269262070954354797 tw10513188311633486304 tw17226902602824446877 tw11794445635484455043 tw7857351571078533619 tw3007848587626362322 tw15993396816895141462 tw17880951060441696604 tw9309332893097680621 tw12719000166435390345 tw5466554428118221361 tw14175935225850126391 tw16576746122303049336 tw17159066849939490176 tw18058776617260366928 tw6305926638572585984 tw3688008495516980060 tw16255163021422671747 tw10858774158215415759 tw6513481469022636277 tw14153055124698668103 tw17869882420961653296 tw1600539265842524798 tw4482222773799181739 tw16120805373970350680 tw10733814558224978752 tw11122004779962906711 tw1433761551714400506 tw5339289343507931245 tw8799524109315156316 tw14918317917871878512 tw582856756795919441 tw10030550931080859539 tw437228784621246296 tw157798863049244122 tw5396762045741999345 tw5413025459704584168 tw5709470811286345665 tw14892494212144320323 tw3056314781912205061 tw3273632581493032860 tw3850055745745823612 tw4839399184855382796 tw5171167318208150228 tw2097041070715890739 tw15265059691735204919 tw13084337129328750080 tw2837404082799410360 tw9025237487926534108 tw6973039829076213099 tw2855519852147172621 tw80044908616886375 tw6441716234613014608 tw2614567216763299930 tw16983486002526797446 tw3994458879799424184 tw2021798631790193968 tw12347035577937342857 tw15774246074123279380 tw12607044497047209167 tw10977286704248624467 tw17752179073104513243 tw16184228094555892849 tw10425686516464525165 tw6617732261032773013 tw18013672060576517458 tw13348577384377084635 tw15786080906438035332 tw5836545565989298718 tw11221675202828784421 tw2098472166407066955 tw69352695699731573 tw10061091415492793987 tw9076727479890466576 tw12611822218584984244 tw13249051448604878222 tw268564681483368882 tw18241983851173461915 tw8492023625509772839 tw14913788450291015989 tw16648742221979264747 tw7647041646195970198 tw18015754661343403715 tw6725747678105203305 tw17967342211922272195 tw13089857488497408938 tw6495753262196325897 tw10003283547058921156 tw2161992074087101289 tw2469085292299829747 tw13551411642521349850 tw14393099543331365043 tw3799104240722435088 tw10672336025505753924 tw14539310110764930455 tw18048046735708498 tw11898779229532017364 tw1651085042703696933 tw5878300194512030579 tw11529611293372012270 tw6540455013689315029 tw11717343571142468652 tw5357249468050209437 tw14954614689463976416 tw13945379154392956605 tw15689687501804054910 tw15730706461296814555 tw2704907607045141692 tw9379480783987207180 tw7615576597973793034 tw13050664819383777406 tw15397237699455249521 tw14083250674269571955 tw4213466855416231041 tw10200784784916221399 tw11508570377434837373 tw16954196775806673665 tw8209631585366033826 tw351334777846496753 tw17620164805084598228 tw12760649270510989559 tw6043595969450909261 tw3981869225390706687 tw4090772152668228015 tw8629116740825848410 tw5079593065800253268 tw11926233717821140531 tw8165400975303061453 tw3964765689633946548 tw6685146809326703149 tw7678413450403340528 tw16019849188149406041 tw8379537663064697771 tw15130770282246776401 tw487887385818103351 tw17988144143199072059 tw10477030438068593324 tw8288089446317248805 tw5472930148014764770 tw10399381253805177556 tw97151104031634635 tw16396639566103239961 tw3722106242458971771 tw9906837825578443193 tw1140718685116795553 tw10707186156481261683 tw9485173270806442350 tw13560694896131301101 tw7567972727452564863 tw12405985437634061221 tw7921185813874380163 tw7812430899300102955 tw15697875917028362594 tw1184233859373833724 tw6650516760167615009 tw10217325334960195451 tw13918101945104609846 tw18112494343292013898 tw9858647249290586908 tw16976736646467837445 tw8118448224373058541 tw11211607608729609289 tw14705328876861053763 tw3259177798406960413 tw10334298909641009395 tw15596142300133652009 tw16661942734954961178 tw17950726088811254553 tw9647555154953944642 tw9411992001010115898 tw12385658047832999869 tw11276561327381317340 tw15383234129914263701 tw10134431625008119444 tw6247682728365498958 tw378078066882253117 tw16834559442190032372 tw9166509391669551424 tw10252206713033037461 tw11247950821580453835 tw6625507621369694066 tw11752075481647137726 tw3167421692060543760 tw1648763028115098739 tw11165613737855905308 tw8688887638851527259 tw12364310661484996732 tw6585314506403595270 tw17742988554384546184 tw1076996137192636457 tw16832377964324182550 tw10932328700349260896 tw18383813797236000570 tw708639014677738461 tw17896571710962435331 tw3856698030646767531 tw2581956197944304015 tw5302594852244386304 tw11023062612292048847 tw5576271586533846294 tw2513109460243094956 tw3275038577722089545 tw6318803997160989673 tw5824968348489094759 tw13156119273671924436 tw10266012821938749352 tw2753774599258369262 tw6757205466657948300 tw3311641732854474679 tw15293673458643203743 tw6568847086358295610 tw9793914283805246312 tw14788492307501939742 tw12784498423311340604 tw10851900255347169348 tw10543847084637628732 tw14778918726301757958 tw1638200935641821551 tw12414523710564914259 tw17664694573160980144 tw9825479634496907372 tw5641083253590458846 tw12382445614628828597 tw12755830435028600160 tw3088751463761295865 tw3308642725593669212 tw12336306423913086455 tw1389281650599533629 tw182176923973932465 tw7009780579789074114 tw11436894363793200096 tw18358070918990645858 tw4279378987224629539 tw12081108249621652072 tw9558627518828359215 tw4793382325828089356 tw12560788421192649077 tw14526859331852481027 tw4542809527608659872 tw5399881129922745495 tw11414597700034738871 tw248725297859930904 tw10973144924038992233 tw832016933281979038 tw5156365242728606402 tw1789718479472653464 tw11946558233134280587 tw16977592520118203903 tw13288433618384605396 tw7500350207066674062 tw11281484228496362642 tw3134390340160244931 tw654499897808450015 tw15027604217696694054 tw8069769158960303369 tw2861371780969001160 tw13031218890511147136 tw3305046060021793885 tw15623043200531155943 tw5109760101665060500 tw7710373725827589404 tw2370128796186081748 tw6641398783955972617 tw7851704851191018180 tw2857881735633437041 tw16775248169455691711 tw3739802681293071075 tw15555889016575011867 tw6725083316978597066 tw6941449221939960589 tw8863717683368694339 tw15371858461080469992 tw2781821217343447488 tw5553688029921435905 tw6094794521159200606 tw9793559049978628681 tw2364569937346115163 tw6927985259496101598 tw7609990136384499189 tw4805684520388820585 tw6017651879024931091 tw8217253296384995887 tw1474740968811358050 tw16859396302044008698 tw13831691962041538895 tw11293822552447167918 tw7831378262449335038 tw1322363517362107746 tw1947836365035694638 tw10267106249210113951 tw3102066285974115088 tw15486550400000283701 tw2720634579112599307 tw1754867110512210331 tw3783645805940067621 tw8674081612560062583 tw5884794355514590331 tw10346422576573976344 tw3918513061983751285 tw6598808621920229909 tw18223232818231823088 tw824906227279185057 tw10558131240896825892 tw14597878635369893184 tw9290980202541897563 tw10755418751869219730 tw4198163192115510978 tw11981921248040932012 tw17014315051672741675 tw14546283023112598159 tw9763962283068615355 tw7507315219401104503 tw13325203680431865274 tw11418648855957575371 tw6582573580584088666 tw6166877178031424115 tw6228353581683128348 tw5373257161368431032 tw3232665648373121712 tw1794490861403580436 tw9742782109703980826 tw15980151837975577617 tw11703821571218073591 tw3306403610639801195 tw11727789128101069794 tw2406986735359583054 tw6393186980223544457 tw11144948307874345252 tw4930860800609737702 tw11991988635923266862 tw11269060950781281376 tw16868133420924772052 tw13008835651064494793 tw13923700545469965257 tw383341778840360373 tw16108603733539914249 tw9841968515829357108 tw10109267348655190981 tw2755661511446594179 tw14285853086844269580 tw9977025081555849674 tw13459178723917633055 tw12702793279211991474 tw5895790152684526578 tw12097086834662829158 tw10065346767258853508 tw17768697383664553550 tw13769672421740638656 tw11336856578811617161 tw4780365002345291136 tw13264934289126129606 tw16840818682516959578 tw4890567967123095832 tw6044979612230121842 tw8760123407230776143 tw16437195259507802214 tw6497900765640970533 tw14084165597124423066 tw1428038223107045356 tw305001612258025222 tw4843609001868459389 tw770612926831658900 tw12337631723080275508 tw13444480753769739264 tw11082934878940420918 tw5219889387991782281 tw14848436685217100498 tw4902751550138783288 tw1478273008981489987 tw4230034987098014535 tw17874327139014988402 tw6298922624040348004 tw15093341806253484214 tw484025115034759219 tw6769531321111069667 tw10535460293587993554 tw10038488332154665392 tw6518308121129438049 tw17440476180910985158 tw5463272406995545443 tw572315138923511888 tw15569153194573194229 tw17714137947997213406 tw8779456372101096630 tw14013666188247580704 tw1056594786089530240 tw18173976469734111105 tw15143750537370206312 tw17922734437183876805 tw5199736356503669462 tw13762560299794864407 tw2076254415950433173 tw2849202520937159672 tw9426953604683542684 tw14888732342854981009 tw14507263483808806239 tw1882770491923784599 tw7997533521288189218 tw7447731635542519506 tw3951569193405792212 tw14670378965146207804 tw7028051426506608016 tw15752086733357767820 tw12123550942778173070 tw2508247307332073335 tw3732644177039104905 tw10958477755827587329 tw6357398042310421670 tw17878688544226172393 tw7200954952092429441 tw12514406264904276185 tw18087546623131398323 tw3862731063628442650 tw13405896520000137287 tw7023604570681534970 tw10726351257830603973 tw7412007210016652781 tw11146548724204158557 tw9918865259346927554 tw12603817016650632180 tw6143112726808351244 tw17536404285322216964 tw8852204407613800857 tw7040409035906815346 tw9565150287481428761 tw10540608272911932871 tw3094317751705784856 tw3186551826846147865 tw9740568987167836000 tw16540763975608684037 tw16555328790368825846 tw7459849460694302439 tw13877736623090164458 tw13551550178386013763 tw1048321119938280821 tw4911962818280378300 tw17323503944719087245 tw10854794085154784597 tw52211234322696381 tw18151418314812132876 tw10155052166479621191 tw16199274271698771716 tw805188269766070241 tw367015376954185228 tw3322348310796708528 tw6956644206642990485 tw3314272781184453490 tw11697313743060533269 tw556857956477349831 tw4452892217935759120 tw3797174034595199518 tw7196419140673934650 tw12245901120258529629 tw9139383265237643108 tw14238568308028118358 tw17056172416751121605 tw2585164442265602578 tw7405421505588133132 tw11305300837442136500 tw18130177777372516074 tw13598537292959108781 tw14965936884695525842 tw12790529273213072118 tw14749636652346363173 tw16881955333764080036 tw17651746651437076140 tw14761413128557918626 tw1568552263496516085 tw16310065996921184744 tw11561807611470046486 tw3102539003603952126 tw6719679129540250958 tw8752485979161486408 tw1488504022528222468 tw8473152134830239445 tw17182637442762372540 tw4965521126038501534 tw11703105144890874312 tw4385864376911109217 tw14107736178984720638 tw14760482005420410175 tw14562019907304258861 tw2118101365551513841 tw6021611067304904503 tw8954070347761993021 tw9658230961068593380 tw14752969890021358798 tw11469215880148115075 tw12314233920732495213 tw3916694798581315714 tw18269300933999089387 tw14024093966809050613 tw12187824241591057985 tw2290655741479449878 tw13820120056424592783 tw153738943257095710 tw16680023291757631156 tw2962253441541635175 tw4006525920286643051 tw16554621486587940171 tw9500953557055147858 tw713286841937184214 tw1045825971083821271 tw13530390356203816336 tw3179698046450995018 tw7680578056978801933 tw14745261653272979953 tw17559557398666729561 tw6168161684727548138 tw3232102452511374605 tw9346784046212343368 tw6896978001024168341 tw17055036087602426478 tw18214652014202237966 tw11949109297970200672 tw1140958201810733267 tw7770944344568598763 tw2174454151947278437 tw14518364235053595724 tw16833124750903095202 tw16028326680886000310 tw17249664163152299149 tw5192536021734139600 tw9515091163977485169 tw3977955782269416218 tw7283233148108639635 tw10916134419839451300 tw15448539451129988357 tw3320551379867410099 tw7796821543267643640 tw4123841171728968618 tw3381405316513344586 tw11707080554271083362 tw2288891994822949941 tw7851374080916003158 tw9819966767617628422 tw1044761234285916165 tw17977188101287205178 tw12575999726759574041 tw14218305347075038712 tw13422486502677031765 tw9128565579238960109 tw11544555857557431873 tw18052417583951365920 tw1308388141619489816 tw16991518927319264153 tw5327697016762812478 tw16763621043642700686 tw16089775761225357922 tw690629385391021633 tw654540950043313201 tw4201901301491173813 tw7205613821521463786 tw14347256729729577038 tw2575151866436404463 tw5925470100281465210 tw13973186868065676142 tw11399057875948891564 tw2596621734334112062 tw2268452904509729844 tw13372229092588159353 tw1488716778053222164 tw8339430446747704379 tw17953966044961448608 tw9350134817376118982 tw3239101139377112781 tw6443954652205882018 tw6156518622889978556 tw1445358296311519937 tw7712291105111279343 tw12679481565765854835 tw722351732352287792 tw559836612825930066 tw146306688074946408 tw6245576526190852301 tw2979828212489875588 tw10653984439570086540 tw7663818575671406754 tw6892193129263470224 tw16901115878363483647 tw2934559920624562021 tw7860658855886799561 tw1146408307476735441 tw4079365174527713256 tw4972219493566075224 tw8719269609928986288 tw17090295998001454280 tw9477777190852409091 tw9601293619897498988 tw5317335299814276655 tw16055271130940831423 tw16499150814521443071 tw5273499516637695336 tw8935289572352404437 tw14062823625624423607 tw10256395248837368282 tw17461955271631828766 tw4020940191946480592 tw12232382339143912053 tw1126141454221680516 tw8718511271821828563 tw3049930117307830788 tw15655663087294987355 tw13072609851059863060:True)
open PySem PySem.W PyProof.Rows
local macro_rules | `(tactic| walk_at "q_fn") => `(tactic| (refine' ⟨?a, L2.fun_mk ?l ?c ?k⟩; (case a => k_is); (case l => k_is); (case c => k_is); (case k => k_is)))
local macro_rules | `(tactic| walk_at "q_mt") => `(tactic| (refine' L2.mt_mk ?a ?i ?l ?c ?k; (case a => k_is); (case i => k_is); (case l => k_is); (case c => k_is); (case k => k_is)))
set_option maxRecDepth 100000 in
set_option maxHeartbeats 0 in
theorem PySem.Challenge.cw_bellferry_k72_whole_whatever_rings_first_holds : PySem.Challenge.rw_bellferry_k72_whole_whatever_rings_first.Holds := by
 w_on;o_law;k_head;(case hw=>w_witness2)
 k_fill
 refine My.walk (l:=PySem.Challenge.rw_bellferry_k72_whole_whatever_rings_first) rfl rfl (λw h Y=>PySem.W.kIn_of Y) ?F
 case F=>
  intro w y z h u G j;refine' My.all_mk u G j ?jz ?jg ?jh ?h1 ?h2 ?h3 ?h4 ?h5 ?h6 ?h7 ?h8 ?h9 ?h10 ?h11 ?h12 ?h13 ?h14 ?h15 ?h16 ?h17 ?h18 ?h19 ?h20 ?h21 ?h22 ?h23 ?h24 ?h25 ?h26 ?h27 ?h28 ?h29 ?h30 ?h31 ?h32 ?h33 ?h34 ?h35 ?h36 ?h37 ?h38 ?h39 ?h40 ?h41 ?h42 ?h43 ?h44 ?h45 ?h46 ?h47 ?h48 ?h49 ?h50 ?h51 ?h52 ?h53 ?h54 ?h55 ?h56 ?h57 ?h58 ?h59 ?h60 ?h61 ?h62 ?h63 ?h64 ?h65 ?h66 ?h67 ?h68 ?h69 ?jr ?jt ?ju ?jv ?jw ?jx ?jc ?j9 ?jd ?ja ?ji ?jj ?jm ?jn ?jo ?jp ?j6 ?j7 ?j8 ?jE ?jF ?jG ?jH ?jI ?jJ ?je ?jb ?iV ?j5 ?iW ?jf ?iX ?iY ?z1 ?z2 ?z3 ?z4 ?z5 ?z6 ?z7 ?z8 ?z9 ?z10 ?z11 ?z12 ?z13 ?g1 ?g2 ?g3 ?g4 ?g5 ?g6 ?g7 ?g8 ?g9 ?g10 ?g11
  (case jz=>k_is)
  (case jg=>k_is)
  (case jh=>k_is)
  (case h1=>walk_at "q_fn")
  (case h2=>walk_at "q_fn")
  (case h3=>walk_at "q_fn")
  (case h4=>walk_at "q_fn")
  (case h5=>walk_at "q_fn")
  (case h6=>walk_at "q_fn")
  (case h7=>walk_at "q_fn")
  (case h8=>walk_at "q_fn")
  (case h9=>walk_at "q_fn")
  (case h10=>walk_at "q_fn")
  (case h11=>walk_at "q_fn")
  (case h12=>walk_at "q_fn")
  (case h13=>walk_at "q_fn")
  (case h14=>walk_at "q_fn")
  (case h15=>walk_at "q_mt")
  (case h16=>walk_at "q_mt")
  (case h17=>walk_at "q_mt")
  (case h18=>walk_at "q_mt")
  (case h19=>walk_at "q_mt")
  (case h20=>walk_at "q_mt")
  (case h21=>walk_at "q_mt")
  (case h22=>walk_at "q_mt")
  (case h23=>walk_at "q_fn")
  (case h24=>walk_at "q_fn")
  (case h25=>walk_at "q_fn")
  (case h26=>walk_at "q_fn")
  (case h27=>walk_at "q_fn")
  (case h28=>walk_at "q_fn")
  (case h29=>walk_at "q_fn")
  (case h30=>walk_at "q_fn")
  (case h31=>walk_at "q_fn")
  (case h32=>walk_at "q_fn")
  (case h33=>walk_at "q_fn")
  (case h34=>walk_at "q_fn")
  (case h35=>walk_at "q_fn")
  (case h36=>walk_at "q_fn")
  (case h37=>walk_at "q_fn")
  (case h38=>walk_at "q_fn")
  (case h39=>walk_at "q_fn")
  (case h40=>walk_at "q_fn")
  (case h41=>walk_at "q_fn")
  (case h42=>walk_at "q_fn")
  (case h43=>walk_at "q_fn")
  (case h44=>walk_at "q_fn")
  (case h45=>walk_at "q_fn")
  (case h46=>walk_at "q_fn")
  (case h47=>walk_at "q_fn")
  (case h48=>walk_at "q_fn")
  (case h49=>walk_at "q_fn")
  (case h50=>walk_at "q_fn")
  (case h51=>walk_at "q_fn")
  (case h52=>walk_at "q_mt")
  (case h53=>walk_at "q_mt")
  (case h54=>walk_at "q_mt")
  (case h55=>walk_at "q_mt")
  (case h56=>walk_at "q_mt")
  (case h57=>walk_at "q_mt")
  (case h58=>walk_at "q_mt")
  (case h59=>walk_at "q_mt")
  (case h60=>walk_at "q_mt")
  (case h61=>walk_at "q_fn")
  (case h62=>walk_at "q_fn")
  (case h63=>walk_at "q_fn")
  (case h64=>walk_at "q_fn")
  (case h65=>walk_at "q_fn")
  (case h66=>walk_at "q_fn")
  (case h67=>walk_at "q_fn")
  (case h68=>walk_at "q_fn")
  (case h69=>walk_at "q_fn")
  (case jr=>k_is)
  (case jt=>k_is)
  (case ju=>k_is)
  (case jv=>k_is)
  (case jw=>k_is)
  (case jx=>k_is)
  (case jc=>k_is)
  (case j9=>k_is)
  (case jd=>k_is)
  (case ja=>k_is)
  (case ji=>k_is)
  (case jj=>k_is)
  (case jm=>k_is)
  (case jn=>k_is)
  (case jo=>k_is)
  (case jp=>k_is)
  (case j6=>k_is)
  (case j7=>k_is)
  (case j8=>k_is)
  (case jE=>k_is)
  (case jF=>k_is)
  (case jG=>k_is)
  (case jH=>k_is)
  (case jI=>k_is)
  (case jJ=>k_is)
  (case je=>k_is)
  (case jb=>k_is)
  (case iV=>k_is)
  (case j5=>k_is)
  (case iW=>k_is)
  (case jf=>k_is)
  (case iX=>k_is)
  (case iY=>k_is)
  (case z1=>k_is)
  (case z2=>k_is)
  (case z3=>k_is)
  (case z4=>k_is)
  (case z5=>k_is)
  (case z6=>k_is)
  (case z7=>k_is)
  (case z8=>k_is)
  (case z9=>k_is)
  (case z10=>k_is)
  (case z11=>k_is)
  (case z12=>k_is)
  (case z13=>k_is)
  (case g1=>k_is)
  (case g2=>k_is)
  (case g3=>k_is)
  (case g4=>k_is)
  (case g5=>k_is)
  (case g6=>k_is)
  (case g7=>k_is)
  (case g8=>k_is)
  (case g9=>k_is)
  (case g10=>k_is)
  (case g11=>k_is)
