import PyProof.Rows.All
import Wide.All
import OpenK.AllK
import Wide.FinOn
import Lean
import PyProof.EqAt
import PyProof.EqKinds
import PyProof.TupleCall
import PySem.Challenge.RW_bellferry_k22_worlds_refused
import PyProof.Rows.SetFrom
import PyProof.FactsAll.set_1
import PyProof.CollectWalk
import PyProof.Rows.SortStr
import PyProof.IsiH_list
import PyProof.AttrMissHeap
import PyProof.ConsumeWalk
import PyProof.StrWalks
import PyProof.IsiH_tuple
import PyProof.SliceStr2
import PyProof.ListRange
import PyProof.Rows.Range3
import PyProof.Rows.CallKwBuiltin
import PyProof.WalkInts
import PyProof.NeKinds
import PyProof.FString5
import PyProof.ExcClass2
import PyProof.ExcBaseAll.ValueError
import PyProof.StrLawsRepr
import OpenK.KNot
import PyProof.ExcArgsOwn
import PyProof.ExcAttrAll.ValueError
import PyProof.NsDelKeeps
import PyProof.Rows.CatchOwn
set_option Elab.async false
set_option tactic.hygienic false
set_option linter.all false
set_option maxRecDepth 100000
set_option maxHeartbeats 8000000
set_option genSizeOf false
set_option genSizeOfSpec false
noncomputable section
set_option bootstrap.genMatcherCode false
set_option compiler.extract_closed false
open PySem renaming World->Xd,Program->Xh,sysModules->Z3,mainGlobals->Xl,bootBuiltins->Yu,Around->Xn,Shared->X0,wpAny->X3,model->X4,backTo->Yl,starEach->Xs,wpAny_mono->Yg,wpAny_truthy_bool->ZA,wpAny_execs_nil->UH,swapsWith->UI,assignEach->ZB,letOwnedTupleGo->AE,wpAny_pure->Xa,wpAny_bind->X2,rawInt->Y9,foldedSetIterable->AF,wpAny_passesOwn->VX,Operator->Uj,binaryOp->YE,compareOp->Y4,FuncData->Xi,codeAny->Z4,codeAny_mono->Vb,wpAny_Call_Name_kw->Uk,Keyword->ZC,NameKind->Ze,wpAny_holding->Zf,wpAny_callSpecial?_slot->AG,wpAny_call_entry->Zg,wpAny_typeOf->UJ,wpAny_newObj_type->ZW,sliceBounds->Z5,attributeBase->VY,valueAt->Z6,wpAny_richCompare_same_room->UK,wpAny_loadPart'->Yh,wpAny_forIn_list->AH,plainId_quiet->ZD,codeAny_builtin->Z7,codeAny_call_builtin->VZ,wpAny_dictEntries->AI,wpAny_isInstance->Vc,SetTable->Yz,wpAny_setState_of->W0,wpAny_rule->Vd,wpAny_askSetting->W3,wpAny_pyIter_list->AJ,wpAny_setField->Ve,excClassObj->UL,wpAny_loadPart_at->ZX,wpAny_isSubtype_exc->W4
open List renaming getElem?_eq_getElem->X6,length_map->X5,getElem?_eq_some_iff->Xz,getElem?_map->Xj,mem_cons->Xm,length_append->XO,mem_cons_of_mem->XU,getElem_mem->XG,map_cons->Xp,length_take->XQ,mem_of_getElem?->Y5,mem_cons_self->XY,replicate->XH,getElem_of_mem->Y3,mem_map->Xt,size_toArray->XW,getD_cons_succ->Yi,getD_cons_zero->Yj,length_cons->Y0,mem_append->XZ,not_mem_nil->Ya,getElem?_append_left->YU,cons_append->Yc,getElem?_append_right->Zh,map_append->Yd,nil_append->Ye,length_replicate->YM,range->XI,map_nil->Y6,length_range->YF,mem_of_mem_take->Z8,getD_eq_getElem?_getD->ZY,mem_append_right->Zs,length_drop->YN,take_of_length_le->ZE,map_map->Ym,getElem?_set_ne->ZF,getElem?_set->Zi,getElem?_eq_none->ZZ,eq_nil_of_length_eq_zero->Vf,length_singleton->Ul,mem_singleton->U0,length_set->Zt,lookup_cons->ZG,eq_of_mem_replicate->Vg,nodup_cons->ZH,mem_of_mem_drop->UM,take_add_one->Um,append_nil->U4,all_eq_true->Uo,getElem_map->Up,map_take->ZI,getElem?_range->Vh,any_cons->U5,contains_cons->Vi,getElem?_take_of_lt->AK,append_assoc->Vj,ext_getElem?->Vk,length_zip->UN,filterMap_cons->W5,findSome?_cons->W6,mem_range->UO,drop_eq_nil_of_le->AL,mem_filter->Vl,find?_cons->Vm,all_cons->UP,pairwise_iff_getElem->Cj,mem_or_eq_of_mem_set->Ck,length_eq_zero_iff->Cm,foldl_cons->W7,filter_append->AM,getElem?_set_self->Cn,take_sublist->AN,nodup_append->AO,getElem?_inj->AQ,getElem?_toArray->Co,length_filter_le->Cp,getElem_inj->AR,map_congr_left->Cq,length_eraseIdx_of_lt->G0,mem_filterMap->Cr,map_id'->W8,map_replicate->Cs,getElem?_zip_eq_some->G1,mem_take_iff_getElem->G2,getElem_take->Ct,getElem?_replicate->G3,append_cancel_left->G4,filter_cons_of_pos->G5,filter_cons_of_neg->G6,map_drop->AS,of_mem_zip->Cu,drop_zero->Cv,getD->W9
open PySem.W renaming Frag->X1,nsIn->XA,mg_none_of->YO,mg_of->YG,keepIn->YV,kia_one->Zu,kia_tup->Zv,kitOne->U6,fnOf->Uq,hideAll->Wa,kitx_list->AT,kitx_dict->AU,findIn->Wb,isIn->Wc,kitAny->AV,methodObj->Cw,cellsFrom_some->G7,instObj->Cy,OpenLaw->Cz,lookIn->CA,codeIn->CB,hideAll_get->G8
open PySem.Heap renaming get?_push_of_some->XD,lt_size->Xq,get?_push_size->Y1,size_push->UQ,SameBut->Ur,get?_update_self->AW,get?_update_other->CC,FlyingW->Vn,MadeExcOf->CD,ExtBut->AX
open Bool renaming false_ne_true->Xu,and_eq_true->XM,false_eq_true->YA,not_eq_true'->Wd,or_true->Vo,not_true->We,eq_iff_iff->AY,false_and->AZ,or_self->B0,and_false->CF,not_false->CG,true_and->CH
open Nat renaming le_refl->Xf,ne_of_lt->XN,lt_of_lt_of_le->YH,le_trans->Y7,zero_le->Zj,lt_irrefl->Us,lt_succ_of_lt->Wf,lt_succ_iff_lt_or_eq->CI,le_of_lt->Vp,le_of_eq->Vq,lt_trans->Wg,min_eq_right->CJ,ne_of_gt->B1,min_eq_left->CK,sub_self->B3,le_succ->B4
open Int renaming emod_lt_of_pos->XT,emod_nonneg->XR,toNat_of_nonneg->YW,toNat_natCast->ZJ
open Array renaming length_toList->Yn,getElem?_eq_getElem->UR,toList_append->B5,getElem?_eq_none->CL,getElem?_toList->G9
open Option.some renaming inj->Yo,injEq->B6
open PySem.Value renaming ref->XE,str->Yv,type->ZK,builtin->Vr,none->US,bool->UT,int->Wh
open False renaming elim->XS
open Classical renaming not_not->YX
open PySem.NameKind renaming free->Ys,cell->Vs
open PySem.Around renaming under_plainId->Zw
open PyProof.Rows renaming slot_tuple_getitem->Vt,callWith_type1->Vu,callWith_builtin1->Ga,eqBool_str->Gb
open PySem.Heap.SameBut renaming update->U7
open PySem.Builtin.Str renaming glued->ZL,strSliceIndices->B7,tooLong->Gc
open PySem.Str renaming ofString->YQ,empty->Vv,length->B8
open PySem.Builtin.Tuple renaming tupleCompareSizes->B9,tupleExact->Ba,tupleItemsOf->Gd,tupleIsExact->Ge
open PySem renaming mem_of_lookup->Vw
open Sum renaming inr->Yf,inl->UU
open PySem.Builtin.Slice renaming slicePlaces->Bb,sliceAdjust->CM,sliceApplied->Gf
open PySem.Builtin.Dict renaming dictSlotArgs->Bc,updateFrom->Gg,samePairs->Gh
open True renaming intro->Zk
open PySem.SetTable renaming grown->UV,below->Bd
open PySem.Calls renaming spliced_cons->Wi,spliced_nil->Wj,Name_function_global->Gi,callWith_builtin->Gj
open PySem.F renaming called_set->Ut,typeOf_object_class->CN,slot_tuple_eq->Be,args_tuple_add_2->Gk,entry_tuple_add->Gm,slot_tuple_add->Gn,sub_dict_dict->Go,slot_str_join->Gp,slot_dict_eq->Gq,slot_dict_ne->Gr,slot_list_eq->CO,slot_list_ne->CP
open Option renaming none_or->Vx,map_eq_some_iff->CQ
open PySem.Builtin.List renaming listTooLong->CS,listExtendWith->Gs,listSameRef->Gu
open PySem.AutoSeq1 renaming sub_tuple_tuple->CT,sub_list_list->Gv
open Iff renaming rfl->YY
open PySem.SeqAt.EqAt renaming same->Bf,int_str->Gw,str_int->Gx,of_refs->Gy
open ForInStep renaming yield->Bg
open PySem.ScopeKind renaming function->CU
open Nat.succ renaming inj->Wk
open PySem.Obj renaming mapSeq->Vy
open PySem.Builtin.Frozenset renaming sizeOf->Gz
open Ne renaming symm->ZM
open PySem.Shared renaming TypeIs->Bh
open Prod renaming fst->UW
open PySem.SeqAt renaming EqAt->Bi
open PySem.SetTable.below renaming go->GA
open Char renaming toNat->Bj
open Sum.inr renaming inj->CV
namespace L2
open PySem PySem.Spec PyProof.Rows
theorem nl0 {j:Type _}{p:j->Prop}:∀x∈([]:List j),p x:=λ_ h=>nomatch h
theorem fMc{j:Type _}{p:j->Prop}{a:j}{l:List j}(h:p a/\∀x∈l,p x):∀x∈a::l,p x:=List.forall_mem_cons.2 h
noncomputable abbrev Key:=Sum Int Str
def Vz:Key->Value->Bool
 |.inl k,v=>Value.isInt k v
 |.inr x,v=>Value.isStrOf x v
def keyH(w:Xd):Key->Int
 |.inl k=>hashInt k
 |.inr x=>hashStr w x
theorem U8:∀{k:Key} {v:Value},Vz k v=true->(∃i t,k=UU i/\v=Wh i t)\/(∃x t,k=Yf x/\v=Yv x t)
 |.inl i,v,h=>by
  obtain⟨t,e⟩:=Value.isInt_shape (k:=i) (v:=v) h;exact .inl ⟨i,t,rfl,e⟩
 |.inr x,v,h=>by
  obtain⟨t,e⟩:=Value.isStrOf_shape (x:=x) (v:=v) h;exact .inr ⟨x,t,rfl,e⟩
theorem Qf(i:Int)(t:Tok):Vz (.inl i) (.int i t)=true:=by simp[Vz,Value.isInt]
theorem Qg(x:Str)(t:Tok):Vz (.inr x) (.str x t)=true:=by simp[Vz,Value.isStrOf]
theorem Qh(a b:Int):decide ((UU a:Key)=UU b)=(a==b):=by
 by_cases e:a=b
 .subst e;simp
 .have h:¬(UU a:Key)=UU b:=λq=>e (Sum.inl.inj q);rw[decide_eq_false h];exact(beq_eq_false_iff_ne.mpr e).symm
theorem Qi(a b:Str):decide ((Yf a:Key)=Yf b)=decide (a=b):=by
 by_cases e:a=b
 .subst e;simp
 .have h:¬(Yf a:Key)=Yf b:=λq=>e (CV q);rw[decide_eq_false h,decide_eq_false e]
theorem Qj(a:Int)(b:Str):decide ((UU a:Key)=Yf b)=false:=decide_eq_false (λq=>nomatch q)
theorem Qk(a:Str)(b:Int):decide ((Yf a:Key)=UU b)=false:=decide_eq_false (λq=>nomatch q)
def Z9(l:Xh)(w:Xd):PySem.KeyKind l w Key where
 is:=Vz
 hash:=keyH w
 inj:=λv a b g m=>by
  rcases U8 g with⟨i,t,rfl,rfl⟩|⟨x,t,rfl,rfl⟩
  .rcases U8 m with⟨j,u,rfl,e⟩|⟨y,u,rfl,e⟩
   .injection e with e1 _;rw[e1]
   .exact nomatch e
  .rcases U8 m with⟨j,u,rfl,e⟩|⟨y,u,rfl,e⟩
   .exact nomatch e
   .injection e with e1 _;rw[e1]
 byValue:=λk v h=>by
  rcases U8 h with⟨i,t,rfl,rfl⟩|⟨x,t,rfl,rfl⟩<;>rfl
 pyHash:=λz h=>by
  rcases U8 z with⟨i,t,rfl,rfl⟩|⟨x,t,rfl,rfl⟩
  .exact wpAny_pyHash_int h
  .exact wpAny_pyHash_str h
 eqBool:=λd z h=>by
  rcases U8 d with⟨i,t,rfl,rfl⟩|⟨x,t,rfl,rfl⟩
  .rcases U8 z with⟨j,u,rfl,rfl⟩|⟨y,u,rfl,rfl⟩
   .rw[Qh]at h;exact wpAny_eqBool_int h
   .rw[Qj]at h;exact Gw i t y u _ _ _ _ h
  .rcases U8 z with⟨j,u,rfl,rfl⟩|⟨y,u,rfl,rfl⟩
   .rw[Qk]at h;exact Gx x t j u _ _ _ _ h
   .rw[Qi]at h;exact wpAny_eqBool_str h
 «strs»:=λk x t v h=>by
  rcases U8 h with⟨i,u,rfl,e⟩|⟨y,u,rfl,e⟩
  .exact nomatch e
  .injection e with e1 _;subst e1;cases v<;>rfl
theorem Ql(j:Xh)(w:Xd)(i:Int)(t:Tok):(Z9 j w).is (.inl i) (.int i t)=true:=Qf i t
theorem Qm(j:Xh)(w:Xd)(x:Str)(t:Tok):(Z9 j w).is (.inr x) (.str x t)=true:=Qg x t
inductive V where
 |non|bl (b:Bool)|int (i:Int)|str (x:Str)|byt (b:Array UInt8)|flt (b:UInt64)|ref (a:Addr)|ty (n:String)
  deriving DecidableEq
noncomputable def RelV:V->Value->Prop
 |.non,u=>u=US
 |.bl b,u=>u=UT b
 |.int i,u=>∃t,u=Wh i t
 |.str x,u=>∃t,u=Yv x t
 |.byt b,u=>∃t,u=Value.bytes b t
 |.flt b,u=>∃t,u=Value.float b t
 |.ref a,u=>u=XE a
 |.ty n,u=>u=ZK n
abbrev Vals:List V->List Value->Prop:=Paired RelV
theorem Vals.length(r:Vals xs us):xs.length=us.length:=Paired.length r
theorem Vals.get:∀{xs:List V} {j:List Value} {i:Nat} {x:V},Vals xs j->xs[i]?=some x->∃u,j[i]?=some u/\RelV x u
 |_,_,_,_,.nil,e=>by simp at e
 |_,_,0,_,.cons r _,e=>by simp at e;subst e;exact⟨_,rfl,r⟩
 |_,_,i+1,x,.cons _ t,e=>by
  obtain⟨u,l,w⟩:=Vals.get (i:=i) (x:=x) t (by simpa using e)
  exact⟨u,by simpa using l,w⟩
theorem Vals.append:∀{xs ys:List V} {j l:List Value},Vals xs j->Vals ys l->Vals (xs++ys) (j++l)
 |_,_,_,_,.nil,s=>s
 |_,_,_,_,.cons r t,s=>.cons r (Vals.append t s)
theorem Vals.take:∀{xs:List V} {j:List Value} (n:Nat),Vals xs j->Vals (xs.take n) (j.take n)
 |_,_,0,_=>.nil
 |_,_,_+1,.nil=>.nil
 |_,_,n+1,.cons r t=>.cons r (Vals.take n t)
theorem Vals.drop:∀{xs:List V} {j:List Value} (n:Nat),Vals xs j->Vals (xs.drop n) (j.drop n)
 |_,_,0,r=>r
 |_,_,_+1,.nil=>.nil
 |_,_,n+1,.cons _ t=>Vals.drop n t
def RelO:Option V->Option Value->Prop
 |some v,some u=>RelV v u
 |none,none=>True
 |_,_=>False
def KV{j:Type}:List (j×V)->List (j×Value)->Prop:=Paired fun(p:j×V) (q:j×Value)=>p.1=q.1/\RelV p.2 q.2
def kV:Key->V
 |.inl i=>.int i
 |.inr x=>.str x
inductive HO where
 |lst (xs:List V)
 |tup (xs:List V)
 |dK (kvs:List (Key×V))|dT (kvs:List (List Key×V))
 |set (S:Int->Bool)(n:Nat)
 |ins (C dx:Addr)(fs:List (Str×V))
 |own (x:Addr)
 |xd (fs:List (Str×V))
 |met (f x:Addr)
 |rng (lo hi:Int)
 |frz (o:Obj)(u:HO)
 |tbl (ps:Array Value)
 |ext (φ:Heap->Prop)
noncomputable abbrev Hp:=Addr->Option HO
noncomputable def upd(H:Hp)(a:Addr)(o:HO):Hp:=λb=>if b=a then some o else H b
theorem Uu{H:Hp}{a:Addr}{o:HO}:upd H a o a=some o:=by unfold upd;rw[if_pos rfl]
theorem XX{H:Hp}{a b:Addr}{o:HO}(h:b≠a):upd H a o b=H b:=by unfold upd;rw[if_neg h]
theorem Qn{H:Hp}{a b:Addr}{o u:HO}(h:H a=some o)(j:H b=some u)(d:o≠u):a≠b:=by
 intro e;subst e;rw[h]at j;exact d (Yo j)
theorem UX{H:Hp}{a b:Addr}{o:HO}(h:H a=some o)(j:H b=none):a≠b:=by
 intro e;subst e;rw[h]at j;cases j
section
variable(P:Xh)(w:Xd)
def ObjOk(H:Hp)(h:Heap)(a:Addr):HO->Prop
 |.lst l=>l.length<=sizeLine/\∃(j:List Value) (n:Nat),Vals l j/\h.get? a=some {cls:=.type "list",data:=.seq j.toArray n}
 |.tup l=>l.length<=sizeLine/\∃j:List Value,Vals l j/\IsTup h a j.toArray/\∃o,h.get? a=some o/\o.dict=none
 |.dK kvs=>kvs.length<=sizeLine/\(a==Z3)=false/\∃z,KV kvs z/\h.DictOf (Z9 P w) a z
 |.dT kvs=>kvs.length<=sizeLine/\(a==Z3)=false/\∃l:List (List Key×Addr×Value),
   Paired (fun(p:List Key×V) (q:List Key×Addr×Value)=>p.1=q.1/\H q.2.1=some (.tup (p.1.map kV))/\RelV p.2 q.2.2) kvs l/\
   ∃o m c,h.get? a=some o/\o.ExactDict/\o.data=.dict m c/\m.toList=l.map (entryOfKey (tupleKind (Z9 P w)))/\(l.map (·.1)).Nodup
 |.set S n=>h.SetOf (intKind P w) a S n
 |.ins C dx fs=>H dx=some (.own a)/\fs.length<=1000/\dx≠a/\h.get? a=some (Cy C dx)/\
   ∃y,h.Ns1 dx y/\(∀f,RelO (fs.lookup f) (y f))/\PySem.Within y (fs.map (·.1))
 |.own _=>∃o,h.get? a=some o
 |.xd fs=>∃y,h.Ns1 a y/\∀f,RelO (fs.lookup f) (y f)
 |.rng lo hi=>∃t u v,h.get? a=some {cls:=.type "range",data:=.fields #[.int lo t,.int hi u,.int 1 v]}
 |.frz o u=>h.get? a=some o/\ObjOk H h a u
 |.tbl ps=>h.get? a=some {cls:=.none,data:=.fields ps}
 |.met f x=>h.get? a=some (Cw (.ref f) (.ref x))
 |.ext φ=>φ h/\(∃o,h.get? a=some o)/\∀g d:Heap,φ g->(∀o,g.get? a=some o->d.get? a=some o)->φ d
def HOk(H:Hp)(h:Heap):Prop:=∀a o,H a=some o->ObjOk P w H h a o
end
section
variable{P:Xh}{w:Xd}{H H':Hp}{h h':Heap}{a:Addr}{o:HO}
theorem ObjOk.lt(x:ObjOk P w H h a o):a<h.objs.size:=by
 cases o with
 |lst l=>obtain⟨_,_,_,_,e⟩:=x;exact Xq e
 |tup l=>obtain⟨_,_,_,p⟩:=x;exact p.1.lt
 |dK j=>obtain⟨_,_,_,_,o,_,_,e,_⟩:=x;exact Xq e
 |dT j=>obtain⟨_,_,_,_,o,_,_,e,_⟩:=x;exact Xq e
 |set S n=>obtain⟨o,_,_,_,e,_⟩:=x;exact Xq e
 |ins C z fs=>obtain⟨_,_,_,e,_⟩:=x;exact Xq e
 |own y=>obtain⟨_,e⟩:=x;exact Xq e
 |xd fs=>obtain⟨_,⟨_,_,_,e,_⟩,_⟩:=x;exact Xq e
 |rng lo m=>obtain⟨_,_,_,e⟩:=x;exact Xq e
 |frz g u=>obtain⟨e,_⟩:=x;exact Xq e
 |tbl d=>exact Xq (show h.get? a=some _ from x)
 |met f y=>exact Xq (show h.get? a=some _ from x)
 |ext c=>obtain⟨_,⟨_,e⟩,_⟩:=x;exact Xq e
theorem Paired.mapP{u y:Type}{F G:u->y->Prop}:∀{j:List u} {l:List y},Paired F j l->(∀a b,F a b->G a b)->Paired G j l
 |_,_,.nil,_=>.nil
 |_,_,.cons r t,f=>.cons (f _ _ r) (Paired.mapP t f)
theorem ObjOk.stay(x:ObjOk P w H h a o)(k:∀b u,(b=a\/H b=some (.own a))->h.get? b=some u->h'.get? b=some u)
  (W:∀b,H b=some (.own a)->H' b=some (.own a))(Y:∀b L,H b=some (.tup L)->H' b=some (.tup L)):ObjOk P w H' h' a o:=by
 induction o with
 |lst L=>obtain⟨z,g,n,r,e⟩:=x;exact⟨z,g,n,r,k _ _ (.inl rfl) e⟩
 |tup L=>obtain⟨z,g,r,⟨j,e,c⟩,Z,N,A⟩:=x;exact⟨z,g,r,⟨j,k _ _ (.inl rfl) e,c⟩,Z,k _ _ (.inl rfl) N,A⟩
 |dK O=>obtain⟨z,y,B,r,j,l,m,e,c⟩:=x;exact⟨z,y,B,r,j,l,m,k _ _ (.inl rfl) e,c⟩
 |dT O=>
  obtain⟨z,y,L,r,j,l,m,e,c⟩:=x;exact⟨z,y,L,Paired.mapP r λp q z=>⟨z.1,Y _ _ z.2.1,z.2.2⟩,j,l,m,k _ _ (.inl rfl) e,c⟩
 |set S n=>obtain⟨j,l,m,t,e,c⟩:=x;exact⟨j,l,m,t,k _ _ (.inl rfl) e,c⟩
 |ins C E fs=>
  obtain⟨d,z,ne,e,R,⟨T,l,m,N,c⟩,r⟩:=x;exact⟨W _ d,z,ne,k _ _ (.inl rfl) e,R,⟨T,l,m,k _ _ (.inr d) N,c⟩,r⟩
 |own y=>obtain⟨j,e⟩:=x;exact⟨j,k _ _ (.inl rfl) e⟩
 |xd fs=>obtain⟨R,⟨T,l,m,e,c⟩,r⟩:=x;exact⟨R,⟨T,l,m,k _ _ (.inl rfl) e,c⟩,r⟩
 |rng lo F=>obtain⟨t,u,v,e⟩:=x;exact⟨t,u,v,k _ _ (.inl rfl) e⟩
 |frz j u D=>obtain⟨e,q⟩:=x;exact⟨k _ _ (.inl rfl) e,D q⟩
 |tbl U=>
  have e:h.get? a=some {cls:=.none,data:=.fields U}:=x;show h'.get? a=some {cls:=.none,data:=.fields U};exact k a _ (.inl rfl) e
 |met f y=>
  have e:h.get? a=some (Cw (.ref f) (.ref y)):=x;show h'.get? a=some (Cw (.ref f) (.ref y));exact k a _ (.inl rfl) e
 |ext G=>obtain⟨p,⟨o,e⟩,st⟩:=x;exact⟨st _ _ p λo q=>k _ _ (.inl rfl) q,⟨o,k _ _ (.inl rfl) e⟩,st⟩
theorem HOk.lt(x:HOk P w H h)(e:H a=some o):a<h.objs.size:=(x a o e).lt
theorem HOk.fresh(x:HOk P w H h)(e:h.objs.size<=a):H a=none:=by
 cases q:H a with
 |none=>rfl
 |some u=>exact absurd (YH (x.lt q) e) (Us _)
theorem HOk.kept(x:HOk P w H h)(k:∀b u,h.get? b=some u->h'.get? b=some u):HOk P w H h':=λa o e=>
 (x a o e).stay (λb u _ q=>k b u q) (λ_ q=>q) λ_ _ q=>q
theorem HOk.laid(x:HOk P w H h)(k:∀b u,h.get? b=some u->h'.get? b=some u)(l:h.objs.size<=a)(new:ObjOk P w (upd H a o) h' a o):HOk P w (upd H a o) h':=λb u e=>by
 have j:=x.fresh l;by_cases hb:b=a
 .subst hb;rw[Uu]at e;cases e;exact new
 .rw[XX hb]at e;exact(x b u e).stay (λc v _ q=>k c v q) (λc q=>by rw[XX (UX q j)];exact q) λc y q=>by rw[XX (UX q j)];exact q
end
noncomputable def Rd(H:Hp)(a:Addr)(u:HO):Prop:=H a=some u\/∃o,H a=some (.frz o u)
theorem Rd.ok(r:Rd H a u)(x:HOk P w H h):ObjOk P w H h a u:=by
 rcases r with r|⟨o,r⟩
 .exact x a u r
 .obtain⟨_,q⟩:=x a _ r;exact q
noncomputable def Mut:Option HO->Prop
 |some (.lst _)=>True
 |some (.dK _)=>True
 |some (.dT _)=>True
 |some (.set _ _)=>True
 |some (.ins _ _ _)=>True
 |some (.ext _)=>True
 |_=>False
section
variable{P:Xh}{w:Xd}{H:Hp}{h h':Heap}{x e:Addr}{o':HO}
theorem HOk.write(ok:HOk P w H h)(m:Mut (H x))(p:e=x\/H e=some (.own x))(k:∀b u,b≠e->h.get? b=some u->h'.get? b=some u)(f:∃u,h'.get? e=some u)
  (new:ObjOk P w (upd H x o') h' x o'):HOk P w (upd H x o') h':=λb u q=>by
 have j:∀c y,H c=some (.own y)->c≠x:=λc y r z=>by subst z;rw[r]at m;exact m
 have l:∀c g,H c=some (.tup g)->c≠x:=λc g r z=>by subst z;rw[r]at m;exact m
 by_cases hb:b=x
 .subst hb;rw[Uu]at q;cases q;exact new
 .rw[XX hb]at q;by_cases hbe:b=e
  .have L:H b=some (.own x):=by
    rcases p with z|z
    .exact absurd (hbe.trans z) hb
    .rw[hbe];exact z
   rw[q]at L;cases L;obtain⟨v,N⟩:=f;exact⟨v,by rw[hbe];exact N⟩
  .refine(ok b u q).stay (λc v d r=>k c v ?_ r) (λc r=>by rw[XX (j c b r)];exact r) λc g r=>by rw[XX (l c g r)];exact r
   rcases d with rfl|d
   .exact hbe
   .rintro rfl;rcases p with z|z
    .exact j c b d z
    .rw[d]at z;cases z;exact hb rfl
end
structure Un (fs ex:List Addr)(H H':Hp)(h h':Heap):Prop where
 keep:∀b o,h.get? b=some o->H b=none->b∉fs->b∉ex->h'.get? b=some o
 slot:∀b o,h.get? b=some o->H b=none->b∈fs->b∉ex->∃sl,h'.get? b=some {o with slots:=sl}
 free:∀b o,h.get? b=some o->H b=none->b∉ex->H' b=none
 there:∀b o,h.get? b=some o->b∉ex->∃o',h'.get? b=some o'
 tups:∀b xs,H b=some (.tup xs)->H' b=some (.tup xs)
 frzs:∀b o u,H b=some (.frz o u)->H' b=some (.frz o u)
 tbls:∀b ps,H b=some (.tbl ps)->∃more,H' b=some (.tbl (ps++more))
section
variable{fs fs' ex ex':List Addr}{H H1 H2:Hp}{h h1 h2 h':Heap}{a x e:Addr}{o:HO}
theorem Un.any(u:Un fs ex H H1 h h1)(q:h.get? b=some ob)(n:H b=none)(j:b∉ex):∃l,h1.get? b=some {ob with slots:=l}:=by
 by_cases hb:b∈fs
 .exact u.slot b ob q n hb j
 .exact⟨ob.slots,u.keep b ob q n hb j⟩
theorem Un.kept(k:∀b u,h.get? b=some u->h'.get? b=some u):Un fs ex H H h h':=
 ⟨λb j q _ _ _=>k b j q,λb j q _ _ _=>⟨j.slots,k b j q⟩,λ_ _ _ n _=>n,λb j q _=>⟨j,k b j q⟩,λ_ _ q=>q,λ_ _ _ q=>q,λ_ l q=>⟨#[],by rw[q];simp⟩⟩
theorem Un.refl:Un fs ex H H h h:=Un.kept λ_ _ q=>q
theorem Un.laid(k:∀b u,h.get? b=some u->h'.get? b=some u)(l:h.objs.size<=a)(j:H a=none):Un fs ex H (upd H a o) h h' where
 keep:=λb u q _ _ _=>k b u q
 slot:=λb u q _ _ _=>⟨u.slots,k b u q⟩
 free:=λb u q n _=>by rw[XX (XN (YH (Xq q) l))];exact n
 there:=λb u q _=>⟨u,k b u q⟩
 tups:=λb w q=>by rw[XX (UX q j)];exact q
 frzs:=λb u w q=>by rw[XX (UX q j)];exact q
 tbls:=λb y q=>⟨#[],by rw[XX (UX q j),q];simp⟩
theorem Un.write(j:Mut (H x))(g:e=x\/H e=some (.own x))(k:∀b u,b≠e->h.get? b=some u->h'.get? b=some u)(l:∃u,h'.get? e=some u):Un fs ex H (upd H x o) h h':=by
 have y:∀b,H b=none->b≠x:=λb n z=>by subst z;rw[n]at j;exact j
 have m:∀b,H b=none->b≠e:=λb n z=>by
  subst z;rcases g with r|r
  .exact y b n r
  .rw[n]at r;cases r
 have w:∀b u,H b=some u->¬Mut (some u)->b≠x:=λb u q d z=>by subst z;rw[q]at j;exact d j
 refine⟨λb u q n _ _=>k b u (m b n) q,λb u q n _ _=>⟨u.slots,k b u (m b n) q⟩,λb u q n _=>by rw[XX (y b n)];exact n,λb u q _=>?_,
  λb c q=>by rw[XX (w b _ q λz=>z)];exact q,λb u c q=>by rw[XX (w b _ q λz=>z)];exact q,λb f q=>⟨#[],by rw[XX (w b _ q λz=>z),q];simp⟩⟩
 by_cases hbe:b=e
 .subst hbe;exact l
 .exact⟨u,k b u hbe q⟩
end
noncomputable def trk(h:Heap)(H:Hp):List Addr:=(XI h.objs.size).filter λa=>(H a).isSome
def hidT(h:Heap)(H:Hp):Heap:=Wa h (trk h H)
theorem Qo(h:Heap)(H:Hp):(hidT h H).objs.size=h.objs.size:=PySem.W.hideAll_size _ _
theorem Qp(e:h.get? b=some o)(n:H b=none):(hidT h H).get? b=some o:=
 G8 _ e λj=>by
  have q:(H b).isSome=true:=(Vl.mp j).2;rw[n]at q;simp at q
theorem Qq(e:(hidT h H).get? b=some o):h.get? b=some o/\H b=none:=by
 have j:h.get? b=some o:=PySem.W.of_hideAll (trk h H) e;refine⟨j,?_⟩;cases q:H b with
 |none=>rfl
 |some x=>
  have l:b∈trk h H:=Vl.mpr ⟨UO.mpr (Xq j),by simp[q]⟩
  have z:(hidT h H).get? b=none:=PySem.W.hideAll_none (trk h H) l;rw[z]at e;cases e
noncomputable def Qr(g h:Heap)(L:Addr):List (Addr×Obj):=(XI h.objs.size).filterMap λa=>if a=L\/(g.get? a).isSome=true then none else(h.get? a).map λo=>(a,o)
def rest(g h:Heap)(L d:Addr):List (Addr×Obj):=(Qr g h L).filter λp=>decide (p.1≠d)
structure Mod (K:X1)(mg:Str->Option Value)(base:Heap):Prop where
 kin:K.In base
 glob:base.Ns Xl mg
 blt:∃mb,base.Ns builtinsNs mb/\∀x:Str,x≠"__name__"->mb x=Yu x
 nolimit:base.NoLimit
structure Cx where
 prog:Xh
 w:Xd
 K:X1
 mg:Str->Option Value
 base:Heap
 A:Xn
 N:List Str
 s₀:X0
 H₀:Hp
 env:Env
 outer:List Env
 stack:List Env
 ex:List Addr
 fn:Str->Bool
 calm:Bool
 pn:List (Addr×Obj)
 xe:Value->X0->Prop
noncomputable def frs(l:List Env):List Addr:=l.filterMap (·.frame)
abbrev Cx.fs(X:Cx):List Addr:=frs X.outer
noncomputable def Vis(j:Scope)(x:Str):Prop:=j.names.lookup x=some .local\/j.names.lookup x=some .cell\/j.names.lookup x=some .free
noncomputable def Loc(j:Scope)(x:Str):Prop:=j.names.lookup x=some .local\/j.names.lookup x=some .cell
noncomputable def Look(j:Env)(h:Heap)(m:Str->Option Value)(x:Str)(u:Value):Prop:=
 (j.kindOf x=some .local/\m x=some u)\/((j.kindOf x=some .cell\/j.kindOf x=some .free)/\∃c,j.cells.lookup x=some c/\h.IsCell c (some u))
structure Cx.Ok (X:Cx):Prop where
 mod:Mod X.K X.mg X.base
 kind:X.env.scope.kind=.function
 glob:X.env.globals=Xl
 blt:X.env.builtins=builtinsNs
 above:X.s₀.heap.objs.size<=X.env.locals
 inj:∀x y c,X.env.cells.lookup x=some c->X.env.cells.lookup y=some c->x=y
 has:∀x,(X.env.kindOf x=some .cell\/X.env.kindOf x=some .free)->∃c,X.env.cells.lookup x=some c
 cab:∀x c,X.fn x=true->X.env.cells.lookup x=some c->X.s₀.heap.objs.size<=c
 hd:X.calm=true->X.A.handled=none
 frames:X.A.frames=some X.stack
 stk:X.stack=X.outer\/(X.stack=X.env::X.outer/\X.env.frame=some X.env.locals)
 exf:∀b∈X.ex,b≠X.env.locals/\∀x c,X.env.cells.lookup x=some c->c≠b
 bs:∀b o,X.base.get? b=some o->X.s₀.heap.get? b=some o/\X.H₀ b=none
 bsz:X.base.objs.size<=X.s₀.heap.objs.size
 noex:∀b o,X.base.get? b=some o->b∉X.ex
 exfs:∀b∈X.ex,b∉X.fs
 funs:X.s₀.heap.FunFrames X.base X.outer
 frf:∀b∈X.fs,X.H₀ b=none
structure Inv (X:Cx)(pz:List (Addr×Obj))(σ:List (Option V))(H:Hp)(s:X0):Prop where
 ok:X.Ok
 os:s.os=X.s₀.os
 bare:AllBare s.gens
 base:Un X.fs X.ex X.H₀ H X.s₀.heap s.heap
 loc:∃m,s.heap.Ns X.env.locals m/\∀(i:Nat)(x:Str)(v:V),X.N[i]?=some x->σ[i]?=some (some v)->Vis X.env.scope x->∃u,RelV v u/\Look X.env s.heap m x u
 cell:∀x c,X.env.cells.lookup x=some c->∃v,s.heap.IsCell c v
 free:H X.env.locals=none
 freeC:∀x c,X.env.cells.lookup x=some c->H c=none
 pin:∀p∈X.pn++pz,s.heap.get? p.1=some p.2/\H p.1=none/\p.1≠X.env.locals/\p.1∉X.fs/\∀v,p.2.data≠.cell v
 hok:HOk X.prog X.w H s.heap
 len:σ.length=X.N.length
section
variable{X:Cx}{pz:List (Addr×Obj)}{σ:List (Option V)}{H H':Hp}{s:X0}{h':Heap}
theorem Cx.Ok.nofr(ok:X.Ok)(e:X.base.get? b=some o):b∉X.fs:=λj=>by
 have:=(ok.funs.mem j).1;rw[e]at this;cases this
theorem Inv.bs(I:Inv X pz σ H s):∀b o,X.base.get? b=some o->s.heap.get? b=some o/\H b=none:=λb o e=>
 ⟨I.base.keep b o (I.ok.bs b o e).1 (I.ok.bs b o e).2 (I.ok.nofr e) (I.ok.noex b o e),I.base.free b o (I.ok.bs b o e).1 (I.ok.bs b o e).2 (I.ok.noex b o e)⟩
theorem Inv.bk(I:Inv X pz σ H s):∀b o,X.base.get? b=some o->s.heap.get? b=some o:=λb o e=>(I.bs b o e).1
theorem Inv.mod(I:Inv X pz σ H s):Mod X.K X.mg X.base:=I.ok.mod
theorem Inv.kIn(I:Inv X pz σ H s):X.K.In s.heap:=I.ok.mod.kin.keeps I.bk
theorem Inv.lt(I:Inv X pz σ H s):X.env.locals<s.heap.objs.size:=let⟨_,hn,_⟩:=I.loc;hn.lt
theorem Inv.sz(I:Inv X pz σ H s):X.s₀.heap.objs.size<=s.heap.objs.size:=Y7 I.ok.above (Vp I.lt)
theorem Inv.nofs(I:Inv X pz σ H s)(h:s.heap.objs.size<=a):a∉X.fs:=λj=>by
 obtain⟨_,o,l,_⟩:=I.ok.funs.mem j;exact absurd (YH (Xq l) (Y7 I.sz h)) (Us _)
theorem Inv.cne(I:Inv X pz σ H s):∀x c,X.env.cells.lookup x=some c->c≠X.env.locals:=λx c e z=>by
 obtain⟨v,o,u,w⟩:=I.cell x c e;obtain⟨m,⟨y,g,d,j,l,_⟩,_⟩:=I.loc;rw[z,j]at u;cases u;rw[l]at w;cases w
theorem Inv.funs(I:Inv X pz σ H s):s.heap.FunFrames X.base X.outer:=by
 have all:∀(l:List Env),(∀b∈frs l,b∈X.fs)->X.s₀.heap.FunFrames X.base l->s.heap.FunFrames X.base l:=by
  intro l
  induction l with
  |nil=>intro _ _;trivial
  |cons m r g=>
   intro y d;obtain⟨c,⟨L,o,j,f,q,p⟩,N⟩:=d;have u:L∈X.fs:=y L (by unfold frs;rw[W5,j];exact XY)
   obtain⟨O,e⟩:=I.base.slot L o q (I.ok.frf L u) u λz=>I.ok.exfs L z u;exact⟨c,⟨L,_,j,f,e,p⟩,g (λb w=>y b (by unfold frs;rw[W5,j];exact XU _ w)) N⟩
 exact all X.outer (λ_ w=>w) I.ok.funs
theorem Inv.stack(I:Inv X pz σ H s):s.heap.FunFrames X.base X.stack:=by
 rcases I.ok.stk with e|⟨e,j⟩
 .rw[e];exact I.funs
 .rw[e];obtain⟨m,l,_⟩:=I.loc;refine .cons (by rw[I.ok.kind];decide) j l ?_ I.funs
  exact Heap.get?_none_of_le (Y7 I.ok.bsz I.ok.above)
theorem Inv.stkSub(I:Inv X pz σ H s):∀b∈frs X.stack,b∈X.env.locals::X.fs:=λb j=>by
 rcases I.ok.stk with e|⟨e,l⟩
 .rw[e]at j;exact XU _ j
 .rw[e]at j;unfold frs at j;rw[W5,l]at j;exact j
theorem Inv.stkFree(I:Inv X pz σ H s):∀b∈frs X.stack,H b=none:=λb j=>by
 rcases Xm.mp (I.stkSub b j)with e|j
 .rw[e];exact I.free
 .obtain⟨_,o,l,_⟩:=I.ok.funs.mem j;exact I.base.free b o l (I.ok.frf b j) λz=>I.ok.exfs b z j
theorem Inv.step{M:Array GenState}{h:Nat}{a:Drawn}{N:List Addr}(I:Inv X pz σ H s)
  (w:∀b∈N,(b∈X.ex\/X.s₀.heap.objs.size<=b)/\b≠X.env.locals/\(∀x c,X.env.cells.lookup x=some c->c≠b)/\∀p∈X.pn++pz,p.1≠b)
  (keep:∀b o,b≠X.env.locals->b∉X.fs->b∉N->s.heap.get? b=some o->H b=none->h'.get? b=some o)
  (O:∀b o,b≠X.env.locals->b∈X.fs->b∉N->s.heap.get? b=some o->H b=none->∃E,h'.get? b=some {o with slots:=E})(free:∀b o,b∉N->s.heap.get? b=some o->H b=none->H' b=none)
  (there:∀b o,b∉N->s.heap.get? b=some o->∃U,h'.get? b=some U)
  (W:∀b P,H b=some (.tup P)->H' b=some (.tup P))(Y:∀b o u,H b=some (.frz o u)->H' b=some (.frz o u))(Z:∀b D,H b=some (.tbl D)->∃A,H' b=some (.tbl (D++A)))
  (ns:∀m,s.heap.Ns X.env.locals m->h'.Ns X.env.locals m)(F:HOk X.prog X.w H' h')(hg:AllBare M):
  Inv X pz σ H' {s with heap:=h',gens:=M,drawn:=a,toks:=h}:=by
 have B:∀b o,X.s₀.heap.get? b=some o->b≠X.env.locals:=λb o e=>XN (YH (Xq e) I.ok.above);have f:∀b o,X.s₀.heap.get? b=some o->b∉X.ex->b∉N:=λb o e j R=>by
  rcases(w b R).1 with z|z
  .exact j z
  .exact absurd (YH (Xq e) z) (Us _)
 have y:∀x c,X.env.cells.lookup x=some c->∀v,s.heap.IsCell c v->h'.IsCell c v:=λx c e v ⟨o,T,G⟩=>by
  have g:c∉N:=λz=>(w c z).2.2.1 x c e rfl;by_cases hc:c∈X.fs
  .obtain⟨E,q⟩:=O c o (I.cne x c e) hc g T (I.freeC x c e);exact⟨_,q,G⟩
  .exact⟨o,keep c o (I.cne x c e) hc g T (I.freeC x c e),G⟩
 refine⟨I.ok,I.os,hg,⟨λb o e n R j=>?_,λb o e n R j=>?_,λb o e n j=>?_,λb o e j=>?_,λb P e=>W b P (I.base.tups b P e),λb o P e=>Y b o P (I.base.frzs b o P e),λb D e=>?_⟩,?_,λx c e=>?_,?_,λx c e=>?_,λp Q=>?_,F,I.len⟩
 .exact keep b o (B b o e) R (f b o e j) (I.base.keep b o e n R j) (I.base.free b o e n j)
 .obtain⟨E,L⟩:=I.base.slot b o e n R j;obtain⟨J,C⟩:=O b _ (B b o e) R (f b o e j) L (I.base.free b o e n j);exact⟨J,C⟩
 .obtain⟨U,L⟩:=I.base.there b o e j;exact free b U (f b o e j) L (I.base.free b o e n j)
 .obtain⟨U,L⟩:=I.base.there b o e j;exact there b U (f b o e j) L
 .obtain⟨m1,L⟩:=I.base.tbls b D e;obtain⟨m2,C⟩:=Z b _ L;exact⟨m1++m2,by rw[C,Array.append_assoc]⟩
 .obtain⟨m,hn,hl⟩:=I.loc;refine⟨m,ns m hn,λi x v L C e3=>?_⟩;obtain⟨u,r,l⟩:=hl i x v L C e3;refine⟨u,r,?_⟩;rcases l with l|⟨k,c,e,z⟩
  .exact .inl l
  .exact .inr ⟨k,c,e,y x c e _ z⟩
 .obtain⟨v,z⟩:=I.cell x c e;exact⟨v,y x c e v z⟩
 .obtain⟨m,⟨o,_,_,T,_⟩,_⟩:=I.loc;exact free _ o (λz=>(w _ z).2.1 rfl) T I.free
 .obtain⟨v,o,T,G⟩:=I.cell x c e;exact free c o (λz=>(w c z).2.2.1 x c e rfl) T (I.freeC x c e)
 .obtain⟨e,n,ne,S,d⟩:=I.pin p Q;have g:p.1∉N:=λz=>(w p.1 z).2.2.2 p Q rfl;exact⟨keep p.1 p.2 ne S g e n,free p.1 p.2 g e n,ne,S,d⟩
theorem Inv.un{c:Nat}(I:Inv X pz σ H s)(u:Un X.fs [] H H' s.heap h')(l:HOk X.prog X.w H' h'):Inv X pz σ H' {s with heap:=h',toks:=c}:=by
 obtain⟨m,⟨o,L,N,d,r⟩,_⟩:=id I.loc;obtain⟨O,f⟩:=u.any d I.free (by simp)
 exact I.step (M:=s.gens) (a:=s.drawn) (N:=[]) (λ_ z=>nomatch z) (λb o _ w _ e n=>u.keep b o e n w (by simp)) (λb o _ w _ e n=>u.slot b o e n w (by simp)) (λb o _ e n=>u.free b o e n (by simp)) (λb o _ e=>u.there b o e (by simp)) u.tups u.frzs u.tbls (λP q=>by
  obtain⟨R,y,g,j,p⟩:=q;rw[d]at j;cases j;exact⟨_,y,g,f,p⟩) l I.bare
theorem Inv.call{L:Array GenState}{O:Nat}{P:Drawn}{y:List Addr}(I:Inv X pz σ H s)(u:Un (frs X.stack) y H H' s.heap h')(g:HOk X.prog X.w H' h')(R:AllBare L)
  (l:∀b∈y,(b∈X.ex\/X.s₀.heap.objs.size<=b)/\b≠X.env.locals/\(∀x c,X.env.cells.lookup x=some c->c≠b)/\∀p∈X.pn++pz,p.1≠b):
  Inv X pz σ H' {s with heap:=h',gens:=L,drawn:=P,toks:=O}:=by
 obtain⟨m,⟨o,Y,Z,N,r⟩,_⟩:=id I.loc;obtain⟨A,d⟩:=u.any N I.free λz=>(l _ z).2.1 rfl;exact I.step (N:=y) l (λb o d T j e n=>u.keep b o e n (λz=>(Xm.mp (I.stkSub b z)).elim d T) j) (λb o _ _ j e n=>u.any e n j) (λb o j e n=>u.free b o e n j) (λb o j e=>u.there b o e j) u.tups u.frzs u.tbls (λB U=>by
  obtain⟨C,f,q,w,W⟩:=U;rw[N]at w;cases w;exact⟨_,f,q,d,W⟩) g R
theorem Inv.turned{g:Nat}{j:Addr}(I:Inv X pz σ H s)(k:∀b o,b≠j->s.heap.get? b=some o->h'.get? b=some o)(d:H j=none)(y:j≠X.env.locals)
  (h1:j∈X.ex\/X.s₀.heap.objs.size<=j)(h2:∀x c,X.env.cells.lookup x=some c->c≠j)(h3:∀p∈X.pn++pz,p.1≠j):Inv X pz σ H {s with heap:=h',toks:=g}:=by
 have w:∀b u,H b=some u->b≠j:=λb u e z=>by rw[z,d]at e;cases e
 refine I.step (M:=s.gens) (a:=s.drawn) (N:=[j]) (λb f=>?_) (λb o _ _ l e _=>k b o (λz=>l (by simp[z])) e) (λb o _ _ l e _=>⟨o.slots,k b o (λz=>l (by simp[z])) e⟩) (λ_ _ _ _ n=>n)
  (λb o l e=>⟨o,k b o (λz=>l (by simp[z])) e⟩) (λ_ _ e=>e) (λ_ _ _ e=>e) (λb R e=>⟨#[],by rw[e];simp⟩) (λm L=>?_) (λb u e=>?_) I.bare
 .have e:b=j:=by simpa using f
  subst e;exact⟨h1,y,h2,h3⟩
 .obtain⟨o,N,O,P,r⟩:=L;exact⟨o,N,O,k _ o (ZM y) P,r⟩
 .refine(I.hok b u e).stay (λc v l q=>k c v ?_ q) (λ_ q=>q) λ_ _ q=>q;rcases l with z|z
  .rw[z];exact w b u e
  .exact w c _ z
theorem Inv.tok(I:Inv X pz σ H s)(t:Nat):Inv X pz σ H {s with toks:=t}:=I.un (h':=s.heap) (c:=t) Un.refl I.hok
theorem Inv.kept(I:Inv X pz σ H s)(k:∀b u,s.heap.get? b=some u->h'.get? b=some u):Inv X pz σ H {s with heap:=h',toks:=t'}:=I.un (Un.kept k) (I.hok.kept k)
theorem Inv.laid(I:Inv X pz σ H s)(k:∀b u,s.heap.get? b=some u->h'.get? b=some u)(j:s.heap.objs.size<=a)(new:ObjOk X.prog X.w (upd H a o) h' a o):
  Inv X pz σ (upd H a o) {s with heap:=h',toks:=t'}:=I.un (Un.laid k j (I.hok.fresh j)) (I.hok.laid k j new)
theorem Inv.write(I:Inv X pz σ H s)(l:Mut (H x))(w:e=x\/H e=some (.own x))(k:∀b u,b≠e->s.heap.get? b=some u->h'.get? b=some u)(j:∃u,h'.get? e=some u)
  (new:ObjOk X.prog X.w (upd H x o) h' x o):Inv X pz σ (upd H x o) {s with heap:=h',toks:=t'}:=I.un (Un.write l w k j) (I.hok.write l w k j new)
theorem Inv.weak(I:Inv X pz σ H s)(j:σ'.length=σ.length)(w:∀(i:Nat)v,σ'[i]?=some (some v)->σ[i]?=some (some v)):Inv X pz σ' H s:=
 ⟨I.ok,I.os,I.bare,I.base,let⟨m,hn,hl'⟩:=I.loc;⟨m,hn,λi x v l u y=>hl' i x v l (w i v u) y⟩,I.cell,I.free,I.freeC,I.pin,I.hok,j.trans I.len⟩
theorem Inv.pins_of(I:Inv X pz σ H s)(h:∀p∈pins',s.heap.get? p.1=some p.2/\H p.1=none/\p.1≠X.env.locals/\p.1∉X.fs/\∀v,p.2.data≠.cell v):Inv X pins' σ H s:=
 ⟨I.ok,I.os,I.bare,I.base,I.loc,I.cell,I.free,I.freeC,λp j=>(XZ.mp j).elim (λz=>I.pin p (List.mem_append_left _ z)) (h p),I.hok,I.len⟩
theorem CW{N:List Str}(l:N.Nodup){i j:Nat}{x:Str}(a:N[i]?=some x)(b:N[j]?=some x):i=j:=by
 obtain⟨y,u⟩:=Xz.mp a;obtain⟨z,w⟩:=Xz.mp b;exact(AR l).mp (u.trans w.symm)
theorem GC{M:Model}{A:Xn}{E:Value->X0->Prop}{i:Nat}{x:Str}{v:V}{u:Value}{Q:Unit->X0->Prop}(I:Inv X pz σ H s)(hN:X.N.Nodup)(U:X.N[i]?=some x)(L:Loc X.env.scope x)(r:RelV v u)
  (h:∀F,Inv X pz (σ.set i (some v)) H F->(∃a,Ur a s.heap F.heap/\(a=X.env.locals\/X.env.cells.lookup x=some a))->Q () F)(hf:X.fn x=true\/X.env.scope.names.lookup x=some .local:=by first|exact .inl rfl|exact .inr rfl|assumption):X3 M A (storeName X.env x u) Q E s:=by
 obtain⟨m,G,hl⟩:=id I.loc;have W:(X.env.scope.kind==.class||(X.env.scope.kind==.module&&X.env.locals != X.env.globals))=false:=by rw[I.ok.kind];rfl
 have O:i<σ.length:=by rw[I.len];exact(Xz.mp U).1
 have cne:=I.cne;have w:∀{a:Addr} {h':Heap},(∃o,s.heap.get? a=some o/\H a=none)->Ur a s.heap h'->HOk X.prog X.w H h':=fun{a h'} ha l b ob e=>by
  obtain⟨_,_,dJ⟩:=ha;refine(I.hok b ob e).stay (λc C f q=>(l.2 c ?_).trans q) (λ_ q=>q) λ_ _ q=>q;rintro rfl;rcases f with rfl|f
  .rw[dJ]at e;cases e
  .rw[dJ]at f;cases f
 rcases L with P|P
 .refine wpAny_storeName_local P G (λh' J l=>?_) W;obtain⟨oL,_,_,S,_⟩:=id G;refine h _ ⟨I.ok,I.os,I.bare,⟨λb o e n R L=>?_,λb o e n R L=>?_,I.base.free,λb o e L=>?_,I.base.tups,I.base.frzs,I.base.tbls⟩,⟨_,J,λj y v' g N e3=>?_⟩,λy c e=>?_,I.free,I.freeC,λp hp=>?_,w ⟨oL,S,I.free⟩ l,by simpa using I.len⟩ ⟨_,l,.inl rfl⟩
  .exact(l.2 b (XN (YH (Xq e) I.ok.above))).trans (I.base.keep b o e n R L)
  .obtain⟨sl,g⟩:=I.base.slot b o e n R L;exact⟨sl,(l.2 b (XN (YH (Xq e) I.ok.above))).trans g⟩
  .obtain⟨o',g⟩:=I.base.there b o e L;exact⟨o',(l.2 b (XN (YH (Xq e) I.ok.above))).trans g⟩
  .by_cases hj:j=i
   .subst hj;rw[U]at g;cases g;rw[Cn O]at N;cases N;exact⟨u,r,.inl ⟨P,by simp⟩⟩
   .rw[ZF (ZM hj)]at N;obtain⟨u',r',q⟩:=hl j y v' g N e3;refine⟨u',r',?_⟩;rcases q with⟨k,e⟩|⟨k,c,e,z⟩
    .refine .inl ⟨k,?_⟩;have:y≠x:=λe=>hj (CW hN g (e▸U));simp[this,e]
    .exact .inr ⟨k,c,e,z.sameBut l (cne y c e)⟩
  .obtain⟨C,z⟩:=I.cell y c e;exact⟨C,z.sameBut l (cne y c e)⟩
  .obtain⟨e,n,ne,nf,d⟩:=I.pin p hp;exact⟨(l.2 p.1 ne).trans e,n,ne,nf,d⟩
 .have T:X.fn x=true:=by
   rcases hf with z|z
   .exact z
   .rw[z]at P;cases P
  obtain⟨c,f⟩:=I.ok.has x (.inl P);obtain⟨C,z⟩:=I.cell x c f;refine wpAny_storeName_cell I.ok.kind P f z (λh' Y l=>?_);obtain⟨oc,Z,B⟩:=id z;refine h {s with heap:=h'} ⟨I.ok,I.os,I.bare,⟨λb o e n R L=>?_,λb o e n R L=>?_,I.base.free,λb o e L=>?_,I.base.tups,I.base.frzs,I.base.tbls⟩,⟨m,G.sameBut l (ZM (cne x c f)),λj y v' g N e3=>?_⟩,λy D e=>?_,I.free,I.freeC,λp hp=>?_,w ⟨oc,Z,I.freeC x c f⟩ l,by simpa using I.len⟩ ⟨c,l,.inr f⟩
  .exact(l.2 b (XN (YH (Xq e) (I.ok.cab x c T f)))).trans (I.base.keep b o e n R L)
  .obtain⟨sl,g⟩:=I.base.slot b o e n R L;exact⟨sl,(l.2 b (XN (YH (Xq e) (I.ok.cab x c T f)))).trans g⟩
  .obtain⟨o',g⟩:=I.base.there b o e L;exact⟨o',(l.2 b (XN (YH (Xq e) (I.ok.cab x c T f)))).trans g⟩
  .by_cases hj:j=i
   .subst hj;rw[U]at g;cases g;rw[Cn O]at N;cases N;exact⟨u,r,.inr ⟨.inl P,c,f,Y⟩⟩
   .rw[ZF (ZM hj)]at N;obtain⟨u',r',q⟩:=hl j y v' g N e3;refine⟨u',r',?_⟩;rcases q with q|⟨k,D,e,z'⟩
    .exact .inl q
    .refine .inr ⟨k,D,e,z'.sameBut l ?_⟩;rintro rfl;exact hj (CW hN g (I.ok.inj _ _ _ e f▸U))
  .by_cases hcc:D=c
   .subst hcc;exact⟨_,Y⟩
   .obtain⟨w2,z2⟩:=I.cell y D e;exact⟨w2,z2.sameBut l hcc⟩
  .obtain⟨e,n,ne,nf,d⟩:=I.pin p hp;refine⟨(l.2 p.1 ?_).trans e,n,ne,nf,d⟩;intro q;rw[q,Z]at e;have q':oc=p.2:=Yo e;exact d C (by rw[<-q'];exact B)
theorem Bk(I:Inv X pz σ H s)(l:X.N.Nodup)(w:X.N[i]?=some x)(y:Loc X.env.scope x)(r:RelV v u)
  (h:∀j,Inv X pz (σ.set i (some v)) H j->Q () j)(z:X.fn x=true\/X.env.scope.names.lookup x=some .local:=by first|exact .inl rfl|exact .inr rfl|assumption):X3 M A (storeName X.env x u) Q E s:=
 GC I l w y r (λj m _=>h j m) z
theorem Inv.call'(I:Inv X pz σ H s)(w:s'.os=s.os)(u:Un (frs X.stack) ch H H' s.heap s'.heap)(j:HOk X.prog X.w H' s'.heap)(y:AllBare s'.gens)
  (l:∀b∈ch,(b∈X.ex\/X.s₀.heap.objs.size<=b)/\b≠X.env.locals/\(∀x c,X.env.cells.lookup x=some c->c≠b)/\∀p∈X.pn++pz,p.1≠b):Inv X pz σ H' s':=by
 obtain⟨h',z,m,g,d⟩:=s';have e:d=s.os:=w;subst e;exact I.call (L:=z) (O:=g) (P:=m) u j y l
end
abbrev XK:=Value->Option Addr->Hp->Prop
noncomputable abbrev St:=List (Option V)
abbrev VK:=V->Hp->Prop
abbrev TE:=St->Hp->VK->Prop
abbrev TT:=St->Hp->(Bool->Hp->Prop)->Prop
abbrev TA:=St->Hp->(List V->Hp->Prop)->Prop
structure Ends where
 nx:St->Hp->Prop
 rt:VK
 bk:St->Hp->Prop:=λ_ _=>False
 ct:St->Hp->Prop:=λ_ _=>False
abbrev TS:=Ends->St->Hp->Prop
def EP(X:Cx)(l:List (Addr×Obj))(w:St)(Q:VK)(u:Value)(y:X0):Prop:=∃v j,Inv X l w j y/\RelV v u/\Q v j
noncomputable def TP(X:Cx)(l:List (Addr×Obj))(u:St)(Q:Bool->Hp->Prop)(b:Bool)(w:X0):Prop:=∃j,Inv X l u j w/\Q b j
def AP(X:Cx)(u:List (Addr×Obj))(w:St)(Q:List V->Hp->Prop)(y:List Value)(z:X0):Prop:=∃j l,Inv X u w l z/\Vals j y/\Q j l
def SP(X:Cx)(w:List (Addr×Obj))(D:Ends)(f:Flow)(y:X0):Prop:=
 match f with
 |.next=>∃j l,Inv X w j l y/\D.nx j l
 |.brk=>∃j l,Inv X w j l y/\D.bk j l
 |.cont=>∃j l,Inv X w j l y/\D.ct j l
 |.ret u=>∃v j l,Inv X w j l y/\RelV v u/\D.rt v l
def PE(X:Cx)(e:Expr)(t:TE):Prop:=
 ∀(l:List (Addr×Obj))(s:X0)(j:St)(H:Hp)(Q:VK),Inv X l j H s->t j H Q->X3 (X4 X.prog X.w) X.A (eval e X.env) (EP X l j Q) X.xe s
def PT(X:Cx)(e:Expr)(t:TT):Prop:=
 ∀(l:List (Addr×Obj))(s:X0)(j:St)(H:Hp)(Q:Bool->Hp->Prop),Inv X l j H s->t j H Q->X3 (X4 X.prog X.w) X.A (isTrue e X.env (eval e X.env)) (TP X l j Q) X.xe s
def PW(X:Cx)(e:Expr)(t:TT):Prop:=
 ∀(j:Sem Value)(u:List (Addr×Obj))(s:X0)(l:St)(H:Hp)(Q:Bool->Hp->Prop),Inv X u l H s->t l H Q->X3 (X4 X.prog X.w) X.A (isTrue e X.env j) (TP X u l Q) X.xe s
theorem PW.pt{t:TT}(h:PW X e t):PT X e t:=h _
def PA(X:Cx)(w:List Expr)(t:TA):Prop:=
 ∀(j:Pos)(u:List (Addr×Obj))(s:X0)(l:St)(H:Hp)(Q:List V->Hp->Prop),Inv X u l H s->t l H Q->X3 (X4 X.prog X.w) X.A (spliced (Yl j (Xs w X.env))) (AP X u l Q) X.xe s
def PS(X:Cx)(st:Stmt)(t:TS):Prop:=
 ∀(j:List (Addr×Obj))(s:X0)(l:St)(H:Hp)(D:Ends),Inv X j l H s->t D l H->X3 (X4 X.prog X.w) X.A (exec st X.env) (SP X j D) X.xe s
def PSs(X:Cx)(st:List Stmt)(t:TS):Prop:=
 ∀(j:List (Addr×Obj))(s:X0)(l:St)(H:Hp)(D:Ends),Inv X j l H s->t D l H->X3 (X4 X.prog X.w) X.A (execs st X.env) (SP X j D) X.xe s
theorem thn{j:Type}{t:Sem j}{Q l:j->X0->Prop}{M:Model}{A:Xn}{E:Value->X0->Prop}{s:X0}(h:X3 M A t Q E s)(u:∀a s,Q a s->l a s):X3 M A t l E s:=Yg h u λ_ _ x=>x
section
variable{X:Cx}
theorem bin{a b:Expr}{c tb:TE}(p:PE X a c)(e:PE X b tb){m:List (Addr×Obj)}{s:X0}{j:St}{H:Hp}{R:V->V->Hp->Prop}(I:Inv X m j H s)(h:c j H λx d=>tb j d λy l=>R x y l)
  {q:Type} {Q:q->X0->Prop} {f:Value->Value->Sem q}
  (L:∀v u g x y l,Inv X m j l g->RelV x v->RelV y u->R x y l->X3 (X4 X.prog X.w) X.A (f v u) Q X.xe g):
  X3 (X4 X.prog X.w) X.A (eval a X.env) (λv w=>X3 (X4 X.prog X.w) X.A (eval b X.env) (λu z=>X3 (X4 X.prog X.w) X.A (f v u) Q X.xe z) X.xe w) X.xe s:=by
 refine thn (p m s j H _ I h) λv N ⟨x,d,O,P,T⟩=>?_;refine thn (e m N j d _ O T) λu g ⟨y,l,U,W,Y⟩=>?_;exact L v u g x y l U P W Y
noncomputable def tVar(i:Nat):TE:=λj H Q=>∃v,j[i]?=some (some v)/\Q v H
noncomputable def tC(v:V):TE:=λ_ H Q=>Q v H
theorem Bl{i:Nat}{x:Str}{z:Pos}(q:X.N[i]?=some x)(p:Vis X.env.scope x)(g:(x==("__debug__":Str))=false:=by decide)(d:(x==("__classdict__":Str))=false:=by decide):PE X (.Name x z) (tVar i):=by
 intro L s N H Q I h;obtain⟨v,e,h⟩:=h;obtain⟨m,O,P⟩:=I.loc;obtain⟨u,r,l⟩:=P i x v q e p;have w:EP X L N Q u s:=⟨v,H,I,r,h⟩;rcases l with⟨y,R⟩|⟨y,c,f,j⟩
 .exact wpAny_Name (wpAny_loadName_local I.ok.kind y O R w) g
 .rcases y with y|y
  .exact wpAny_Name (wpAny_loadName_cell I.ok.kind y f j w) g
  .exact wpAny_Name (wpAny_loadName_free I.ok.kind y f j w d) g
theorem pe_int{i j l}:PE X (.Constant (.int i) j l) (tC (.int i)):=λ_ _ _ H _ I h=>wpAny_Constant_int ⟨.int i,H,I.tok _,⟨_,rfl⟩,h⟩
theorem pe_bl{b j l}:PE X (.Constant (.bool b) j l) (tC (.bl b)):=λ_ _ _ H _ I h=>Constant_bool ⟨.bl b,H,I,rfl,h⟩
theorem pe_non{j l}:PE X (.Constant .none j l) (tC .non):=λ_ _ _ H _ I h=>Constant_none ⟨.non,H,I,rfl,h⟩
theorem pe_str{x j l}:PE X (.Constant (.str x) j l) (tC (.str x)):=λ_ _ _ H _ I h=>Calls.Constant_str ⟨.str x,H,I.tok _,⟨_,rfl⟩,h⟩
noncomputable def Gl(X:Cx)(x:Str):Prop:=X.env.kindOf x=some .globalImplicit
theorem Wl(I:Inv X pz σ H s)(j:Gl X x)(l:X.mg x=some u)(h:Q u s)
  (w:(x==("__debug__":Str))=false:=by decide):X3 (X4 X.prog X.w) X.A (eval (.Name x pos) X.env) Q E s:=
 Gi I.ok.kind j (Calls.loadGlobal_global (by rw[I.ok.glob];exact I.mod.glob.keeps I.bk) l h) w
theorem _N(I:Inv X pz σ H s)(j:Gl X x)(l:X.mg x=none)(w:Yu x=some u)(h:Q u s)
  (y:x≠"__name__":=by decide)(z:(x==("__debug__":Str))=false:=by decide):X3 (X4 X.prog X.w) X.A (eval (.Name x pos) X.env) Q E s:=by
 obtain⟨d,m,g⟩:=I.mod.blt;exact Gi I.ok.kind j (Calls.loadGlobal_builtin (by rw[I.ok.glob];exact I.mod.glob.keeps I.bk) l (by rw[I.ok.blt];exact m.keeps I.bk) ((g x y).trans w) h) z
theorem GD{x:Str}{v:V}{u:Value}{j:Pos}(l:Gl X x)(w:X.mg x=some u)(r:RelV v u)(y:(x==("__debug__":Str))=false:=by decide):PE X (.Name x j) (tC v):=
 λ_ _ _ H _ I h=>Wl I l w ⟨v,H,I,r,h⟩ y
theorem Qs{x:Str}{v:V}{u:Value}{j:Pos}(l:Gl X x)(w:X.mg x=none)(y:Yu x=some u)(r:RelV v u)(z:x≠"__name__":=by decide)(m:(x==("__debug__":Str))=false:=by decide):PE X (.Name x j) (tC v):=
 λ_ _ _ H _ I h=>_N I l w y ⟨v,H,I,r,h⟩ z m
variable{a b:Expr}{ta tb:TE}{pos:Pos}
noncomputable def tB(t:TE):TT:=λj H Q=>t j H λx l=>∃c,x=.bl c/\Q c l
theorem Qt{e:Expr}{t:TE}(h:PE X e t)(l:∀j,isTrue e X.env j=(do let v<- j;standAt e.pos;holding [v] (truthy v)):=by intro _;rfl):PT X e (tB t):=by
 intro u s w H Q I y;refine isTrue_plain (thn (h u s w H _ I y) λv f ⟨x,z,m,g,c⟩=>?_) (l _);obtain⟨d,rfl,q⟩:=c;cases g;exact ZA ⟨z,m,q⟩
variable{tA tB':TT}{rest:List Expr}
noncomputable def tAnd(t u:TT):TT:=λj H Q=>t j H λc l=>if c=true then u j l Q else Q false l
noncomputable def tOr(t u:TT):TT:=λj H Q=>t j H λc l=>if c=true then Q true l else u j l Q
noncomputable def tNot(t:TT):TT:=λj H Q=>t j H λc l=>Q (!c) l
theorem pw_and1(j:PT X a tA):PW X (.BoolOp .And [a] pos) tA:=by
 intro w l s u H Q I h;refine isTrue_and (thn (j l s u H Q I h) λc y e=>?_);cases c with
 |true=>exact isTrue_and_nil e
 |false=>exact e
theorem pw_or1(j:PT X a tA):PW X (.BoolOp .Or [a] pos) tA:=by
 intro w l s u H Q I h;refine isTrue_or (thn (j l s u H Q I h) λc y e=>?_);cases c with
 |false=>exact isTrue_or_nil e
 |true=>exact e
theorem pw_and(z:PT X a tA)(m:PW X (.BoolOp .And (b::rest) pos) tB'):PW X (.BoolOp .And (a::b::rest) pos) (tAnd tA tB'):=by
 intro g j s l H Q I h;refine isTrue_and (thn (z j s l H _ I h) λc d ⟨u,w,y⟩=>?_);cases c with
 |true=>exact m g j d l u Q w y
 |false=>exact⟨u,w,y⟩
theorem pw_or(z:PT X a tA)(m:PW X (.BoolOp .Or (b::rest) pos) tB'):PW X (.BoolOp .Or (a::b::rest) pos) (tOr tA tB'):=by
 intro g j s l H Q I h;refine isTrue_or (thn (z j s l H _ I h) λc d ⟨u,w,y⟩=>?_);cases c with
 |true=>exact⟨u,w,y⟩
 |false=>exact m g j d l u Q w y
theorem Qu(j:PT X a tA):PT X (.UnaryOp .Not a pos) (tNot tA):=by
 intro l s u H Q I h;exact isTrue_not (j l s u H (λc w=>Q (!c) w) I h)
noncomputable def Qv(ta tb:TE):TE:=λj H Q=>ta j H λx l=>∃c,x=.bl c/\if c=true then tb j l Q else Q (.bl false) l
noncomputable def tOrV(ta tb:TE):TE:=λj H Q=>ta j H λx l=>∃c,x=.bl c/\if c=true then Q (.bl true) l else tb j l Q
noncomputable def Qw(ta:TE):TE:=λj H Q=>ta j H λx l=>∃c,x=.bl c/\Q (.bl (!c)) l
theorem GE{j}{t:TE}(h:PE X a t):PE X (.BoolOp j [a] pos) t:=λl s u H Q I w=>BoolOp_one (h l s u H Q I w)
theorem Qx(z:PE X a ta)(m:PE X (.BoolOp .And (b::rest) pos) tb):PE X (.BoolOp .And (a::b::rest) pos) (Qv ta tb):=by
 intro l s u H Q I h;refine BoolOp_and (thn (z l s u H _ I h) λv g ⟨x,w,y,d,j⟩=>?_);obtain⟨c,rfl,j⟩:=j;cases d;refine ZA ?_;cases c with
 |true=>exact m l g u w Q y j
 |false=>exact⟨.bl false,w,y,rfl,j⟩
theorem Qy(z:PE X a ta)(m:PE X (.BoolOp .Or (b::rest) pos) tb):PE X (.BoolOp .Or (a::b::rest) pos) (tOrV ta tb):=by
 intro l s u H Q I h;refine BoolOp_or (thn (z l s u H _ I h) λv g ⟨x,w,y,d,j⟩=>?_);obtain⟨c,rfl,j⟩:=j;cases d;refine ZA ?_;cases c with
 |false=>exact m l g u w Q y j
 |true=>exact⟨.bl true,w,y,rfl,j⟩
theorem Qz(l:PE X a ta):PE X (.UnaryOp .Not a pos) (Qw ta):=by
 intro u s w H Q I h;refine UnaryOp_ (thn (l u s w H _ I h) λv g ⟨x,y,z,m,j⟩=>?_);obtain⟨c,rfl,j⟩:=j;cases m;exact not_of (ZA ⟨.bl (!c),y,z,rfl,j⟩)
end
def SqL(K:X1)(H:Hp)(a:Addr)(l:List V):Prop:=
 Rd H a (.lst l)\/
  ∃(o:Obj) (j:Array Value) (n:Nat),K.lookup a=some o/\o.cls=.type "list"/\o.dict=none/\o.data=.seq j n/\j.size<=sizeLine/\Vals l j.toList
def SqT(K:X1)(H:Hp)(a:Addr)(l:List V):Prop:=
 Rd H a (.tup l)\/
  ∃(o:Obj) (j:Array Value) (n:Nat),K.lookup a=some o/\o.cls=.type "tuple"/\o.data=.seq j n/\j.size<=sizeLine/\Vals l j.toList
noncomputable def absV:Value->Option V
 |.none=>some .non
 |.bool b=>some (.bl b)
 |.int i _=>some (.int i)
 |.str x _=>some (.str x)
 |.bytes b _=>some (.byt b)
 |.float b _=>some (.flt b)
 |.ref a=>some (.ref a)
 |.type n=>some (.ty n)
 |_=>none
theorem RelV.abs(r:RelV x u):absV u=some x:=by
 cases x with
 |non=>cases r;rfl
 |bl _=>cases r;rfl
 |int _=>obtain⟨t,rfl⟩:=r;rfl
 |str _=>obtain⟨t,rfl⟩:=r;rfl
 |byt _=>obtain⟨t,rfl⟩:=r;rfl
 |flt _=>obtain⟨t,rfl⟩:=r;rfl
 |ref _=>cases r;rfl
 |ty _=>cases r;rfl
theorem RelV.inj(r:RelV x u)(q:RelV y u):x=y:=Yo (r.abs.symm.trans q.abs)
theorem Vals.inj:∀{xs ys:List V} {j:List Value},Vals xs j->Vals ys j->xs=ys
 |_,_,_,.nil,.nil=>rfl
 |_,_,_,.cons r t,.cons r' t'=>by rw[r.inj r',Vals.inj t t']
section
variable{X:Cx}{pz:List (Addr×Obj)}{σ:St}{H:Hp}{s:X0}{a:Addr}{xs ys:List V}
theorem SqL.of{K:X1}(h:H a=some (.lst xs)):SqL K H a xs:=.inl (.inl h)
theorem SqT.of{K:X1}(h:H a=some (.tup xs)):SqT K H a xs:=.inl (.inl h)
theorem Inv.list(I:Inv X pz σ H s)(h:SqL X.K H a xs):∃j:List Value,Vals xs j/\PlainL s.heap a j.toArray/\xs.length<=sizeLine:=by
 rcases h with h|⟨o,j,n,l,u,w,y,m,r⟩
 .obtain⟨z,j,n,r,e⟩:=h.ok I.hok;exact⟨j,r,⟨_,n,e,rfl,rfl,rfl⟩,z⟩
 .refine⟨j.toList,r,⟨o,n,I.kIn a o l,u,w,by simpa using y⟩,?_⟩
  have e:=r.length;simp only[Yn]at e;lia
theorem Inv.tuple(I:Inv X pz σ H s)(h:SqT X.K H a xs):∃j:List Value,Vals xs j/\IsTup s.heap a j.toArray/\xs.length<=sizeLine:=by
 rcases h with h|⟨o,j,n,l,u,w,y,r⟩
 .obtain⟨z,j,r,p⟩:=h.ok I.hok;exact⟨j,r,p.1,z⟩
 .refine⟨j.toList,r,⟨o,I.kIn a o l,u,n,by simpa using w⟩,?_⟩
  have e:=r.length;simp only[Yn]at e;lia
theorem Inv.list_inj(I:Inv X pz σ H s)(h:SqL X.K H a xs)(y:SqL X.K H a ys):xs=ys:=by
 obtain⟨l,r,⟨o,n,e,_,_,d⟩,_⟩:=I.list h;obtain⟨j,z,⟨m,g,u,_,_,w⟩,_⟩:=I.list y;rw[e]at u;cases u;rw[d]at w;injection w with d1 _;have:l=j:=by simpa using congrArg Array.toList d1
 subst this;exact r.inj z
theorem Inv.tuple_inj(I:Inv X pz σ H s)(h:SqT X.K H a xs)(y:SqT X.K H a ys):xs=ys:=by
 obtain⟨l,r,⟨o,e,_,n,d⟩,_⟩:=I.tuple h;obtain⟨j,z,⟨m,u,_,g,w⟩,_⟩:=I.tuple y;rw[e]at u;cases u;rw[d]at w;injection w with d1 _;have:l=j:=by simpa using congrArg Array.toList d1
 subst this;exact r.inj z
end
noncomputable abbrev Cx.wish(X:Cx)(E:Value->X0->Prop):Cx:={X with xe:=E}
noncomputable abbrev Cx.nox(X:Cx):Cx:=X.wish λ_ _=>False
theorem Cx.Ok.wish{X:Cx}(ok:X.Ok)(E:Value->X0->Prop):(X.wish E).Ok:=
 ⟨ok.mod,ok.kind,ok.glob,ok.blt,ok.above,ok.inj,ok.has,ok.cab,ok.hd,ok.frames,ok.stk,ok.exf,ok.bs,ok.bsz,ok.noex,ok.exfs,ok.funs,ok.frf⟩
theorem Cx.Ok.unwish{X:Cx}{E:Value->X0->Prop}(ok:(X.wish E).Ok):X.Ok:=
 ⟨ok.mod,ok.kind,ok.glob,ok.blt,ok.above,ok.inj,ok.has,ok.cab,ok.hd,ok.frames,ok.stk,ok.exf,ok.bs,ok.bsz,ok.noex,ok.exfs,ok.funs,ok.frf⟩
section
variable{X:Cx}{pz:List (Addr×Obj)}{σ:St}{H:Hp}{s:X0}{E:Value->X0->Prop}
theorem Inv.wish(I:Inv X pz σ H s)(E:Value->X0->Prop):Inv (X.wish E) pz σ H s:=⟨I.ok.wish E,I.os,I.bare,I.base,I.loc,I.cell,I.free,I.freeC,I.pin,I.hok,I.len⟩
theorem Inv.unwish(I:Inv (X.wish E) pz σ H s):Inv X pz σ H s:=⟨I.ok.unwish,I.os,I.bare,I.base,I.loc,I.cell,I.free,I.freeC,I.pin,I.hok,I.len⟩
theorem SP.unwish(h:SP (X.wish E) pz D f s'):SP X pz D f s':=by
 cases f with
 |next=>obtain⟨j,l,I,q⟩:=h;exact⟨j,l,I.unwish,q⟩
 |brk=>obtain⟨j,l,I,q⟩:=h;exact⟨j,l,I.unwish,q⟩
 |cont=>obtain⟨j,l,I,q⟩:=h;exact⟨j,l,I.unwish,q⟩
 |ret u=>obtain⟨v,j,l,I,r,q⟩:=h;exact⟨v,j,l,I.unwish,r,q⟩
theorem PT.nox{e:Expr}{t:TT}(h:PT X.nox e t):PT X e t:=λpz s σ H Q I j=>
 Yg (h pz s σ H Q (I.wish _) j) (λ_ _ ⟨l,u,q⟩=>⟨l,u.unwish,q⟩) λ_ _ z=>XS z
theorem PSs.nox{st:List Stmt}{t:TS}(h:PSs X.nox st t):PSs X st t:=λpz s σ H D I j=>
 Yg (h pz s σ H D (I.wish _) j) (λ_ _ q=>q.unwish) λ_ _ z=>XS z
end
section
variable{X:Cx}{st:Stmt}{rest:List Stmt}{t u:TS}{e:Expr}{te:TE}{pos:Pos}
noncomputable def QA:TS:=λD j H=>D.nx j H
noncomputable def tSeq(t u:TS):TS:=λD j H=>t {D with nx:=u D} j H
theorem pss_nil:PSs X [] QA:=λ_ _ j H _ I h=>UH ⟨j,H,I,h⟩
theorem CY(h1:PS X st t)(h2:PSs X rest u):PSs X (st::rest) (tSeq t u):=by
 intro l s w H D I h;refine wpAny_execs_cons (thn (h1 l s w H {D with nx:=u D} I h) λf y q=>?_);cases f with
 |next=>
  obtain⟨j,z,m,q⟩:=q;exact h2 l y j z D m q
 |ret v=>exact q
 |brk=>exact q
 |cont=>exact q
theorem QB(h1:PS X st t):PSs X [st] t:=by
 intro j s l H D I h;refine wpAny_execs_cons (thn (h1 j s l H D I h) λf w q=>?_);cases f with
 |next=>exact UH q
 |ret v=>exact q
 |brk=>exact q
 |cont=>exact q
theorem Inv.quiet(I:Inv X pz σ H s):interactive X.env=false:=by simp[interactive,I.ok.kind]
noncomputable def QC(te:TE):TS:=λD j H=>te j H λ_ l=>D.nx j l
theorem GF(l:PE X e te)(w:UI e none pos.line X.env=pure false:=by rfl):PS X (.Expr e pos) (QC te):=by
 intro y s j H D I h;exact wpAny_Expr_any (thn (l y s j H _ I h) λv d ⟨x,z,m,c,g⟩=>⟨j,z,m,g⟩) I.quiet w
noncomputable def tRet(te:TE):TS:=λD j H=>te j H D.rt
theorem GG(l:PE X e te):PS X (.Return (some e) pos) (tRet te):=by
 intro w s j H D I h;exact wpAny_Return_some (thn (l w s j H _ I h) λv d ⟨x,y,z,m,g⟩=>⟨x,j,y,z,m,g⟩)
noncomputable def tIfS(c:TT)(t u:TS):TS:=λD j H=>c j H λb l=>if b=true then t D j l else u D j l
theorem GH{c:Expr}{a b:List Stmt}{w:TT}(f:PT X c w)(q:PSs X a t)(p:PSs X b u):PS X (.If c a b pos) (tIfS w t u):=by
 intro j s l H D I h;refine wpAny_If (thn (f j s l H _ I h) λd y ⟨z,m,g⟩=>?_);cases d with
 |true=>exact q j y l z D m g
 |false=>exact p j y l z D m g
noncomputable def QD:TS:=λ_ _ _=>False
theorem ps_never:PS X st QD:=λ_ _ _ _ _ _ h=>h.elim
end
abbrev TG:=V->St->Hp->(St->Hp->Prop)->Prop
abbrev TGs:=List V->St->Hp->(St->Hp->Prop)->Prop
def PG(X:Cx)(j:Expr)(t:TG):Prop:=
 ∀(w:List (Addr×Obj))(s:X0)(y:St)(H:Hp)(v:V)(u:Value)(Q:St->Hp->Prop),Inv X w y H s->RelV v u->t v y H Q->
  X3 (X4 X.prog X.w) X.A (assign j X.env u) (λ_ m=>∃l z,Inv X w l z m/\Q l z) X.xe s
def PGs(X:Cx)(m:List Expr)(t:TGs):Prop:=
 ∀(l:List (Addr×Obj))(s:X0)(u:St)(H:Hp)(w:List V)(y:List Value)(Q:St->Hp->Prop),Inv X l u H s->Vals w y->t w u H Q->
  X3 (X4 X.prog X.w) X.A (assignInOrder ((ZB m X.env).map (·.2)) y) (λ_ g=>∃j z,Inv X l j z g/\Q j z) X.xe s
section
variable{X:Cx}{pos:Pos}
noncomputable def Bm(i:Nat):TG:=λv j H Q=>Q (j.set i (some v)) H
theorem GJ(j:X.N.Nodup)(l:X.N[i]?=some x)(w:Loc X.env.scope x)(y:X.fn x=true\/X.env.scope.names.lookup x=some .local:=by first|exact .inl rfl|exact .inr rfl|assumption):PG X (.Name x pos) (Bm i):=by
 intro m s g H v u Q I r h;exact wpAny_assign_Name (Bk I j l w r (λd z=>⟨_,H,z,h⟩) y)
noncomputable def gNil:TGs:=λj l H Q=>j=[]/\Q l H
noncomputable def GK(t:TG)(u:TGs):TGs:=λl w H Q=>∃v r,l=v::r/\t v w H λj y=>u r j y Q
theorem QE:PGs X [] gNil:=by
 intro l s j H u w Q I r h;obtain⟨e,h⟩:=h;subst e;cases r;exact assignInOrder_nil ⟨j,H,I,h⟩
theorem QF{e:Expr}{j:List Expr}{t:TG}{u:TGs}(h1:PG X e t)(h2:PGs X j u)
  (y:(ZB (e::j) X.env).map (·.2)=assign e X.env::(ZB j X.env).map (·.2):=by rfl):PGs X (e::j) (GK t u):=by
 intro w s z H p L Q I r h;obtain⟨v,N,m,h⟩:=h;subst m;cases r with
 |cons r g=>
  rw[y];refine assignInOrder_cons (thn (h1 w s z H _ _ _ I r h) λ_ d ⟨l,c,f,q⟩=>?_);exact h2 w d l c _ _ Q f g q
def gTup(K:X1)(n:Nat)(t:TGs):TG:=λv l H Q=>∃a j,v=.ref a/\SqT K H a j/\j.length=n/\t j l H Q
theorem QG{k:Nat}{t:TGs}(m:X.calm=true)(h:PGs X es t)
  (g:(ZB es X.env).length=n:=by rfl)(j:(ZB es X.env).findIdx? (·.1)=none:=by rfl):PG X (.Tuple es k pos) (gTup X.K n t):=by
 intro w s y H v u Q I r l;obtain⟨a,d,c,f,q,l⟩:=l;subst c;cases r;obtain⟨p,z,L,R⟩:=I.tuple f;refine assign_Tuple_tuple (I.ok.hd m) L (by simp[g,<-q,z.length]) j λN O=>?_
 have P:Inv X w y H {s with heap:=N}:=I.kept (t':=s.toks) λb o e=>O b o (XN (Xq e)) e;exact h w _ y H d _ Q P (by simpa using z) l
noncomputable def tAsg(l:TE)(g:TG):TS:=λD j H=>l j H λx u=>g x j u D.nx
theorem QH{j e:Expr}{l:TE}{g:TG}(y:PE X e l)(z:PG X j g)(m:swapsWithSole [j] e pos.line X.env=pure false:=by rfl)(hw:swappedStores [j] e X.env=pure none:=by rfl)
  (h1:(ZB [j] X.env).map (·.2)=[assign j X.env]:=by rfl):PS X (.Assign [j] e pos) (tAsg l g):=by
 intro u s w H D I h;refine wpAny_Assign_stores (thn (y u s w H _ I h) λv d ⟨x,c,f,p,L⟩=>?_) m hw;rw[h1];exact thn (z u d w c x v _ f p L) λ_ N q=>q
theorem Bn{i:Nat}{x:Str}{e:Expr}{l:TE}{j:Pos}(u:X.N.Nodup)(w:X.N[i]?=some x)(z:Loc X.env.scope x)(m:PE X e l)(g:UI e (some (.Name x j)) pos.line X.env=pure false:=by rfl)(d:X.fn x=true\/X.env.scope.names.lookup x=some .local:=by first|exact .inl rfl|exact .inr rfl|assumption):
  PS X (.Assign [.Name x j] e pos) (tAsg l (Bm i)):=by
 intro c s f H D I h;refine wpAny_Assign_Name (thn (m c s f H _ I h) λv P ⟨y,q,p,L,N⟩=>?_) g;exact Bk p u w z L (λR O=>⟨_,q,O,N⟩) d
end
structure It where
 go:Nat->Hp->Prop
 yld:Nat->Hp->V->Hp->Prop
 stop:Nat->Hp->Prop
noncomputable def FpOk(X:Cx)(j:List (Addr×Obj))(H:Hp)(b:Addr):Prop:=
 H b=none/\b≠X.env.locals/\b∉X.fs/\(b∈X.ex\/X.s₀.heap.objs.size<=b)/\(∀x c,X.env.cells.lookup x=some c->c≠b)/\∀p∈X.pn++j,p.1≠b
theorem Inv.fpOk(I:Inv X pz σ H s)(j:s.heap.objs.size<=b)(l:H' b=none):FpOk X pz H' b:=by
 refine⟨l,B1 (YH I.lt j),I.nofs j,.inr (Y7 I.sz j),λx c e z=>?_,λp u z=>?_⟩
 .obtain⟨v,q⟩:=I.cell x c e;exact absurd (YH q.lt (by rw[z];exact j)) (Us _)
 .exact absurd (YH (Xq (I.pin p u).1) (by rw[z];exact j)) (Us _)
structure Turn (P:Xh)(w:Xd)(K:X1)(tg:Expr)(J:It)(fp:List Addr)(it:Addr)(tn:Nat->Heap->Prop):Prop where
 mem:it∈fp
 obj:∀i h,tn i h->∀b∈fp,∃o,h.get? b=some o/\∀v,o.data≠.cell v
 keep:∀i h h',tn i h->(∀b∈fp,∀o,h.get? b=some o->h'.get? b=some o)->tn i h'
 item:∀(X:Cx),X.prog=P->X.w=w->X.K=K->X.calm=true->∀(i:Nat)(pz:List (Addr×Obj))(s:X0)(σ:St)(H:Hp)(E:Value->X0->Prop),Inv X pz σ H s->(∀b∈fp,FpOk X pz H b)->tn i s.heap->J.go i H->
  X3 (X4 P w) X.A (pyNext (.ref it)) (λr s1=>∃u,r=some u/\
   X3 (X4 P w) X.A (AE tg (.ref it) u) (λ_ s2=>∃x H',Inv X pz σ H' s2/\RelV x u/\J.yld i H x H'/\tn (i+1) s2.heap/\∀b∈fp,H' b=none) E s1) E s
 done:∀(X:Cx),X.prog=P->X.w=w->X.K=K->X.calm=true->∀(i:Nat)(pz:List (Addr×Obj))(s:X0)(σ:St)(H:Hp)(E:Value->X0->Prop),Inv X pz σ H s->(∀b∈fp,FpOk X pz H b)->tn i s.heap->J.stop i H->
  X3 (X4 P w) X.A (pyNext (.ref it)) (λr s1=>r=none/\Inv X pz σ H s1) E s
 self:∀(A:Xn)(i:Nat)(s:X0)(Q:Value->X0->Prop)(E:Value->X0->Prop),tn i s.heap->Q (.ref it) s->X3 (X4 P w) A (pyIter (.ref it)) Q E s
abbrev TI:=St->Hp->(It->Hp->Prop)->Prop
def PIE(X:Cx)(u:List (Addr×Obj))(g:St)(d:Expr)(R:It->Hp->Prop)(j:Value)(w:X0):Prop:=
 ∃(y:Addr) (z:List Addr) (m:Nat->Heap->Prop) (J:It) (l:Hp),j=.ref y/\Inv X u g l w/\Turn X.prog X.w X.K d J z y m/\m 0 w.heap/\(∀b∈z,FpOk X u l b)/\R J l
def PI(X:Cx)(w j:Expr)(y:TI):Prop:=
 ∀(u:List (Addr×Obj))(s:X0)(l:St)(H:Hp)(R:It->Hp->Prop),Inv X u l H s->y l H R->
  X3 (X4 X.prog X.w) X.A (eval j X.env) (λv z=>X3 (X4 X.prog X.w) X.A (pyIter v) (PIE X u l w R) X.xe z) X.xe s
theorem Wm(l:s.heap.get? it=some o)(w:o.cls=.type n)(y:o.data=.fields vs)
  (z:["enumerate","zip","dict_itemiterator","dict_reverseitemiterator","odict_iterator","itertools.zip_longest","itertools.pairwise"].contains n=false)(j:Q () s):X3 M A (AE tg (.ref it) u) Q E s:=by
 unfold AE;cases tg<;>first
  |exact Xa j
  |(cases u<;>first
    |exact Xa j
    |(refine X2 (wpAny_load l ?_)
      rw[w,y];show X3 M A (if(["enumerate","zip","dict_itemiterator","dict_reverseitemiterator","odict_iterator","itertools.zip_longest","itertools.pairwise"].contains n&&vs[0]?==some (Y9 _))=true then _ else _) Q E s;rw[if_neg (by intro h;rw[z,AZ]at h;cases h)]
      exact Xa j))
def Itl(K:X1)(a:Addr):It:=
 ⟨λi H=>∃j x,SqL K H a j/\j[i]?=some x,λi H x l=>l=H/\∀j,SqL K H a j->j[i]?=some x,λi H=>∃j,SqL K H a j/\j.length<=i⟩
def Itt(K:X1)(a:Addr):It:=
 ⟨λi H=>∃j x,SqT K H a j/\j[i]?=some x,λi H x l=>l=H/\∀j,SqT K H a j->j[i]?=some x,λi H=>∃j,SqT K H a j/\j.length<=i⟩
noncomputable def Itr(lo:Int)(n:Nat):It:=⟨λi _=>i<n,λi H x j=>j=H/\x=.int (lo+i),λi _=>n<=i⟩
theorem QI{K:X1}(a j:Addr):Turn P w K tg (Itl K a) [j] j (λi h=>h.IsListIter j a i)where
 mem:=by simp
 obj:=λi h st b l=>by
  have e:b=j:=by simpa using l
  subst e;obtain⟨o,e,c,d⟩:=st;exact⟨o,e,λv z=>by rw[d]at z;cases z⟩
 keep:=λi h m st k=>st.at λo e=>k j (by simp) o e
 item:=by
  intro X q L N W i Y s Z H E I g st O;subst q L N;obtain⟨A,x,f,R⟩:=O;obtain⟨T,U,p,B⟩:=I.list f;obtain⟨u,C,D⟩:=U.get R;obtain⟨f0,f1,f2,f3,f4,f5⟩:=g j (by simp)
  refine wpAny_pyNext_list_item st p.isList (x:=u) (by simpa using C) λm y F=>?_
  have G:Inv X Y Z H {s with heap:=m}:=I.turned (g:=s.toks) (λb o l e=>(F.2 b l).trans e) f0 f1 f3 f4 f5;obtain⟨o,e,c,d⟩:=id y;exact⟨u,rfl,Wm (s:={s with heap:=m}) e c d (by decide) ⟨x,H,G,D,⟨rfl,λQ J=>by rw[I.list_inj J f];exact R⟩,y,λb l=>(g b l).1⟩⟩
 done:=by
  intro X q L N W i Y s Z H E I g st O;subst q L N;obtain⟨A,f,R⟩:=O;obtain⟨T,U,p,B⟩:=I.list f;obtain⟨f0,f1,f2,f3,f4,f5⟩:=g j (by simp)
  have S:=U.length;exact wpAny_pyNext_list_end (I.ok.hd W) st p.isList (by simp;lia) λm M=>⟨rfl,I.turned (g:=s.toks) (λb o l e=>M b o l e) f0 f1 f3 f4 f5⟩
 self:=λ_ _ _ _ _ st h=>wpAny_pyIter_listiter st h
theorem QJ{K:X1}(a j:Addr):Turn P w K tg (Itt K a) [j] j (λi h=>h.IsTupleIter j a i)where
 mem:=by simp
 obj:=λi h st b l=>by
  have e:b=j:=by simpa using l
  subst e;obtain⟨o,e,c,d⟩:=st;exact⟨o,e,λv z=>by rw[d]at z;cases z⟩
 keep:=λi h g st k=>st.at λo e=>k j (by simp) o e
 item:=by
  intro X L N O W i Y s Z H E I f st R;subst L N O;obtain⟨A,x,q,T⟩:=R;obtain⟨y,U,p,B⟩:=I.tuple q;obtain⟨u,C,D⟩:=U.get T;obtain⟨f0,f1,f2,f3,f4,f5⟩:=f j (by simp)
  refine wpAny_pyNext_tuple_item st (show s.heap.IsTuple a y.toArray from p) (x:=u) (by simpa using C) λg m F=>?_
  have G:Inv X Y Z H {s with heap:=g}:=I.turned (g:=s.toks) (λb o l e=>(F.2 b l).trans e) f0 f1 f3 f4 f5;obtain⟨o,e,c,d⟩:=id m;exact⟨u,rfl,Wm (s:={s with heap:=g}) e c d (by decide) ⟨x,H,G,D,⟨rfl,λQ J=>by rw[I.tuple_inj J q];exact T⟩,m,λb l=>(f b l).1⟩⟩
 done:=by
  intro X L N O W i Y s Z H E I f st R;subst L N O;obtain⟨A,q,T⟩:=R;obtain⟨y,U,p,B⟩:=I.tuple q;obtain⟨f0,f1,f2,f3,f4,f5⟩:=f j (by simp)
  have S:=U.length;exact wpAny_pyNext_tuple_end (I.ok.hd W) st (show s.heap.IsTuple a y.toArray from p) (by simp;lia) λg M=>⟨rfl,I.turned (g:=s.toks) (λb o l e=>M b o l e) f0 f1 f3 f4 f5⟩
 self:=λ_ _ _ _ _ st h=>wpAny_pyIter_tupleiter st h
theorem QK{K:X1}(j:Addr)(lo:Int)(n:Nat):Turn P w K tg (Itr lo n) [j] j (λi h=>IsRangeIter h j (lo+(i:Nat)*1) ((n:Int) - (i:Nat)) 1)where
 mem:=by simp
 obj:=λi h st b l=>by
  have e:b=j:=by simpa using l
  subst e;exact⟨_,st,λv z=>by
   have O:Data.fields _=Data.cell v:=z;cases O⟩
 keep:=λi h y st k=>k j (by simp) _ st
 item:=by
  intro X g d c f i p s L H E I m st q;subst g d c;obtain⟨f0,f1,f2,f3,f4,f5⟩:=m j (by simp)
  have W:=Walks.range (prog:=X.prog) (w:=X.w) (I.ok.hd f) j lo 1 n;refine W.item i s _ _ q st λv y N R u T=>?_;obtain⟨t,rfl⟩:=R;have U:Inv X p L H {s with heap:=y,toks:=N}:=I.turned (λb o l e=>T b o (by simpa using l) e) f0 f1 f3 f4 f5
  refine⟨_,rfl,Wm (s:={s with heap:=y,toks:=N}) (n:="range_iterator") u rfl rfl (by decide) ⟨.int (lo+i),H,U,⟨t,?_⟩,⟨rfl,rfl⟩,u,fun b l=>(m b l).1⟩⟩
  rw[Int.mul_one]
 done:=by
  intro X g d c f i p s L H E I m st q;subst g d c;obtain⟨f0,f1,f2,f3,f4,f5⟩:=m j (by simp)
  exact wpAny_pyNext_range_end (I.ok.hd f) st (by have:n<=i:=q;lia) λy Y=>⟨rfl,I.turned (g:=s.toks) (λb o l e=>Y b o l e) f0 f1 f3 f4 f5⟩
 self:=λ_ _ _ _ _ st h=>wpAny_pyIter_rangeiter st h
section
variable{X:Cx}{tg:Expr}
theorem GM{lo:Int}{t:Tok}(I:Inv X pz σ H s)(h1:-(2^62)<=lo)(h2:lo<2^62)(h3:-(2^62)<=hi)(h4:hi<2^62)
  (q:R (Itr lo (hi - lo).toNat) H):X3 (X4 X.prog X.w) X.A (pyIter (.ref s.heap.objs.size)) (PIE X pz σ tg R) E {s with heap:=s.heap.push {cls:=.type "range",data:=.fields #[.int lo t,.int hi u,.int 1 v]},toks:=tk}:=by
 refine wpAny_pyIter_range (IsRange.new ..) (small_one h1 h2 h3 h4) ?_;have j:Inv X pz σ H {s with heap:=s.heap.push {cls:=.type "range",data:=.fields #[.int lo t,.int hi u,.int 1 v]},toks:=tk}:=I.kept fun b o e=>XD _ e;refine⟨(s.heap.push {cls:=.type "range",data:=.fields #[.int lo t,.int hi u,.int 1 v]}).objs.size,[(s.heap.push {cls:=.type "range",data:=.fields #[.int lo t,.int hi u,.int 1 v]}).objs.size],_,_,H,rfl,
  j.kept (t':=tk) λb o e=>XD _ e,QK _ lo (hi - lo).toNat,?_,λb l=>?_,q⟩
 .have w:lo+((0:Nat):Int)*1=lo:=by simp
  have y:(((hi - lo).toNat:Nat):Int) - ((0:Nat):Int)=Builtin.Range.rangeSize lo hi 1:=by rw[rangeSize_one];split<;>lia
  show IsRangeIter _ _ (lo+((0:Nat):Int)*1) ((((hi - lo).toNat:Nat):Int) - ((0:Nat):Int)) 1;rw[w,y];exact Y1 _ rfl
 .have e:b=(s.heap.push {cls:=.type "range",data:=.fields #[.int lo t,.int hi u,.int 1 v]}).objs.size:=by simpa using l
  subst e;exact j.fpOk (Xf _) (j.hok.fresh (Xf _))
def QL(l:TA):TI:=λu H R=>l u H λw y=>∃j:Int,w=[.int j]/\ -(2^62)<=j/\j<2^62/\R (Itr 0 j.toNat) y
def QN(l:TA):TI:=λu H R=>l u H λw y=>∃i j:Int,w=[.int i,.int j]/\(-(2^62)<=i/\i<2^62/\ -(2^62)<=j/\j<2^62)/\R (Itr i (j - i).toNat) y
theorem QO{a:Expr}{w:TA}{p l:Pos}(y:Gl X "range")(z:X.mg "range"=none)(m:PA X [a] w)(g:Xs [a] X.env=[(false,eval a X.env)]:=by rfl):PI X tg (.Call (.Name "range" p) [a] [] l) (QL w):=by
 intro d s c H R I h;refine Call_ (_N I y z boot_range (Vu (thn (m l d s c H _ I h) λP T ⟨U,W,f,L,u⟩=>?_) g rfl));obtain⟨j,e,u,N,q⟩:=u;subst e;cases L with
 |cons r O=>
  cases O;obtain⟨t,rfl⟩:=r;exact call_range_1 (GM f (by lia) (by lia) u N (by simpa using q))
theorem QP{a b:Expr}{z:TA}{p l:Pos}(m:Gl X "range")(g:X.mg "range"=none)(d:PA X [a,b] z)(c:Xs [a,b] X.env=[(false,eval a X.env),(false,eval b X.env)]:=by rfl)(u:Xs [b] X.env=[(false,eval b X.env)]:=by rfl):
  PI X tg (.Call (.Name "range" p) [a,b] [] l) (QN z):=by
 intro f s L H R I h;refine Call_ (_N I m g boot_range (Vu (thn (d l f s L H _ I h) λY Z ⟨A,B,N,O,w⟩=>?_) (by rw[c,u]) (by rw[u];rfl)))
 obtain⟨i,j,e,⟨w,P,T,U⟩,q⟩:=w;subst e;cases O with
 |cons r y=>
  cases y with
  |cons W y=>
   cases y;obtain⟨t,rfl⟩:=r;obtain⟨C,rfl⟩:=W;exact call_range_2 (GM N w P T U q)
def tFor(z:TI)(g:TG)(tb:TS):TS:=λD j H=>z j H λJ d=>∃W:Nat->Nat->St->Hp->Prop,(∃m,W 0 m j d)/\∀i m j H,W i m j H->
 (J.stop i H/\D.nx j H)\/(J.go i H/\∃N:St->Hp->Prop,(∀l u,N l u->∃y,y<m/\W (i+1) y l u)/\∀x u,J.yld i H x u->g x j u λw c=>tb {D with nx:=N,ct:=N,bk:=D.nx} w c)
noncomputable def VA(j:List Addr)(h:Heap):List (Addr×Obj):=j.filterMap λb=>(h.get? b).map λo=>(b,o)
theorem Bo(j:b∈fp)(e:h.get? b=some o):(b,o)∈VA fp h:=Cr.mpr ⟨b,j,by rw[e];rfl⟩
theorem QQ(j:p∈VA fp h):p.1∈fp/\h.get? p.1=some p.2:=by
 obtain⟨b,l,e⟩:=Cr.mp j;cases q:h.get? b with
 |none=>rw[q]at e;cases e
 |some o=>
  rw[q]at e;have u:(b,o)=p:=Yo e;subst u;exact⟨l,q⟩
theorem Inv.pinned(I:Inv X pz σ H s)(u:∀b∈fp,FpOk X pz H b)(w:∀b∈fp,∃o,s.heap.get? b=some o/\∀v,o.data≠.cell v):Inv X (pz++VA fp s.heap) σ H s:=
 I.pins_of λp y=>(XZ.mp y).elim (λz=>I.pin p (Zs _ z)) λz=>by
  obtain⟨j,e⟩:=QQ z;obtain⟨f0,f1,f2,_⟩:=u p.1 j;obtain⟨o,l,d⟩:=w p.1 j;rw[e]at l;cases l;exact⟨e,f0,f1,f2,d⟩
theorem Inv.unpinned(I:Inv X (pz++pl) σ H s):Inv X pz σ H s:=I.pins_of λp j=>I.pin p (Zs _ (List.mem_append_left _ j))
theorem GN{l:Expr}{O:List Stmt}{wi:TI}{g:TG}{tb:TS}{G:Pos}(Y:PassesOwn (X4 X.prog X.w) X.A X.env X.xe)(hc:X.calm=true)(hi:PI X tg l wi)(hg:PG X tg g)(w:PSs X O tb)
  (hs:∀x,AF l X.env x=pure x:=by intro _;rfl):PS X (.For tg l O [] G) (tFor wi g tb):=by
 intro R s σ H D I h;refine wpAny_For (thn (hi R s σ H _ I h) λv s1 h1=>thn h1 λitv s2 h2=>?_) hs;obtain⟨it,Z,tn,J,H2,e,I2,T,M,f2,W,⟨m0,w0⟩,A⟩:=h2;subst e;have y:∀{L:Hp},(∀b∈Z,L b=none)->∀b∈Z,FpOk X R L b:=λhn b w=>⟨hn b w,(f2 b w).2⟩;refine codeAny_forLoop_any (λn s'=>∃i z L,Inv X R z L s'/\tn i s'.heap/\(∀b∈Z,L b=none)/\W i n z L) ?_ m0 ⟨0,σ,H2,I2,M,λb w=>(f2 b w).1,w0⟩;rintro n s3 ⟨i,c,F,I3,st3,B,w3⟩;rcases A i n c F w3 with⟨C,qn⟩|⟨go,N,hN,step⟩
 .refine VX Y (thn (T.done X rfl rfl rfl hc i R s3 c F X.xe I3 (y B) st3 C) λr s4 ⟨Q,I4⟩=>?_);subst Q;exact UH ⟨c,F,I4,qn⟩
 .refine VX Y (thn (T.item X rfl rfl rfl hc i R s3 c F X.xe I3 (y B) st3 go) λr s4 ⟨u,Q,h4⟩=>?_);subst Q;refine VX Y (thn h4 λ_ s5 ⟨x,H5,I5,r5,y5,U,S⟩=>?_);have a:=I5.pinned (y S) (T.obj _ _ U);refine VX Y (thn (hg _ s5 c H5 x u _ a r5 (step x H5 y5)) λ_ s6 ⟨σ6,H6,I6,q6⟩=>?_);refine VX Y (thn (w _ s6 σ6 H6 _ I6 q6) λf s7 P=>?_);have again:∀{j:St} {q:Hp},Inv X (R++VA Z s5.heap) j q s7->N j q->∃m,m<n/\∃i z L,Inv X R z L s7/\tn i s7.heap/\(∀b∈Z,L b=none)/\W i m z L:=fun{j q} p E=>by
   obtain⟨m',hm,w7⟩:=hN j q E;refine⟨m',hm,i+1,j,q,p.unpinned,T.keep _ _ _ U λb w o e=>(p.pin (b,o) (Zs _ (Zs _ (Bo w e)))).1,λb w=>?_,w7⟩;obtain⟨o,e,d⟩:=T.obj _ _ U b w;exact(p.pin (b,o) (Zs _ (Zs _ (Bo w e)))).2.1
  cases f with
  |next=>obtain⟨j,q,p,E⟩:=P;exact again p E
  |cont=>obtain⟨j,q,p,E⟩:=P;exact again p E
  |brk=>obtain⟨j,q,p,P⟩:=P;exact⟨j,q,p.unpinned,P⟩
  |ret v=>obtain⟨x7,j,q,p,r7,P⟩:=P;exact⟨x7,j,q,p.unpinned,r7,P⟩
end
abbrev R2:=V->V->Hp->VK->Prop
def OpR(X:Cx)(f:Value->Value->Sem Value)(r:R2):Prop:=
 ∀(j:List (Addr×Obj))(s:X0)(l:St)(H:Hp)(x y:V)(v u:Value)(Q:VK),Inv X j l H s->RelV x v->RelV y u->r x y H Q->
  X3 (X4 X.prog X.w) X.A (f v u) (EP X j l Q) X.xe s
def UnR(X:Cx)(f:Value->Sem Value)(r:V->Hp->VK->Prop):Prop:=
 ∀(j:List (Addr×Obj))(s:X0)(l:St)(H:Hp)(x:V)(v:Value)(Q:VK),Inv X j l H s->RelV x v->r x H Q->
  X3 (X4 X.prog X.w) X.A (f v) (EP X j l Q) X.xe s
def YI(X:Cx)(f:Value)(r:List V->Hp->VK->Prop):Prop:=
 ∀(j:List (Addr×Obj))(s:X0)(l:St)(H:Hp)(u:List V)(w:List Value)(Q:VK),Inv X j l H s->Vals u w->r u H Q->
  X3 (X4 X.prog X.w) X.A (call f w) (EP X j l Q) X.xe s
noncomputable def tOp(r:R2)(l tb:TE):TE:=λj H Q=>l j H λx u=>tb j u λy w=>r x y w Q
noncomputable def tUn(r:V->Hp->VK->Prop)(j:TE):TE:=λl H Q=>j l H λx u=>r x u Q
noncomputable def rI(C:Int->Int->Prop)(g:Int->Int->V):R2:=λx y H Q=>∃i j,x=.int i/\y=.int j/\C i j/\Q (g i j) H
noncomputable def rI0(g:Int->Int->V):R2:=λx y H Q=>∃i j,x=.int i/\y=.int j/\Q (g i j) H
noncomputable def rU(g:Int->V):V->Hp->VK->Prop:=λx H Q=>∃i,x=.int i/\Q (g i) H
section
variable{X:Cx}{a b c:Expr}{ta tb tc:TE}{pos:Pos}
theorem binT(q:PE X a ta)(p:PE X b tb){m:List (Addr×Obj)}{s:X0}{j:St}{H:Hp}{R:V->V->Hp->Prop}(I:Inv X m j H s)
  (h:ta j H λx d=>tb j d λy l=>R x y l){Q:Value->X0->Prop} {f:Value->Value->Sem Value}
  (e:∀v u g x y l,Inv X m j l g->RelV x v->RelV y u->R x y l->X3 (X4 X.prog X.w) X.A (f v u) Q X.xe g):
  X3 (X4 X.prog X.w) X.A (eval a X.env) (λv w=>X3 (X4 X.prog X.w) X.A (eval b X.env) (λu z=>X3 (X4 X.prog X.w) X.A (f v u) Q X.xe z) X.xe w) X.xe s:=by
 refine thn (q m s j H _ I h) λv L ⟨x,d,N,O,P⟩=>?_;refine thn (p m L j d _ N P) λu g ⟨y,l,T,U,W⟩=>?_;exact e v u g x y l T O U W
theorem QR{j:Uj}{r:R2}(l:OpR X (YE j) r)(w:PE X a ta)(z:PE X b tb):PE X (.BinOp a j b pos) (tOp r ta tb):=by
 intro m s g H Q I h;exact wpAny_BinOp (binT w z I h λv u d x y f p e L q=>l m d g f x y v u Q p e L q)
theorem QS{j:UnaryOp}{r:V->Hp->VK->Prop}(w:UnR X (unaryOp j) r)(y:PE X a ta):PE X (.UnaryOp j a pos) (tUn r ta):=by
 intro l s u H Q I h;exact UnaryOp_ (thn (y l s u H _ I h) λv z ⟨x,m,g,d,f⟩=>w l z u m x v Q g d f)
theorem opI{f:Value->Value->Sem Value}{C:Int->Int->Prop}{g:Int->Int->Int}
  (rule:∀(i j:Int)(t u:Tok)(s:X0)(Q:Value->X0->Prop)(E:Value->X0->Prop),C i j->Q (.int (g i j) s.toks) {s with toks:=s.toks+1}->X3 (X4 X.prog X.w) X.A (f (.int i t) (.int j u)) Q E s):
  OpR X f (rI C λi j=>.int (g i j)):=by
 intro d s p H x y v u Q I l w h;obtain⟨i,j,rfl,rfl,z,q⟩:=h;obtain⟨t,rfl⟩:=l;obtain⟨m,rfl⟩:=w;exact rule i j t m s _ _ z ⟨.int (g i j),H,I.tok _,⟨_,rfl⟩,q⟩
theorem opI0{f:Value->Value->Sem Value}{g:Int->Int->Int}
  (rule:∀(i j:Int)(t u:Tok)(s:X0)(Q:Value->X0->Prop)(E:Value->X0->Prop),Q (.int (g i j) s.toks) {s with toks:=s.toks+1}->X3 (X4 X.prog X.w) X.A (f (.int i t) (.int j u)) Q E s):
  OpR X f (rI0 λi j=>.int (g i j)):=by
 intro m s d H x y v u Q I l w h;obtain⟨i,j,rfl,rfl,q⟩:=h;obtain⟨t,rfl⟩:=l;obtain⟨z,rfl⟩:=w;exact rule i j t z s _ _ ⟨.int (g i j),H,I.tok _,⟨_,rfl⟩,q⟩
theorem opB0{f:Value->Value->Sem Value}{g:Int->Int->Bool}
  (rule:∀(i j:Int)(t u:Tok)(s:X0)(Q:Value->X0->Prop)(E:Value->X0->Prop),Q (.bool (g i j)) s->X3 (X4 X.prog X.w) X.A (f (.int i t) (.int j u)) Q E s):
  OpR X f (rI0 λi j=>.bl (g i j)):=by
 intro m s d H x y v u Q I l w h;obtain⟨i,j,rfl,rfl,q⟩:=h;obtain⟨t,rfl⟩:=l;obtain⟨z,rfl⟩:=w;exact rule i j t z s _ _ ⟨.bl (g i j),H,I,rfl,q⟩
noncomputable def CPow(i j:Int):Prop:=0<=j/\j<=1000000/\i.natAbs<2^64
noncomputable def CMul(i j:Int):Prop:=(-(2^64)<i/\i<2^64)\/(-(2^64)<j/\j<2^64)
theorem CMul.ok(h:CMul i j):IntMulOk i j:=by
 rcases h with⟨l,u⟩|⟨l,u⟩
 .exact .of_left (intBits_le_64 l u)
 .exact .of_right (intBits_le_64 l u)
theorem QT:OpR X (YE .Add) (rI0 λi j=>.int (i+j)):=opI0 λ_ _ _ _ _ _ _ q=>add_int q
theorem QU:OpR X (YE .Sub) (rI0 λi j=>.int (i - j)):=opI0 λ_ _ _ _ _ _ _ q=>sub_int q
theorem QV:OpR X (YE .Mult) (rI CMul λi j=>.int (i*j)):=opI λ_ _ _ _ _ _ _ l q=>mul_int q l.ok
theorem QW:OpR X (YE .Mod) (rI (λ_ j=>0<j) λi j=>.int (i%j)):=opI λi j _ _ _ _ _ l q=>by
 have u:(0:Int)<j:=l;exact mod_int' (by lia) (by rw[Int.fmod_eq_emod_of_nonneg i (by lia)];exact q)
theorem QX:OpR X (YE .Pow) (rI CPow λi j=>.int (i^j.toNat)):=opI λ_ _ _ _ _ _ _ l q=>pow_int_small l.1 l.2.1 l.2.2 q
theorem QY:OpR X (YE .LShift) (rI CPow λi j=>.int (i*2^j.toNat)):=opI λ_ _ _ _ _ _ _ l q=>lshift_int_small l.1 l.2.1 l.2.2 q
theorem unI{f:Value->Sem Value}{g:Int->Int}
  (rule:∀(i:Int)(t:Tok)(s:X0)(Q:Value->X0->Prop)(E:Value->X0->Prop),Q (.int (g i) s.toks) {s with toks:=s.toks+1}->X3 (X4 X.prog X.w) X.A (f (.int i t)) Q E s):
  UnR X f (rU λi=>.int (g i)):=by
 intro l s u H x v Q I j h;obtain⟨i,rfl,q⟩:=h;obtain⟨t,rfl⟩:=j;exact rule i t s _ _ ⟨.int (g i),H,I.tok _,⟨_,rfl⟩,q⟩
theorem QZ:UnR X (unaryOp .USub) (rU λi=>.int (-i)):=unI λ_ _ _ _ _ q=>neg_int q
end
noncomputable def scal:V->V->Bool
 |.non,.non=>true|.non,.int _=>true|.int _,.non=>true|.non,.bl _=>true|.bl _,.non=>true|.non,.str _=>true|.str _,.non=>true
 |.int _,.int _=>true|.bl _,.bl _=>true|.str _,.str _=>true|.byt _,.byt _=>true
 |.int _,.str _=>true|.str _,.int _=>true|.bl _,.str _=>true|.str _,.bl _=>true
 |_,_=>false
def rEq:R2:=λx y H Q=>scal x y=true/\Q (.bl (decide (x=y))) H
def rNe:R2:=λx y H Q=>scal x y=true/\Q (.bl (!decide (x=y))) H
theorem GO:decide (V.int i=V.int j)=(i==j):=by
 rw[AY];simp
theorem GP:decide (V.bl i=V.bl j)=(i==j):=by
 rw[AY];simp
theorem GQ:decide (V.str i=V.str j)=(i==j):=by
 rw[AY];simp
theorem GR:decide (V.byt i=V.byt j)=(i.toList==j.toList):=by
 rw[AY];cases i;cases j;simp
section
variable{X:Cx}{a b c:Expr}{ta tb tc:TE}{pos:Pos}
theorem XJ{k:Bool}(I:Inv X pz σ H s)(q:Q (.bl k) H)(e:k=k'):EP X pz σ Q (.bool k') s:=by
 subst e;exact⟨.bl k,H,I,rfl,q⟩
theorem R0:OpR X (Y4 .Eq) rEq:=by
 intro g s d H x y v u Q I m l h;obtain⟨z,q⟩:=h;cases x with
 |non=>
  cases m;cases y with
  |non=>cases l;exact PySem.EqNone.eq_none_none (XJ I q (by simp))
  |bl j=>cases l;exact PySem.EqNone.eq_none_bool (XJ I q (by simp))
  |int j=>obtain⟨w,rfl⟩:=l;exact PySem.EqNone.eq_none_int (XJ I q (by simp))
  |str j=>obtain⟨w,rfl⟩:=l;exact PySem.EqNone.eq_none_str (XJ I q (by simp))
  |_=>exact absurd (show false=true from z) Xu
 |bl i=>
  cases m;cases y with
  |non=>cases l;exact PySem.EqNone.eq_bool_none (XJ I q (by simp))
  |bl j=>cases l;exact eq_bool (XJ I q GP)
  |str j=>obtain⟨w,rfl⟩:=l;exact PySem.EqMixed.eq_bool_str (XJ I q (by simp))
  |_=>exact absurd (show false=true from z) Xu
 |int i=>
  obtain⟨t,rfl⟩:=m;cases y with
  |non=>cases l;exact PySem.EqNone.eq_int_none (XJ I q (by simp))
  |int j=>obtain⟨w,rfl⟩:=l;exact eq_int (XJ I q GO)
  |str j=>obtain⟨w,rfl⟩:=l;exact PySem.EqMixed.eq_int_str (XJ I q (by simp))
  |_=>exact absurd (show false=true from z) Xu
 |str i=>
  obtain⟨t,rfl⟩:=m;cases y with
  |non=>cases l;exact PySem.EqNone.eq_str_none (XJ I q (by simp))
  |bl j=>cases l;exact PySem.EqMixed.eq_str_bool (XJ I q (by simp))
  |int j=>obtain⟨w,rfl⟩:=l;exact PySem.EqMixed.eq_str_int (XJ I q (by simp))
  |str j=>obtain⟨w,rfl⟩:=l;exact eq_str (XJ I q GQ)
  |_=>exact absurd (show false=true from z) Xu
 |byt i=>
  obtain⟨t,rfl⟩:=m;cases y with
  |byt j=>obtain⟨w,rfl⟩:=l;exact PySem.W.eq_bytes (XJ I q GR)
  |_=>exact absurd (show false=true from z) Xu
 |_=>cases y<;>exact absurd (show false=true from z) Xu
theorem R3:OpR X (Y4 .NotEq) rNe:=by
 intro g s d H x y v u Q I m l h;obtain⟨z,q⟩:=h;cases x with
 |non=>
  cases m;cases y with
  |non=>cases l;exact PySem.EqNone.ne_none_none (XJ I q (by simp))
  |bl j=>cases l;exact PySem.EqNone.ne_none_bool (XJ I q (by simp))
  |int j=>obtain⟨w,rfl⟩:=l;exact PySem.EqNone.ne_none_int (XJ I q (by simp))
  |str j=>obtain⟨w,rfl⟩:=l;exact PySem.EqNone.ne_none_str (XJ I q (by simp))
  |_=>exact absurd (show false=true from z) Xu
 |bl i=>
  cases m;cases y with
  |non=>cases l;exact PySem.EqNone.ne_bool_none (XJ I q (by simp))
  |bl j=>cases l;exact ne_bool (XJ I q (congrArg not GP))
  |str j=>obtain⟨w,rfl⟩:=l;exact PySem.EqMixed.ne_bool_str (XJ I q (by simp))
  |_=>exact absurd (show false=true from z) Xu
 |int i=>
  obtain⟨t,rfl⟩:=m;cases y with
  |non=>cases l;exact PySem.EqNone.ne_int_none (XJ I q (by simp))
  |int j=>obtain⟨w,rfl⟩:=l;exact ne_int (XJ I q (congrArg not GO))
  |str j=>obtain⟨w,rfl⟩:=l;exact PySem.EqMixed.ne_int_str (XJ I q (by simp))
  |_=>exact absurd (show false=true from z) Xu
 |str i=>
  obtain⟨t,rfl⟩:=m;cases y with
  |non=>cases l;exact PySem.EqNone.ne_str_none (XJ I q (by simp))
  |bl j=>cases l;exact PySem.EqMixed.ne_str_bool (XJ I q (by simp))
  |int j=>obtain⟨w,rfl⟩:=l;exact PySem.EqMixed.ne_str_int (XJ I q (by simp))
  |str j=>obtain⟨w,rfl⟩:=l;exact ne_str (XJ I q (congrArg not GQ))
  |_=>exact absurd (show false=true from z) Xu
 |byt i=>
  obtain⟨t,rfl⟩:=m;cases y with
  |byt j=>obtain⟨w,rfl⟩:=l;exact PySem.W.ne_bytes (XJ I q (congrArg not GR))
  |_=>exact absurd (show false=true from z) Xu
 |_=>cases y<;>exact absurd (show false=true from z) Xu
theorem R4:OpR X (Y4 .Lt) (rI0 λi j=>.bl (decide (i<j))):=opB0 λ_ _ _ _ _ _ _ q=>lt_int q
theorem R5:OpR X (Y4 .LtE) (rI0 λi j=>.bl (decide (i<=j))):=opB0 λ_ _ _ _ _ _ _ q=>le_int q
theorem R6:OpR X (Y4 .Gt) (rI0 λi j=>.bl (decide (j<i))):=opB0 λ_ _ _ _ _ _ _ q=>gt_int q
theorem R7:OpR X (Y4 .GtE) (rI0 λi j=>.bl (decide (j<=i))):=opB0 λ_ _ _ _ _ _ _ q=>ge_int q
theorem R8:OpR X (Y4 .Is) (λx y H Q=>y=.non/\Q (.bl (decide (x=.non))) H):=by
 intro w s z H x y v u Q I j l h;obtain⟨rfl,q⟩:=h;cases l;refine is_none_gen (XJ I q ?_);cases x<;>first
  |(cases j;rfl)
  |(obtain⟨t,rfl⟩:=j;rfl)
theorem R9:OpR X (Y4 .IsNot) (λx y H Q=>y=.non/\Q (.bl (!decide (x=.non))) H):=by
 intro w s z H x y v u Q I j l h;obtain⟨rfl,q⟩:=h;cases l;refine isnot_none_gen (XJ I q ?_);cases x<;>first
  |(cases j;rfl)
  |(obtain⟨t,rfl⟩:=j;rfl)
theorem Ra{j:CmpOp}{r:R2}(l:OpR X (Y4 j) r)(w:PE X a ta)(z:PE X b tb)(m:behindInMarks j b=false):PE X (.Compare a [j] [b] pos) (tOp r ta tb):=by
 intro g s d H Q I h;exact wpAny_Compare1 (binT w z I h λv u f x y p e L N q=>l g f d p x y v u Q e L N q) m
noncomputable def GS(t:TE):TT:=λj H Q=>t j H λx l=>∃k,x=.bl k/\Q k l
theorem Rb{j:CmpOp}{r:R2}(m:OpR X (Y4 j) r)(g:PE X a ta)(d:PE X b tb)(f:behindInMarks j b=false):PT X (.Compare a [j] [b] pos) (GS (tOp r ta tb)):=by
 intro l s w H Q I h;refine wpAny_isTrue_Compare1 (thn (g l s w H _ I h) λv q ⟨x,p,L,N,O⟩=>thn (d l q w p _ L O) λu P ⟨y,R,T,U,W⟩=>
  thn (m l P w R x y v u _ T N U W) λc C ⟨z,Y,Z,A,k,e,B⟩=>?_) f
 subst e;cases A;exact ZA ⟨Y,Z,B⟩
noncomputable def CZ(r u:R2)(ta tb tc:TE):TE:=λj H Q=>ta j H λx w=>tb j w λy m=>r x y m λz l=>∃k,z=.bl k/\
 (if k=true then tc j l λg d=>u y g d Q else Q (.bl false) l)
theorem Rc{m j:CmpOp}{r f:R2}(O:OpR X (Y4 m) r)(g:OpR X (Y4 j) f)(P:PE X a ta)(R:PE X b tb)(T:PE X c tc)
  (U:lastMarks [m,j] [b,c]=false:=by with_unfolding_all rfl):PE X (.Compare a [m,j] [b,c] pos) (CZ r f ta tb tc):=by
 intro l s w H Q I h;refine Compare_chain (thn (P l s w H _ I h) λv W ⟨x,Y,Z,A,B⟩=>chain_link (thn (R l W w Y _ Z B) λu C ⟨y,D,E,q,F⟩=>
  thn (O l C w D x y v u _ E A q F) λd G ⟨z,p,L,J,k,e,N⟩=>?_)) U
 subst e;cases J;refine ZA ?_;cases k with
 |false=>exact ite_ff ⟨.bl false,p,L,rfl,N⟩
 |true=>exact ite_tt (chain_last (thn (T l G w p _ L N) λM S ⟨o,i,n,r4,q4⟩=>g l S w i y o u M Q n q r4 q4))
theorem Re{m j:CmpOp}{r f:R2}(O:OpR X (Y4 m) r)(g:OpR X (Y4 j) f)(P:PE X a ta)(R:PE X b tb)(T:PE X c tc)
  (U:lastMarks [m,j] [b,c]=false:=by with_unfolding_all rfl):PT X (.Compare a [m,j] [b,c] pos) (GS (CZ r f ta tb tc)):=by
 intro l s w H Q I h;refine isTrue_chain (thn (P l s w H _ I h) λv W ⟨x,Y,Z,A,B⟩=>test_link (thn (R l W w Y _ Z B) λu C ⟨y,D,E,q,F⟩=>
  thn (O l C w D x y v u _ E A q F) λd G ⟨z,p,L,J,k,e,N⟩=>?_)) U
 subst e;cases J;refine ZA ?_;cases k with
 |false=>
  obtain⟨k',M,S⟩:=N;cases M;exact ite_ff ⟨p,L,S⟩
 |true=>
  refine ite_tt (test_last (thn (T l G w p _ L N) λo i ⟨n,H4,I4,r4,q4⟩=>thn (g l i w H4 y n u o _ I4 q r4 q4) λd' s5 ⟨z2,H5,I5,r5,k2,e2,q5⟩=>?_));subst e2;cases r5;exact ZA ⟨H5,I5,q5⟩
theorem Wn:(sizeLine:Nat)<2^63:=by rw[sizeLine_eq];decide
theorem Rf:OpR X (YE .Add) (λx y H Q=>∃i j,x=.str i/\y=.str j/\i.length+j.length<=sizeLine/\Q (.str (i++j)) H):=by
 intro g s d H x y v u Q I l w h;obtain⟨i,j,rfl,rfl,z,q⟩:=h;obtain⟨t,rfl⟩:=l;obtain⟨m,rfl⟩:=w;exact add_str (λm f=>⟨.str (i++j),H,I.tok _,⟨_,rfl⟩,q⟩) z
theorem U9(r:Vals [x] us):∃u,us=[u]/\RelV x u:=by
 cases r with
 |cons j l=>cases l;exact⟨_,rfl,j⟩
theorem Wo(r:Vals [x,y] us):∃u j,us=[u,j]/\RelV x u/\RelV y j:=by
 cases r with
 |cons l w=>
  cases w with
  |cons z m=>cases m;exact⟨_,_,rfl,l,z⟩
theorem Rg(w:X.calm=true):YI X (.builtin "max") (fun l H Q=>∃i j,l=[.int i,.int j]/\Q (.int (if j>i then j else i)) H):=by
 intro y s z H l m Q I r h;obtain⟨i,j,rfl,q⟩:=h;obtain⟨u,g,rfl,⟨t,rfl⟩,⟨d,rfl⟩⟩:=Wo r;refine max_two_ints (I.ok.hd w) λf p k=>⟨_,H,I.kept k,?_,q⟩;by_cases hj:j>i
 .rw[if_pos hj,if_pos hj];exact⟨_,rfl⟩
 .rw[if_neg hj,if_neg hj];exact⟨_,rfl⟩
theorem Rh(w:X.calm=true):YI X (.builtin "min") (fun l H Q=>∃i j,l=[.int i,.int j]/\Q (.int (if j<i then j else i)) H):=by
 intro y s z H l m Q I r h;obtain⟨i,j,rfl,q⟩:=h;obtain⟨u,g,rfl,⟨t,rfl⟩,⟨d,rfl⟩⟩:=Wo r;refine min_two_ints (I.ok.hd w) λf p k=>⟨_,H,I.kept k,?_,q⟩;by_cases hj:j<i
 .rw[if_pos hj,if_pos hj];exact⟨_,rfl⟩
 .rw[if_neg hj,if_neg hj];exact⟨_,rfl⟩
end
structure ObjM (h:Heap)(x dx C:Addr)(mA:Str->Option Value):Prop where
 obj:h.get? x=some (Cy C dx)
 ns:h.Ns1 dx mA
 ne:dx≠x
set_option tactic.hygienic true in
theorem Ri{h:Heap}{l:Addr}{u:Str->Option Value}(n:h.Ns1 l u):∃w,h.get? l=some w/\∀name,CA name w=some (u name):=by
 obtain⟨o,m,N,g,d,c,_,f⟩:=n;refine⟨o,g,λname=>?_⟩;have e:=f name;unfold nsFind findBy at e;rw[<-Array.find?_toList]at e;unfold CA;rw[d];dsimp only;split
 .rename_i y q
  rw[q]at e;exact congrArg some e
 .rename_i q
  rw[q]at e;have a:m.toList.any (·.refKey)=false:=by
   rw[List.any_eq_false];intro y p;obtain⟨z,t,j⟩:=c y (Array.mem_toList_iff.mp p);simp[DictEntry.refKey,j]
  have L:¬m.toList.any (·.refKey)=true:=by rw[a];exact Xu
  rw[if_neg L];exact congrArg some e
theorem ObjM.look(I:ObjM h x dx C mA):∃j,PySem.W.InstAt h x (Cy C dx) C (some j)/\∀name,CA name j=some (mA name):=
 let⟨j,ho,hl⟩:=Ri I.ns
 ⟨j,⟨I.obj,rfl,rfl,ho⟩,hl⟩
section
variable{prog:Xh}{w:Xd}{A:Xn}{E:Value->X0->Prop}{s:X0}{K:X1}{x dx C f:Addr}{mA:Str->Option Value}{name:Str}{v:Value}
end
noncomputable def putF(f:Str)(v:V):List (Str×V)->List (Str×V)
 |[]=>[(f,v)]
 |(g,x)::r=>if g=f then(g,v)::r else(g,x)::putF f v r
theorem RelO.some_of(r:RelO (some v) o):∃u,o=some u/\RelV v u:=by
 cases o with
 |none=>exact(show False from r).elim
 |some u=>exact⟨u,rfl,r⟩
section
variable{P:Xh}{w:Xd}{H H':Hp}{h h':Heap}{a C dx:Addr}{fs fs':List (Str×V)}
theorem GT(l:HOk P w H h)(e:H a=some (.ins C dx fs)):∃j,ObjM h a dx C j/\(∀f,RelO (fs.lookup f) (j f))/\PySem.Within j (fs.map (·.1))/\fs.length<=1000/\H dx=some (.own a):=by
 obtain⟨d,z,ne,u,j,n,r,q⟩:=(show ObjOk P w H h a (.ins C dx fs)from l a _ e);exact⟨j,⟨u,n,ne⟩,r,q,z,d⟩
end
structure Cls (K:X1)(C:Addr):Prop where
 pg:PySem.W.plainGet K C Vv=true
 hd:PySem.W.hasDictIn K C=true
 po:PySem.W.plainOver K C=true
 sa:Wb K (.ref C) "__setattr__"=some (some (.builtin "object.__setattr__"))
theorem Cls.get{K:X1}(c:Cls K C)(f:Str):PySem.W.plainGet K C f=true:=c.pg
noncomputable def D0(K:X1)(C:Addr)(f:Str):Prop:=Wb K (.ref C) f=some none
structure Meth (K:X1)(C:Addr)(m:Str)(f:Addr):Prop where
 at_:Wb K (.ref C) m=some (some (.ref f))
 fn:PySem.W.isFn K (.ref f)=true
 kp:YV K (.ref f)=true
section
variable{X:Cx}{pz:List (Addr×Obj)}{σ:St}{H:Hp}{s:X0}{a C dx:Addr}{fs:List (Str×V)}{f:Str}{v:V}{A:Xn}{E:Value->X0->Prop}
end
section
variable{X:Cx}{o e value:Expr}{f:Str}{pos pos' tpos:Pos}{ta tv:TE}
end
section
variable{X:Cx}{pz:List (Addr×Obj)}{σ:St}{H:Hp}{s:X0}{A:Xn}{E:Value->X0->Prop}{Q:Value->X0->Prop}{c:Value}{b:Bool}
inductive TyOf (K:X1)(H:Hp):V->Value->Prop where
 |non:TyOf K H .non (.type "NoneType")
 |bl (x:Bool):TyOf K H (.bl x) (.type "bool")
 |int (i:Int):TyOf K H (.int i) (.type "int")
 |str (x:Str):TyOf K H (.str x) (.type "str")
 |flt (x:UInt64):TyOf K H (.flt x) (.type "float")
 |lst {a:Addr} {xs:List V} (e:H a=some (.lst xs)):TyOf K H (.ref a) (.type "list")
 |frz {a:Addr} {o:Obj} {xs:List V} (e:H a=some (.frz o (.lst xs))):TyOf K H (.ref a) (.type "list")
 |tup {a:Addr} {xs:List V} (e:H a=some (.tup xs)):TyOf K H (.ref a) (.type "tuple")
 |dK {a:Addr} {kvs:List (Key×V)} (e:H a=some (.dK kvs)):TyOf K H (.ref a) (.type "dict")
 |dT {a:Addr} {kvs:List (List Key×V)} (e:H a=some (.dT kvs)):TyOf K H (.ref a) (.type "dict")
 |ins {a C dx:Addr} {fs:List (Str×V)} (e:H a=some (.ins C dx fs))(cl:Cls K C)(ha:Wb K (.ref C) "__class__"=some (some (.builtin "object.__class__")))
   (hn:PySem.W.specialIn K (.builtin "object.__class__") "__get__"=some (some (.builtin "getset_descriptor.__get__")))(htk:PySem.W.takesIn K (.builtin "object.__class__")=some true)
   (hm:PySem.W.mroIn K C (.type "object")=some true):TyOf K H (.ref a) (.ref C)
theorem Rj{t:Value}(I:Inv X pz σ H s)(j:RelV x u)(ty:TyOf X.K H x t)(e:U6 X.K t c=some b)(h:∀L,Q (.bool b) {s with toks:=L}):
  X3 (X4 X.prog X.w) A (call (.builtin "isinstance") [u,c]) Q E s:=by
 cases ty with
 |non=>cases(show u=US from j);exact Zu PySem.W.kitx_none I.kIn Zk e (λz=>nomatch z) h
 |bl y=>cases(show u=UT y from j);exact Zu PySem.W.kitx_bool I.kIn Zk e (λz=>nomatch z) h
 |int i=>obtain⟨t,q⟩:=(show∃t,u=Wh i t from j);cases q;exact Zu PySem.W.kitx_int I.kIn Zk e (λz=>nomatch z) h
 |str y=>obtain⟨t,q⟩:=(show∃t,u=Yv y t from j);cases q;exact Zu PySem.W.kitx_str I.kIn Zk e (λz=>nomatch z) h
 |flt y=>obtain⟨t,q⟩:=(show∃t,u=Value.float y t from j);cases q;exact Zu PySem.W.kitx_float I.kIn Zk e (λz=>nomatch z) h
 | @lst a g l=>
  cases(show u=XE a from j);obtain⟨_,_,n,_,w⟩:=(show ObjOk X.prog X.w H s.heap a (.lst g)from I.hok a _ l);exact Zu AT I.kIn ⟨_,w,rfl⟩ e (λz=>nomatch z) h
 | @frz a N g l=>
  cases(show u=XE a from j);obtain⟨_,_,_,n,_,w⟩:=(show ObjOk X.prog X.w H s.heap a (.frz N (.lst g))from I.hok a _ l);exact Zu AT I.kIn ⟨_,w,rfl⟩ e (λz=>nomatch z) h
 | @tup a g l=>
  cases(show u=XE a from j);obtain⟨_,_,_,p⟩:=(show ObjOk X.prog X.w H s.heap a (.tup g)from I.hok a _ l);obtain⟨o,w,d,_⟩:=p.1;exact Zu PySem.W.kitx_tuple I.kIn ⟨o,w,d⟩ e (λz=>nomatch z) h
 | @dK a m l=>
  cases(show u=XE a from j);obtain⟨_,_,Y,_,p⟩:=(show ObjOk X.prog X.w H s.heap a (.dK m)from I.hok a _ l);obtain⟨o,P,R,w,d,_⟩:=p;exact Zu AU I.kIn ⟨o,w,d.1⟩ e (λz=>nomatch z) h
 | @dT a m l=>
  cases(show u=XE a from j);obtain⟨_,_,g,_,o,P,R,w,d,_⟩:=(show ObjOk X.prog X.w H s.heap a (.dT m)from I.hok a _ l);exact Zu AU I.kIn ⟨o,w,d.1⟩ e (λz=>nomatch z) h
 | @ins a C Z fs l cl T U f W=>
  cases(show u=XE a from j);obtain⟨B,O,_⟩:=GT I.hok l;obtain⟨D,J,_⟩:=O.look;exact Zu (PySem.W.kitx_own (cl.get _) cl.hd T U f W) I.kIn J e (λz=>nomatch z) h
end
structure Room (k:Nat)(A:Xn):Prop where
 hd:A.handled=none
 dp:A.depth+3*k+5<recursionLimit
 un:A.units+16*k+200<cLine
theorem Room.mono{k:Nat}(r:Room k A)(h:j<=k):Room j A:=⟨r.hd,by have:=r.dp;lia,by have:=r.un;lia⟩
theorem Room.deeper{k:Nat}(r:Room (k+1) A)(j:Env):Room k (A.deeper j):=
 ⟨r.hd,by have:=r.dp;show A.depth+1+3*k+5<_;lia,by have:=r.un;show A.units+3+16*k+200<_;lia⟩
theorem Room.depth{k:Nat}(r:Room k A):A.depth<recursionLimit:=by have:=r.dp;lia
noncomputable def tNil:TA:=λ_ H Q=>Q [] H
noncomputable def Ua(l:TE)(tr:TA):TA:=λj H Q=>l j H λx u=>tr j u λw y=>Q (x::w) y
section
variable{X:Cx}{e:Expr}{es:List Expr}{te:TE}{t:TA}{pos:Pos}
theorem pa_nil:PA X [] tNil:=λ_ _ _ _ H Q I h=>Wj ⟨[],H,I,.nil,h⟩
theorem YR(w:PE X e te)(y:PA X es t)(z:Xs (e::es) X.env=(false,eval e X.env)::Xs es X.env:=by rfl):PA X (e::es) (Ua te t):=by
 intro pos j s l H Q I h;rw[z];show X3 _ _ (spliced ((false,eval e X.env)::Yl pos (Xs es X.env))) _ _ s;refine Wi (thn (w j s l H _ I h) λu m ⟨x,g,d,c,f⟩=>?_);exact thn (y pos j m l g _ d f) λP R ⟨q,p,L,N,O⟩=>⟨x::q,p,L,.cons c N,O⟩
def tTup(t:TA):TE:=λu H Q=>t u H λj l=>j.length<=sizeLine/\∀p,l p=none->Q (.ref p) (upd l p (.tup j))
def tLst(t:TA):TE:=λu H Q=>t u H λj l=>j.length<=sizeLine/\∀p,l p=none->Q (.ref p) (upd l p (.lst j))
theorem Rk{y}(h:PA X es t):PE X (.Tuple es y pos) (tTup t):=by
 intro m s g H Q I d;refine wpAny_Tuple_spliced (thn (h pos m s g H _ I d) λc j ⟨f,l,w,r,z,q⟩=>⟨by rw[<-r.length];exact z,?_⟩)
 have p:l j.heap.objs.size=none:=w.hok.fresh (Xf _);refine⟨.ref j.heap.objs.size,upd l j.heap.objs.size (.tup f),w.laid (t':=j.toks) (λb u e=>XD _ e) (Xf _) ?_,rfl,q _ p⟩;exact⟨z,c,r,⟨_,Y1 _ rfl,rfl,_,rfl⟩,_,Y1 _ rfl,rfl⟩
theorem GU(h:PA X es t):PE X (.List es pos) (tLst t):=by
 intro y s m H Q I g;refine wpAny_List_spliced (thn (h pos y s m H _ I g) λd j ⟨c,l,w,r,z,q⟩=>⟨by rw[<-r.length];exact z,?_⟩)
 have f:l j.heap.objs.size=none:=w.hok.fresh (Xf _);refine⟨.ref j.heap.objs.size,upd l j.heap.objs.size (.lst c),w.laid (t':=j.toks) (λb u e=>XD _ e) (Xf _) ?_,rfl,q _ f⟩;exact⟨z,d,0,r,Y1 _ rfl⟩
end
abbrev Sp:=List V->Hp->VK->XK->Prop
abbrev CXT:=List Env->Hp->X0->XK->Value->X0->Prop
structure Env0 (P:Xh)(w:Xd)(K:X1)(mg:Str->Option Value)(base:Heap)(A:Xn)(outer:List Env)(s:X0)(H:Hp):Prop where
 frames:A.frames=some outer
 mod:Mod K mg base
 bs:∀b o,base.get? b=some o->s.heap.get? b=some o/\H b=none
 bsz:base.objs.size<=s.heap.objs.size
 funs:s.heap.FunFrames base outer
 frf:∀b∈frs outer,H b=none
 hok:HOk P w H s.heap
 bare:AllBare s.gens
def CE(j:List Env)(P:Xh)(w:Xd)(H:Hp)(s:X0)(Q:VK)(u:Value)(l:X0):Prop:=
 ∃v y,l.os=s.os/\AllBare l.gens/\Un (frs j) [] H y s.heap l.heap/\HOk P w y l.heap/\RelV v u/\Q v y
def CR(y:CXT)(j:List Env)(P:Xh)(w:Xd)(H:Hp)(s:X0)(Q:VK)(E:XK)(r:Result)(l:X0):Prop:=
 match r with
 |.ok (.ret u)=>CE j P w H s Q u l
 |.ok _=>False
 |.error e=>y j H s E e l
structure FnOk (P:Xh)(w:Xd)(K:X1)(mg:Str->Option Value)(base:Heap)(CX:CXT)(k:Nat)(f:Addr)(fd:Xi)(ps:List Str)(sp:Sp):Prop where
 len:∀vs H Q E,sp vs H Q E->vs.length=ps.length
 run:∀(A:Xn)(outer:List Env)(s:X0)(H:Hp)(args:Args)(us:List Value)(vs:List V)(Q:VK)(E:XK),Room k A->Env0 P w K mg base A outer s H->BindsTo s fd args (ps.zip us)->Vals vs us->sp vs H Q E->
  Z4 (X4 P w) A (.call (.ref f) args) (CR CX outer P w H s Q E) s
theorem FnOk.mono{K:X1}{k:Nat}(F:FnOk P w K mg base CX j f fd ps sp)(h:j<=k):
  FnOk P w K mg base CX k f fd ps sp:=⟨F.len,λA l s H u y z Q E m=>F.run A l s H u y z Q E (m.mono h)⟩
theorem FnOk.imp{K:X1}{k:Nat}(F:FnOk P w K mg base CX k f fd ps sp)
  (h:∀l H Q E,sp' l H Q E->sp l H Q E):FnOk P w K mg base CX k f fd ps sp':=
 ⟨λl H Q E q=>F.len l H Q E (h _ _ _ _ q),λA j s H u y l Q E z m g d c=>F.run A j s H u y l Q E z m g d (h _ _ _ _ c)⟩
section
variable{X:Cx}{pz:List (Addr×Obj)}{σ:St}{H:Hp}{s s':X0}
theorem Inv.env0(I:Inv X pz σ H s):Env0 X.prog X.w X.K X.mg X.base X.A X.stack s H:=
 ⟨I.ok.frames,I.ok.mod,I.bs,Y7 I.ok.bsz I.sz,I.stack,I.stkFree,I.hok,I.bare⟩
theorem Inv.after(I:Inv X pz σ H s)(h:CE X.stack X.prog X.w H s Q u s'):EP X pz σ Q u s':=by
 obtain⟨v,y,os,j,un,l,r,q⟩:=h;obtain⟨m,g,d,t,w⟩:=s';obtain rfl:w=s.os:=os;exact⟨v,y,I.call (h':=m) (L:=g) (P:=d) (O:=t) (y:=[]) un l j (λb z=>absurd z (by simp)),r,q⟩
end
noncomputable def Rm(l:Sp)(j:List V)(E:XK)(t:TA):TE:=λu H Q=>t u H λw y=>l (w++j) y Q E
noncomputable def Binds(K:X1)(w:Xi)(l:List Str)(u:List Value):Prop:=
 ∀(s:X0)(j:List Value),K.In s.heap->(j++u).length=l.length->BindsTo s w ⟨j,[]⟩ (l.zip (j++u))
theorem Binds.all{K:X1}(h:∀j:List Value,j.length=ps.length->bindArgs fd ⟨j,[]⟩=pure (ps.zip j)):Binds K fd ps []:=λs j _ l=>by
 rw[U4]at l ⊢;exact .of_eq (h j l)
def Wp(l:CXT)(X:Cx)(E:XK):Prop:=∀(u:List (Addr×Obj))(w:St)(H:Hp)(s:X0)(e:Value)(j:X0),Inv X u w H s->l X.stack H s E e j->X.xe e j
section
variable{X:Cx}{CX:CXT}{k:Nat}{f C:Addr}{fd:Xi}{ps:List Str}{sp:Sp}{dvs:List V}{ds:List Value}{E:XK}{x m:Str}{p pos apos:Pos}{e o:Expr}{es:List Expr}{ta:TE}{t:TA}
theorem Rn(F:FnOk X.prog X.w X.K X.mg X.base CX k f fd ps sp)(w:Room k X.A)(y:Binds X.K fd ps ds)(z:Vals dvs ds)(g:Wp CX X E)
  (I:Inv X pz σ H s)(r:Vals vs us)(h:sp (vs++dvs) H Q E):X3 (X4 X.prog X.w) X.A (call (.ref f) us) (EP X pz σ Q) X.xe s:=by
 have l:Vals (vs++dvs) (us++ds):=r.append z;have d:(us++ds).length=ps.length:=by rw[<-l.length];exact F.len _ _ _ _ h
 refine wpAny_call (Vb (F.run X.A X.stack s H ⟨us,[]⟩ (us++ds) (vs++dvs) Q E w I.env0 (y s us I.kIn d) l h) λr c j=>?_);cases r with
 |error e=>exact g pz σ H s e c I j
 |ok q=>
  cases q with
  |ret u=>exact I.after j
  |next=>exact XS j
  |brk=>exact XS j
  |cont=>exact XS j
theorem GV(F:FnOk X.prog X.w X.K X.mg X.base CX k f fd ps sp)(w:Room k X.A)(y:Gl X x)(z:X.mg x=some (.ref f))(g:YV X.K (.ref f)=true)(d:Binds X.K fd ps ds)(c:Vals dvs ds)(L:Wp CX X E)
  (N:PA X (e::es) t)(j:(x==("__debug__":Str))=false:=by decide)(O:Xs (e::es) X.env=(false,eval e X.env)::Xs es X.env:=by rfl)(l:(Yl pos (Xs es X.env)).any (·.1)=false:=by rfl):
  PE X (.Call (.Name x p) (e::es) [] pos) (Rm sp dvs E t):=by
 intro P s R H Q I h;refine Uk (Wl I y z ?_ j);refine PySem.W.callWith_K (h₀:=X.base) I.ok.mod.kin g (thn (N pos P s R H _ I h) λT U ⟨W,Y,u,r,q⟩=>⟨u.kIn,?_⟩) O l;exact Rn F w d c L u r q
structure Mk (K:X1)(C f:Addr):Prop where
 makes:PySem.W.makesIn K C=true
 init:Wb K (.ref C) "__init__"=some (some (.ref f))
 fn:PySem.W.isFn K (.ref f)=true
 kp:YV K (.ref C)=true
end
section
variable{X:Cx}{CX:CXT}{k:Nat}{f C:Addr}{fd:Xi}{ps ks:List Str}{sp:Sp}{E:XK}{x m:Str}{p pos apos kpos:Pos}{e o:Expr}{es:List Expr}{kws:List ZC}{te ta:TE}{t tk:TA}{nm:Option Str}
variable{g:List Value->List Value->List Value}{gV:List V->List V->List V}
end
structure FnScope (N P:List Str)(sc:Scope):Prop where
 kind:sc.kind=.function
 co:sc.isCoroutine=false
 gen:sc.isGenerator=false
 nd:N.Nodup
 pre:N.take P.length=P
 par:∀x∈P,sc.names.lookup x=some .local\/sc.names.lookup x=some .cell
 nofree:∀y∈sc.names,y.2≠.free
theorem mkSc {N P:List Str}{j:Scope}(a:j.kind=.function:=by rfl)(b:j.isCoroutine=false:=by rfl)(c:j.isGenerator=false:=by rfl)(d:N.Nodup:=by decide+kernel)(e:N.take P.length=P:=by rfl)(f:∀x∈P,j.names.lookup x=some .local\/j.names.lookup x=some .cell:=by decide+kernel)(g:∀y∈j.names,y.2≠.free:=by decide+kernel):FnScope N P j:=⟨a,b,c,d,e,f,g⟩
theorem GW{kindOf:Str->Option Ze}:∀{binds:List (Str×Value)} {m:Str->Option Value},(∀v,(x,v)∉binds)->bindL kindOf binds m x=m x
 |[],_,_=>rfl
 |(n,v)::r,m,h=>by
  unfold bindL;rw[GW λw j=>h w (XU _ j)];split
  .have:x≠n:=by rintro rfl;exact h v XY
   simp[this]
  .rfl
theorem GY{kindOf:Str->Option Ze}:∀{binds:List (Str×Value)} {m:Str->Option Value},(∀v,(x,v)∉binds)->bindC kindOf binds m x=m x
 |[],_,_=>rfl
 |(n,v)::r,m,h=>by
  unfold bindC;rw[GY λw j=>h w (XU _ j)];split
  .rfl
  .have:x≠n:=by rintro rfl;exact h v XY
   simp[this]
theorem GZ{kindOf:Str->Option Ze}:∀{P:List Str} {j:List Value} {i:Nat} {m:Str->Option Value},P.Nodup->P[i]?=some x->j[i]?=some v->kindOf x=some .local->
  bindL kindOf (P.zip j) m x=some v
 |[],_,_,_,_,h,_,_=>by simp at h
 |_::_,[],_,_,_,_,h,_=>by simp at h
 |p::P,w::j,0,m,nd,h1,h2,hk=>by
  simp at h1 h2;subst h1;subst h2;show bindL kindOf ((p,w)::P.zip j) m p=_;unfold bindL;rw[GW λv l=>(ZH.mp nd).1 (Cu l).1,if_pos hk];simp
 |p::P,w::j,i+1,m,nd,h1,h2,hk=>by
  show bindL kindOf ((p,w)::P.zip j) m x=_;unfold bindL;exact GZ (i:=i) (ZH.mp nd).2 (by simpa using h1) (by simpa using h2) hk
theorem Ha{kindOf:Str->Option Ze}:∀{P:List Str} {j:List Value} {i:Nat} {m:Str->Option Value},P.Nodup->P[i]?=some x->j[i]?=some v->kindOf x≠some .local->
  bindC kindOf (P.zip j) m x=some v
 |[],_,_,_,_,h,_,_=>by simp at h
 |_::_,[],_,_,_,_,h,_=>by simp at h
 |p::P,w::j,0,m,nd,h1,h2,hk=>by
  simp at h1 h2;subst h1;subst h2;show bindC kindOf ((p,w)::P.zip j) m p=_;unfold bindC;rw[GY λv l=>(ZH.mp nd).1 (Cu l).1,if_neg hk];simp
 |p::P,w::j,i+1,m,nd,h1,h2,hk=>by
  show bindC kindOf ((p,w)::P.zip j) m x=_;unfold bindC;exact Ha (i:=i) (ZH.mp nd).2 (by simpa using h1) (by simpa using h2) hk
noncomputable def start(N:List Str)(j:List V):St:=j.map some++XH (N.length - j.length) none
noncomputable def cxOf(g:CXT)(P:Xh)(w:Xd)(K:X1)(d:Str->Option Value)(z:Heap)(N:List Str)(u:Str)(j:Scope)(f:Addr)(m:Value)(A:Xn)(l:List Env)(s:X0)(H:Hp)(E:XK):Cx where
 prog:=P
 w:=w
 K:=K
 mg:=d
 base:=z
 A:=A.deeper (envOfC u j s.heap.objs.size f m)
 N:=N
 s₀:=s
 H₀:=H
 env:=envOfC u j s.heap.objs.size f m
 outer:=l
 stack:=envOfC u j s.heap.objs.size f m::l
 ex:=[]
 calm:=true
 fn:=λ_=>true
 pn:=[]
 xe:=λe c=>X3 (X4 P w) (A.deeper (envOfC u j s.heap.objs.size f m)) (leaving (envOfC u j s.heap.objs.size f m) e) (λ_ y=>g l H s E e y) (λq y=>g l H s E q y) c
theorem Hb{j:Scope}{n:Nat}{x:Str}(h:j.names.lookup x=some .cell):∃c,(cellsFrom n j.names []).lookup x=some c:=by
 have q:=G7 j.names n [] (.inl h);exact Option.isSome_iff_exists.mp q
theorem Ro{G:CXT}{P:Xh}{w:Xd}{K:X1}{D:Str->Option Value}{d:Heap}{N O:List Str}{m:Str}{j:Scope}{f:Addr}{Z:Value}{A:Xn}{l:List Env}{s I:X0}{H:Hp}{E:XK}{F:List Value}{R:List V}
  (S:FnScope N O j)(Q:A.handled=none)(L:Env0 P w K D d A l s H)(hl:R.length=O.length)(r:Vals R F)
  (x:InCallC s s.heap.objs.size (bindL (envOfC m j s.heap.objs.size f Z).kindOf (O.zip F) λ_=>none) (cellsFrom (s.heap.objs.size+1) j.names []) (bindC (envOfC m j s.heap.objs.size f Z).kindOf (O.zip F) λ_=>none) I):
  Inv (cxOf G P w K D d N m j f Z A l s H E) [] (start N R) H I:=by
 have X:O.length<=N.length:=by have:=congrArg List.length S.pre;rw[XQ]at this;lia
 obtain⟨B,tk,rfl,J⟩:=x.done;have T:∀b:Addr,b∉(cxOf G P w K D d N m j f Z A l s H E).ex:=λb z=>absurd (show b∈([]:List Addr)from z) (by simp)
 refine⟨⟨L.mod,S.kind,rfl,rfl,Xf _,λy z c B g=>?_,λy U=>?_,λy c _ h=>?_,λ_=>Q,Around.frames_deeper L.frames,.inr ⟨rfl,rfl⟩,λb z=>absurd z (T b),L.bs,L.bsz,λb _ _=>T b,λb z=>absurd z (T b),L.funs,L.frf⟩,
  rfl,L.bare,Un.kept J,⟨_,x.toInCall.ns,λi y v B g h3=>?_⟩,λy c h=>⟨_,x.cell y c h⟩,L.hok.fresh (Xf _),λy c h=>?_,λp W=>absurd (show p∈([]:List (Addr×Obj))from W) (by simp),L.hok.kept J,?_⟩
 .exact name_of_addr x.apart (Vw B) (Vw g)
 .have U:j.names.lookup y=some .cell\/j.names.lookup y=some .free:=U;rcases U with U|U
  .exact Hb U
  .exact absurd rfl (S.nofree _ (Vw U))
 .exact Vp (x.above y c (Vw h))
 .have C:i<R.length:=by
   unfold start at g;by_cases C:i<R.length
   .exact C
   .rw[Zh (by simpa using C)]at g
    rw[G3]at g;split at g<;>cases g
  have o:R[i]?=some v:=by
   unfold start at g;rw[YU (by simpa using C),Xj]at g
   cases e:R[i]? with
   |none=>rw[e]at g;cases g
   |some a=>rw[e]at g;cases g;rfl
  obtain⟨u,M,rv⟩:=r.get o;have W:O[i]?=some y:=by
   rw[<-S.pre,AK (by lia)];exact B
  have Y:O.Nodup:=by rw[<-S.pre];exact S.nd.sublist (AN _ _)
  refine⟨u,rv,?_⟩;rcases S.par y (Y5 W)with k|k
  .exact .inl ⟨k,GZ Y W M k⟩
  .obtain⟨c,e⟩:=Hb (n:=s.heap.objs.size+1) k;refine .inr ⟨.inl k,c,e,?_⟩;have q:=x.cell y c e;rw[Ha Y W M (by show j.names.lookup y≠_;rw[k];decide)]at q
   exact q
 .exact L.hok.fresh (Vp (x.above y c (Vw h)))
 .unfold start;show _=N.length;rw[XO,X5,YM];lia
theorem Hc{K:X1}{k:Nat}{name:Str}{kV:Value}
    (D:K.lookup f=some ⟨oc,od,.func (Uq name qual params body scope dV kV doc pm an cdv ct),osl⟩)(R:CB K cdv qual=true)(S:FnScope N ps scope)
  (len:∀l H Q E,sp l H Q E->l.length=ps.length)
  (g:∀(A:Xn)(j:List Env)(s:X0)(H:Hp)(l:List V)(Q:VK)(E:XK),Room k (A.deeper (envOfC qual scope s.heap.objs.size f cdv))->sp l H Q E->
   ∃t,PSs (cxOf CX P w K mg base N qual scope f cdv A j s H E) body t/\t {nx:=λ_ m=>Q .non m,rt:=Q} (start N l) H):
  FnOk P w K mg base CX (k+1) f (Uq name qual params body scope dV kV doc pm an cdv ct) ps sp:=by
 refine⟨len,λA j s H Z F l Q E T p G r L=>?_⟩;have M:=len _ _ _ _ L;have B:K.In s.heap:=p.mod.kin.keeps λb o e=>(p.bs b o e).1;have U:s.heap.NoLimit:=p.mod.nolimit.keeps λb o e=>(p.bs b o e).1;have d:∀y∈ps.zip F,scope.names.lookup y.1=some .local\/(scope.names.lookup y.1=some .cell/\((cellsFrom (s.heap.objs.size+1) scope.names []).lookup y.1).isSome=true):=fun⟨n,v⟩ X=>by
  rcases S.par n (Cu X).1 with q|q
  .exact .inl q
  .exact .inr ⟨q,G7 _ _ _ (.inl q)⟩
 refine codeAny_call_function T.depth (B _ _ D) rfl S.co S.gen rfl (PySem.W.codeRec_of B R) (G _ _ _ _ ?_);refine wpAny_newFunctionEnv_cells S.kind d λi h C x=>?_;subst h;refine⟨U.keeps x.toInCall.keep,codeAny_func ?_⟩;obtain⟨t,a,hq⟩:=g A j s H l Q E (T.deeper _) L;have I:Inv (cxOf CX P w K mg base N qual scope f cdv A j s H E) [] (start N l) H C:=Ro S T.hd p M r x;refine Yg (a [] C (start N l) H _ I hq) (λfl W c=>?_) λe W c=>c;have O:∀{z:St} {m:Hp} {v:V} {u:Value},Inv (cxOf CX P w K mg base N qual scope f cdv A j s H E) [] z m W->RelV v u->Q v m->CE j P w H s Q u W:=
  fun{z m v u} J Y q=>⟨v,m,J.os,J.bare,J.base,J.hok,Y,q⟩
 cases fl with
 |ret u=>
  obtain⟨v,z,m,J,Y,q⟩:=c;exact O J Y q
 |next=>
  obtain⟨z,m,J,q⟩:=c;exact O (v:=V.non) (u:=US) J rfl q
 |brk=>
  obtain⟨_,_,_,q⟩:=c;exact XS q
 |cont=>
  obtain⟨_,_,_,q⟩:=c;exact XS q
section
variable{X:Cx}{x:Str}{p pos:Pos}{e:Expr}{es:List Expr}{t:TA}{id T:String}{r:List V->Hp->VK->Prop}
noncomputable def tCB(r:List V->Hp->VK->Prop)(t:TA):TE:=λj H Q=>t j H λl u=>r l u Q
theorem D3(y:YI X (.builtin id) r)(z:Gl X x)(m:X.mg x=none)(g:Yu x=some (.builtin id))(d:PA X (e::es) t)(c:x≠"__name__":=by decide)(j:(x==("__debug__":Str))=false:=by decide)
  (f:Xs (e::es) X.env=(false,eval e X.env)::Xs es X.env:=by rfl)(l:(Yl pos (Xs es X.env)).any (·.1)=false:=by rfl):PE X (.Call (.Name x p) (e::es) [] pos) (tCB r t):=by
 intro u s w H Q I h;refine Uk (_N I z m g ?_ c j);exact Ga (thn (d pos u s w H _ I h) λq L ⟨N,O,P,R,U⟩=>y u L w O N q Q P R U) f l
theorem Rp(y:YI X (.type T) r)(z:Gl X x)(m:X.mg x=none)(g:Yu x=some (.type T))(d:PA X (e::es) t)(c:x≠"__name__":=by decide)(j:(x==("__debug__":Str))=false:=by decide)
  (f:Xs (e::es) X.env=(false,eval e X.env)::Xs es X.env:=by rfl)(l:(Yl pos (Xs es X.env)).any (·.1)=false:=by rfl):PE X (.Call (.Name x p) (e::es) [] pos) (tCB r t):=by
 intro u s w H Q I h;refine Uk (_N I z m g ?_ c j);exact Vu (thn (d pos u s w H _ I h) λq L ⟨N,O,P,R,U⟩=>y u L w O N q Q P R U) f l
end
end L2
namespace HT
open PySem PyProof.Rows
section
open PySem.SeqAt
open PySem.AutoSeq1 (wpAny_loadPart')
open PySem.MeetsSeq PySem.MeetsSeq2 PySem.MeetsSeq3
end
section
variable{prog:Xh}{w:Xd}{A:Xn}{E:Value->X0->Prop}{s:X0}
theorem cat_tup{t:Addr}(O:IsTup s.heap t vs.toArray)(P:IsTup s.heap b ws.toArray)(g:vs≠ [])
  (h1:ws=[]->Q (.ref t) s)(h2:ws≠ []->Q (.ref s.heap.objs.size) {s with heap:=s.heap.push {cls:=.type "tuple",data:=.seq (vs++ws).toArray} })
  (m:vs.length+ws.length<=sizeLine):X3 (X4 prog w) A (YE .Add (.ref t) (.ref b)) Q E s:=by
 obtain⟨⟨R,d,c,f⟩,z,q,n,p⟩:=id O;obtain⟨⟨L,l,data2,u⟩,j,y,N,hd2⟩:=id P;simp only at q p y hd2;subst q p y hd2;have e:vs.toArray++ws.toArray=(vs++ws).toArray:=by simp
 by_cases hw:ws=[]
 .exact concat_meets ⟨_,z,rfl⟩ ⟨_,j,rfl⟩ noFill_tuple_add seq_tuple_add Gn Gm (Gk _ _)
   (tuple_addW1 t b vs.toArray ws.toArray n N d l f u (by simpa using g) (by simp[hw])) ⟨z,j,h1 hw⟩
 .refine concat_meets ⟨_,z,rfl⟩ ⟨_,j,rfl⟩ noFill_tuple_add seq_tuple_add Gn Gm (Gk _ _)
   (tuple_addW2 t b vs.toArray ws.toArray n N d l f u (by simpa using g) (by simpa using hw) (by rw[XW,XW];exact m)) ⟨z,j,?_⟩
  rw[e];exact h2 hw
noncomputable def sIx(n d:Nat):Option Int->Nat
 |none=>d
 |some v=>if v<0 then(v+(n:Int)).toNat else min v.toNat n
theorem sIx_none(n d:Nat):sIx n d none=d:=rfl
theorem sIx_nat(n d k:Nat):sIx n d (some (k:Int))=min k n:=by
 show(if(k:Int)<0 then((k:Int)+(n:Int)).toNat else min (k:Int).toNat n)=min k n;rw[if_neg (by lia),ZJ]
theorem Rq(n d:Nat)(j:d<=n)(o:Option Int):sIx n d o<=n:=by
 cases o with
 |none=>exact j
 |some v=>
  show(if v<0 then(v+(n:Int)).toNat else min v.toNat n)<=n;by_cases hv:v<0
  .rw[if_pos hv];lia
  .rw[if_neg hv];exact Nat.min_le_right _ _
theorem Hd(v:Int)(n d:Nat):(if v<0 then max (v+(n:Int)) 0 else min v (n:Int))=((sIx n d (some v):Nat):Int):=by
 show(if v<0 then max (v+(n:Int)) 0 else min v (n:Int))=(((if v<0 then(v+(n:Int)).toNat else min v.toNat n):Nat):Int);by_cases hv:v<0
 .simp only[if_pos hv];lia
 .simp only[if_neg hv];lia
theorem Rr(lo j:Option Int)(n:Nat):CM lo j 1 (n:Int)=(((sIx n 0 lo:Nat):Int),((sIx n n j:Nat):Int)):=by
 have l:¬((1:Int)<0):=by lia
 unfold CM;simp only[l,if_false];refine Prod.ext ?_ ?_
 .cases lo with
  |none=>rfl
  |some v=>exact Hd v n 0
 .cases j with
  |none=>rfl
  |some v=>exact Hd v n n
theorem Rs(i j:Nat):Bb (i:Int) (j:Int) 1=j - i:=by
 unfold Bb;have l:(1:Int)>0:=by lia
 simp only[l,if_true,Int.ediv_one];split<;>lia
theorem He(p:IsPart v o)(h:Q o s):X3 (X4 prog w) A (Builtin.Slice.slicePartIndex v) Q E s:=by
 cases p with
 |none=>exact slicePart_none h
 |int i t=>exact slicePart_int h
theorem Hf{m:Addr}{y z:Value}{lo j:Option Int}{n:Nat}{Q:Int×Int×Nat->X0->Prop}(g:s.heap.IsSliceOf m y z .none)(pl:IsPart y lo)(d:IsPart z j)
  (h:Q (((sIx n 0 lo:Nat):Int),1,sIx n n j - sIx n 0 lo) s):X3 (X4 prog w) A (Gf (.ref m) (pure (n:Int))) Q E s:=by
 obtain⟨os,l,c,u⟩:=id g;unfold Gf Builtin.Slice.sliceFields;refine X2 (X2 (wpAny_field l u (x:=y) rfl (X2 (wpAny_field l u (x:=z) rfl (X2 (wpAny_field l u (x:=.none) rfl (Xa ?_)))))));refine X2 (slicePart_none ?_);show X3 _ _ (if((1:Int)==0)=true then _ else _) _ _ s;rw[if_neg (by decide)]
 refine X2 (He pl (X2 (He d (X2 (Xa ?_)))));show X3 _ _ (match CM lo j 1 (n:Int)with|(lo,j)=>pure (lo,(1:Int),Bb lo j 1)) _ _ s
 rw[Rr lo j n];show X3 _ _ (pure (((sIx n 0 lo:Nat):Int),(1:Int),Bb ((sIx n 0 lo:Nat):Int) ((sIx n n j:Nat):Int) 1)) _ _ s;rw[Rs];exact Xa h
theorem Rt(j:Array Value)(i k:Nat):((XI k).filterMap fun(m:Nat)=>j[((i:Int)+(m:Int)*1).toNat]?).toArray=((j.toList.drop i).take k).toArray:=by
 have e:(fun(m:Nat)=>j[((i:Int)+(m:Int)*1).toNat]?)=λm=>j[i+m]?:=by
  funext m
  have:((i:Int)+(m:Int)*1).toNat=i+m:=by lia
  rw[this]
 rw[e];have:=pick_run j i k;rw[List.filterMap_map]at this;have l:((λx=>j[x]?)∘ λx=>i+x)=λm=>j[i+m]?:=rfl;rw[l]at this;rw[this]
theorem getItem_tuple_cut{t:Addr}{items:Array Value}{lo:Option Int}(l:IsTup s.heap t items)(d:s.heap.IsSliceOf sl vl vu .none)(pl:IsPart vl lo)(c:IsPart vu hi)
  (hw:¬(sIx items.size 0 lo=0/\sIx items.size items.size hi=items.size))
  (h:Q (.ref s.heap.objs.size) {s with heap:=s.heap.push {cls:=.type "tuple",data:=.seq ((items.toList.drop (sIx items.size 0 lo)).take (sIx items.size items.size hi - sIx items.size 0 lo)).toArray} })
  (f:items.size<=sizeLine):X3 (X4 prog w) A (getItem (.ref t) (.ref sl)) Q E s:=by
 have j:sizeOk (.seq ((items.toList.drop (sIx items.size 0 lo)).take (sIx items.size items.size hi - sIx items.size 0 lo)).toArray):=by
  show((items.toList.drop (sIx items.size 0 lo)).take (sIx items.size items.size hi - sIx items.size 0 lo)).toArray.size<=sizeLine;rw[XW,XQ,YN,Yn];lia
 have e:sIx items.size items.size hi<=items.size:=Rq _ _ (Xf _) hi;obtain⟨os,u,y,p⟩:=id d;have z:s.TypeIs (.ref sl) "slice":=⟨os,u,y⟩;unfold getItem
 try with_reducible refine Zf ?_
 first|refine X2 (Xa ?_)|skip
 refine X2 (wpAny_sequenceKey l.typeIs (by decide) ?_)
 refine X2 (AG (name:=YQ "__getitem__") l.typeIs Vt
  (Zg Vt l.typeIs entry_tuple_getitem ?_ (args_tuple_getitem _ _)))
 show X3 _ _ (Gd (.ref t)>>= _) _ _ s;refine X2 (tupleItemsOf_ l ?_);refine X2 (UJ z ?_);rw[if_pos (by decide)]
 refine X2 (Hf d pl c ?_);have g:¬((((sIx items.size 0 lo:Nat):Int)==0&&(1:Int)==1&&(sIx items.size items.size hi - sIx items.size 0 lo)==items.size)=true):=by
  intro q;rw[XM,XM]at q;have L:((sIx items.size 0 lo:Nat):Int)=0:=eq_of_beq q.1.1;have N:sIx items.size items.size hi - sIx items.size 0 lo=items.size:=eq_of_beq q.2;exact hw ⟨by lia,by lia⟩
 show X3 _ _ (if(((sIx items.size 0 lo:Nat):Int)==0&&(1:Int)==1&&(sIx items.size items.size hi - sIx items.size 0 lo)==items.size)=true then _ else _) _ _ s;rw[if_neg g,Rt]
 first
  |exact X2 (m:=Ba _) (ZW (Xa ⟨_,rfl,Xa h⟩) j)
  |exact X2 (m:=Ba _) (ZW (X2 (Xa (Xa ⟨_,rfl,Xa h⟩))) j)
  |exact X2 (X2 (m:=Ba _) (ZW (Xa (Xa ⟨_,rfl,Xa h⟩)) j))
  |exact X2 (X2 (m:=Ba _) (ZW (Xa ⟨_,rfl,Xa h⟩) j))
end
end HT
namespace L2
open PySem PySem.Spec PyProof.Rows
abbrev TO:=St->Hp->(Option Int->Hp->Prop)->Prop
def PO(X:Cx)(e:Option Expr)(t:TO):Prop:=
 ∀(l:List (Addr×Obj))(s:X0)(j:St)(H:Hp)(Q:Option Int->Hp->Prop),Inv X l j H s->t j H Q->
  X3 (X4 X.prog X.w) X.A (evalPart e X.env) (λu y=>∃o w,Inv X l j w y/\IsPart u o/\Q o w) X.xe s
noncomputable def Ru:TO:=λ_ H Q=>Q none H
noncomputable def Rv(t:TE):TO:=λj H Q=>t j H λx l=>∃i,x=.int i/\Q (some i) l
section
variable{X:Cx}{e:Expr}{te:TE}{lo hi:Option Expr}{tl th:TO}{pos p2:Pos}
theorem Rw:PO X none Ru:=by
 intro j s l H Q I h;rw[evalPart_none];exact Xa ⟨none,H,I,.none,h⟩
theorem Rx(h:PE X e te):PO X (some e) (Rv te):=by
 intro j s l H Q I w;rw[evalPart_some];refine thn (h j s l H _ I w) λu d ⟨x,y,z,m,g⟩=>?_;obtain⟨i,rfl,q⟩:=g;obtain⟨t,rfl⟩:=m;exact⟨some i,y,z,.int i t,q⟩
def SlR(X:Cx)(r:V->Option Int->Option Int->Hp->VK->Prop):Prop:=
 ∀(j:List (Addr×Obj))(s:X0)(l:St)(H:Hp)(x:V)(v u w:Value)(lo hi:Option Int)(y:Addr)(Q:VK),Inv X j l H s->RelV x v->s.heap.IsSliceOf y u w .none->IsPart u lo->IsPart w hi->r x lo hi H Q->
  ∃T id,typeLookup (.type T) "__getitem__"=pure (some (.builtin id))/\s.TypeIs v T/\X3 (X4 X.prog X.w) X.A (getItem v (.ref y)) (EP X j l Q) X.xe s
noncomputable def tSl(r:V->Option Int->Option Int->Hp->VK->Prop)(te:TE)(tl th:TO):TE:=λj H Q=>te j H λx w=>tl j w λl y=>th j y λu z=>r x l u z Q
theorem Ry{r:V->Option Int->Option Int->Hp->VK->Prop}(d:SlR X r)(c:PE X e te)(f:PO X lo tl)(p:PO X hi th):PE X (.Subscript e (.Slice lo hi none p2) pos) (tSl r te tl th):=by
 intro w s y H Q I h;refine Subscript_ (thn (c w s y H _ I h) λv L ⟨x,N,O,P,R⟩=>?_);refine wpAny_Slice (thn (f w L y N _ O R) λz U ⟨l,W,Y,Z,A⟩=>thn (p w U y W _ Y A) λm j ⟨u,g,B,C,D⟩=>?_);rw[evalPart_none];refine Xa ?_;have E:Inv X w y g {j with heap:=j.heap.push {cls:=.type "slice",data:=.fields #[z,m,.none]} }:=B.kept (t':=j.toks) fun b M q=>XD _ q;obtain⟨T,id,F,G,J⟩:=d w {j with heap:=j.heap.push {cls:=.type "slice",data:=.fields #[z,m,.none]} } y g x v z m l u j.heap.objs.size Q E P (Heap.IsSliceOf.new ..) Z C D;show X3 (X4 X.prog X.w) X.A (subscriptTail e (.Slice lo hi none p2) v (.ref j.heap.objs.size)) (EP X w y Q) X.xe {j with heap:=j.heap.push {cls:=.type "slice",data:=.fields #[z,m,.none]} };exact tail_any (ops:=[.ref j.heap.objs.size,v]) G F J (by with_unfolding_all rfl)
noncomputable def cutV(j:List V)(lo hi:Option Int):List V:=(j.drop (HT.sIx j.length 0 lo)).take (HT.sIx j.length j.length hi - HT.sIx j.length 0 lo)
theorem Hg(j:List V)(lo hi:Option Int):(cutV j lo hi).length<=j.length:=by
 unfold cutV;rw[XQ,YN];lia
def rSlT(K:X1):V->Option Int->Option Int->Hp->VK->Prop:=λx lo hi H Q=>∃a j,x=.ref a/\SqT K H a j/\
 ¬(HT.sIx j.length 0 lo=0/\HT.sIx j.length j.length hi=j.length)/\∀p,H p=none->Q (.ref p) (upd H p (.tup (cutV j lo hi)))
theorem Rz:SlR X (rSlT X.K):=by
 intro p s L H x v N O lo hi P Q I z m g d h;obtain⟨a,l,rfl,c,f,q⟩:=h;cases z;obtain⟨u,r,w,y⟩:=I.tuple c;have j:u.toArray.size=l.length:=by rw[XW];exact r.length.symm
 refine⟨"tuple",_,Vt.lookup,w.typeIs,?_⟩;refine HT.getItem_tuple_cut w m g d (by rw[j];exact f) ?_ (by rw[j];exact y)
 rw[j];refine⟨.ref s.heap.objs.size,_,I.laid (t':=s.toks) (o:=.tup (cutV l lo hi)) (λb R q=>XD _ q) (Xf _) ?_,rfl,q _ (I.hok.fresh (Xf _))⟩;exact⟨Y7 (Hg l lo hi) y,_,(r.drop (HT.sIx l.length 0 lo)).take (HT.sIx l.length l.length hi - HT.sIx l.length 0 lo),IsTup.new _ _,_,Y1 _ rfl,rfl⟩
def RA(K:X1):R2:=λx y H Q=>∃a b l j,x=.ref a/\y=.ref b/\SqT K H a l/\SqT K H b j/\l≠ []/\l.length+j.length<=sizeLine/\
 (j=[]->Q (.ref a) H)/\(j≠ []->∀p,H p=none->Q (.ref p) (upd H p (.tup (l++j))))
theorem Vals.nil_iff(r:Vals xs us):us=[]↔xs=[]:=by
 cases r with
 |nil=>simp
 |cons _ _=>simp
theorem RB:OpR X (YE .Add) (RA X.K):=by
 intro W s Y H x y v u Q I d c h;obtain⟨a,b,f,p,rfl,rfl,L,N,O,m,P,R⟩:=h;cases d;cases c;obtain⟨T,l,U,_⟩:=I.tuple L;obtain⟨g,j,p2,_⟩:=I.tuple N;refine HT.cat_tup U p2 (λz=>O (l.nil_iff.mp z)) (λz=>⟨.ref a,H,I,rfl,P (j.nil_iff.mp z)⟩) (λz=>?_) (by rw[<-l.length,<-j.length];exact m)
 refine⟨.ref s.heap.objs.size,_,I.laid (t':=s.toks) (o:=.tup (f++p)) (λb Z q=>XD _ q) (Xf _) ?_,rfl,R (λw=>z (j.nil_iff.mpr w)) _ (I.hok.fresh (Xf _))⟩;exact⟨by rw[XO];exact m,_,l.append j,IsTup.new _ _,_,Y1 _ rfl,rfl⟩
end
noncomputable def ixN(n:Nat)(i:Int):Option Nat:=if 0<=i then(if i<n then some i.toNat else none)else if -(n:Int)<=i then some (i+n).toNat else none
def atI{α:Type}(xs:List α)(i:Int):Option α:=(ixN xs.length i).bind λj=>xs[j]?
theorem RC(h:ixN n i=some j):seqIndex? i n=some j/\j<n/\ -(n:Int)<=i/\i<n:=by
 unfold ixN at h;by_cases h0:0<=i
 .rw[if_pos h0]at h;by_cases h1:i<n
  .rw[if_pos h1]at h;have e:i.toNat=j:=Yo h;exact⟨by rw[seqIndex_of h0 h1,e],by lia,by lia,h1⟩
  .rw[if_neg h1]at h;cases h
 .rw[if_neg h0]at h;by_cases h1:-(n:Int)<=i
  .rw[if_pos h1]at h;have e:(i+n).toNat=j:=Yo h;exact⟨by rw[seqIndex_neg (by lia) h1,e],by lia,h1,by lia⟩
  .rw[if_neg h1]at h;cases h
theorem D6{u:Type}{l:List u}{i:Int}{v:u}(h:atI l i=some v):∃j,seqIndex? i l.length=some j/\l[j]?=some v/\j<l.length/\ -(l.length:Int)<=i/\i<l.length:=by
 unfold atI at h;cases e:ixN l.length i with
 |none=>rw[e]at h;cases h
 |some j=>
  rw[e]at h;obtain⟨w,y,z,m⟩:=RC e;exact⟨j,w,h,y,z,m⟩
theorem Xv{u:Type}{l:List u}{j:Nat}{v:u}(h:l[j]?=some v):atI l (j:Int)=some v:=by
 have w:j<l.length:=(Xz.mp h).1;have e:ixN l.length (j:Int)=some j:=by
  unfold ixN;rw[if_pos (by lia),if_pos (by lia)];simp
 unfold atI;rw[e];exact h
noncomputable def Hh(b:Expr):Prop:=∀o i,subscripted b false o i=operate [o,i] (getItem o i)
def IxR(X:Cx)(r:R2):Prop:=
 ∀(l j:Expr)(w:List (Addr×Obj))(s:X0)(z:St)(H:Hp)(x y:V)(v u:Value)(Q:VK),Inv X w z H s->RelV x v->RelV y u->r x y H Q->
  subscripted j false v u=operate [v,u] (getItem v u)->X3 (X4 X.prog X.w) X.A (subscriptTail l j v u) (EP X w z Q) X.xe s
def MtR(X:Cx)(id:String)(r:V->List V->Hp->VK->Prop):Prop:=
 ∀(j:List (Addr×Obj))(s:X0)(l:St)(H:Hp)(x:V)(u:List V)(v:Value)(w:List Value)(Q:VK),Inv X j l H s->RelV x v->Vals u w->r x u H Q->
  X3 (X4 X.prog X.w) X.A (call (.builtin id) (v::w)) (EP X j l Q) X.xe s
section
variable{X:Cx}{a b:Expr}{ta tb:TE}{pos:Pos}
theorem RD{r:R2}(j:IxR X r)(l:PE X a ta)(w:PE X b tb)(z:Hh b):PE X (.Subscript a b pos) (tOp r ta tb):=by
 intro m s g H Q I h;exact Subscript_ (binT l w I h λv u d x y c f p e q=>j a b m d g c x y v u Q f p e q (z _ _))
def rIxL(K:X1):R2:=λx y H Q=>∃p j i v,x=.ref p/\y=.int i/\SqL K H p j/\atI j i=some v/\Q v H
def rIxT(K:X1):R2:=λx y H Q=>∃p j i v,x=.ref p/\y=.int i/\SqT K H p j/\atI j i=some v/\Q v H
def rIxS:R2:=λx y H Q=>∃z i c,x=.str z/\y=.int i/\z.length<=sizeLine/\atI z.cps.toList i=some c/\Q (.str ⟨#[c]⟩) H
theorem Hi:IxR X (rIxL X.K):=by
 intro g d N s O H x y v u Q I T U h P;obtain⟨p,E,i,z,rfl,rfl,W,Y,q⟩:=h;cases T;obtain⟨t,rfl⟩:=U;obtain⟨c,r,f,F⟩:=I.list W;obtain⟨j,m,Z,G,A,B⟩:=D6 Y;obtain⟨w,R,e⟩:=r.get Z;have C:=r.length;have J:=Wn;have l:EP X N O Q w s:=⟨z,H,I,e,q⟩;by_cases h0:0<=i
 .have L:i.toNat=j:=by
   rw[seqIndex_of h0 B]at m;exact Yo m
  exact item_listR f.isList h0 (by lia) (by rw[L];simpa using R) l P
 .have L:(i+(c.toArray.size:Int)).toNat=j:=by
   rw[seqIndex_neg (by lia) A]at m
   rw[XW,<-C];exact Yo m
  exact subscriptTail_builtinR (x:=w) f.isList.typeIs slot_list_getitem.lookup
   (wpAny_getItem_list_neg (Q:=λr D=>r=w/\EP X N O Q r D) f.isList (by lia) (by rw[XW]<;>lia) (by lia) (by rw[L];simpa using R) ⟨rfl,l⟩) P
theorem RE:IxR X (rIxT X.K):=by
 intro l m c s f H x y v u Q I L N h O;obtain⟨p,B,i,z,rfl,rfl,P,R,q⟩:=h;cases L;obtain⟨t,rfl⟩:=N;obtain⟨T,r,e,C⟩:=I.tuple P;obtain⟨j,U,W,D,E,F⟩:=D6 R;obtain⟨w,Y,g⟩:=r.get W;have Z:=r.length;have G:=Wn;have d:EP X c f Q w s:=⟨z,H,I,g,q⟩;exact subscriptTail_builtinR (x:=w) e.typeIs slot_tuple_getitem.lookup
  (getItem_tuple (j:=j) (Q:=λr A=>r=w/\EP X c f Q r A) e (by lia) (by lia) (by rw[XW,<-Z];exact U) (by simpa using Y) ⟨rfl,d⟩) O
theorem RF:IxR X rIxS:=by
 intro l w T s U H x y v u Q I g d h f;obtain⟨z,i,c,rfl,rfl,W,p,q⟩:=h;obtain⟨t,rfl⟩:=g;obtain⟨Y,rfl⟩:=d;obtain⟨j,m,e,Z,L,N⟩:=D6 p;have O:z.cps.toList.length=z.length:=by simp[B8]
 rw[O]at m L N;have A:=Wn;exact tail_any (typeIs_str s z t) slot_str_getitem.lookup (getItem_str (c:=c) (by
  have P:decide (i< -(2^63:Int))=false:=decide_eq_false (by lia)
  have R:decide (i >= 2^63)=false:=decide_eq_false (by lia)
  rw[P,R,Bool.or_false]) (by rw[m];simpa using e) ⟨.str ⟨#[c]⟩,H,I.tok _,⟨_,rfl⟩,q⟩) f
theorem D7(lo j:Option Int)(n:Nat):(Z5 lo j none n).1=((HT.sIx n 0 lo:Nat):Int)/\(Z5 lo j none n).2.1=((HT.sIx n n j:Nat):Int)/\(Z5 lo j none n).2.2=1:=by
 refine⟨?_,?_,rfl⟩
 .cases lo with
  |none=>simp[Z5,HT.sIx]
  |some i=>
   simp only[Z5,HT.sIx,Option.getD_none,show(1:Int)>0 by decide,if_true]
   by_cases h:i<0
   .simp only[h,if_true]<;>lia
   .simp only[h,if_false]<;>lia
 .cases j with
  |none=>simp[Z5,HT.sIx]
  |some i=>
   simp only[Z5,HT.sIx,Option.getD_none,show(1:Int)>0 by decide,if_true]
   by_cases h:i<0
   .simp only[h,if_true]<;>lia
   .simp only[h,if_false]<;>lia
theorem RG(j:List Value)(lo l:Option Int):slicePick j.toArray lo l none=((j.drop (HT.sIx j.length 0 lo)).take (HT.sIx j.length j.length l - HT.sIx j.length 0 lo)).toArray:=by
 obtain⟨u,w,y⟩:=D7 lo l j.toArray.size;unfold slicePick;rw[u,w,y];simp only[sliceRange_one,pick_run,XW]<;>rfl
def rSlL(K:X1):V->Option Int->Option Int->Hp->VK->Prop:=λx lo l H Q=>∃a j,x=.ref a/\SqL K H a j/\∀p,H p=none->Q (.ref p) (upd H p (.lst (cutV j lo l)))
theorem RI:SlR X (rSlL X.K):=by
 intro p s e H x v L N lo u O Q I y z m g h;obtain⟨a,j,rfl,d,q⟩:=h;cases y;obtain⟨c,r,w,f⟩:=I.list d;have l:=r.length;refine⟨"list",_,slot_list_getitem.lookup,w.isList.typeIs,?_⟩;refine wpAny_getItem_list_slice w.isList z m g .none (by simp) ?_ (by rw[XW]<;>lia)
 rw[RG,<-l];refine⟨.ref s.heap.objs.size,_,I.laid (t':=s.toks) (o:=.lst (cutV j lo u)) (λb P q=>XD _ q) (Xf _) ?_,rfl,q _ (I.hok.fresh (Xf _))⟩;exact⟨Y7 (Hg j lo u) f,_,0,(r.drop (HT.sIx j.length 0 lo)).take (HT.sIx j.length j.length u - HT.sIx j.length 0 lo),Y1 _ rfl⟩
noncomputable def ZO:V->Bool
 |.non=>true
 |.bl _=>true
 |.int _=>true
 |.str _=>true
 |_=>false
noncomputable def eqV:V->V->Bool
 |.non,.non=>true
 |.bl a,.bl b=>a==b
 |.bl a,.int b=>(if a then 1 else 0)==b
 |.int a,.bl b=>a==(if b then 1 else 0)
 |.int a,.int b=>a==b
 |.str a,.str b=>a==b
 |_,_=>false
theorem Hj(w:RelV y u)(j:RelV x v)(m:ZO y=true)(z:ZO x=true):Bi A s u v (eqV y x):=by
 cases y with
 |non=>
  cases w;cases x with
  |non=>cases j;exact Bf _
  |bl b=>cases j;exact SeqAt.EqAt.none_bool b
  |int b=>obtain⟨t,rfl⟩:=j;exact SeqAt.EqAt.none_int b t
  |str b=>obtain⟨t,rfl⟩:=j;exact SeqAt.EqAt.none_str b t
  |_=>exact absurd (show false=true from z) Xu
 |bl a=>
  cases w;cases x with
  |non=>cases j;exact SeqAt.EqAt.bool_none a
  |bl b=>cases j;exact SeqAt.EqAt.bool_bool a b
  |int b=>obtain⟨t,rfl⟩:=j;exact SeqAt.EqAt.bool_int a b t
  |str b=>obtain⟨t,rfl⟩:=j;exact SeqAt.EqAt.bool_str a b t
  |_=>exact absurd (show false=true from z) Xu
 |int a=>
  obtain⟨l,rfl⟩:=w;cases x with
  |non=>cases j;exact SeqAt.EqAt.int_none a l
  |bl b=>cases j;exact SeqAt.EqAt.int_bool a l b
  |int b=>obtain⟨t,rfl⟩:=j;exact SeqAt.EqAt.int_int a l b t
  |str b=>obtain⟨t,rfl⟩:=j;exact Gw a l b t
  |_=>exact absurd (show false=true from z) Xu
 |str a=>
  obtain⟨l,rfl⟩:=w;cases x with
  |non=>cases j;exact SeqAt.EqAt.str_none a l
  |bl b=>cases j;exact SeqAt.EqAt.str_bool a l b
  |int b=>obtain⟨t,rfl⟩:=j;exact Gx a l b t
  |str b=>obtain⟨t,rfl⟩:=j;exact SeqAt.EqAt.str_str a l b t
  |_=>exact absurd (show false=true from z) Xu
 |_=>exact absurd (show false=true from m) Xu
def eqU(x:V)(u:Value):Bool:=match u with
 |.none=>eqV .non x
 |.bool b=>eqV (.bl b) x
 |.int i _=>eqV (.int i) x
 |.str z _=>eqV (.str z) x
 |_=>false
theorem Hk(r:RelV y u)(f:ZO y=true):eqU x u=eqV y x:=by
 cases y with
 |non=>cases r;rfl
 |bl b=>cases r;rfl
 |int i=>obtain⟨t,rfl⟩:=r;rfl
 |str z=>obtain⟨t,rfl⟩:=r;rfl
 |_=>exact absurd (show false=true from f) Xu
theorem Wq:∀{j:List V} {l:List Value},Vals j l->j.all ZO=true->l.any (eqU x)=j.any λy=>eqV y x
 |_,_,.nil,_=>rfl
 |y::j,u::l,.cons r t,f=>by
  rw[UP,XM]at f;rw[U5,U5,Hk r f.1,Wq t f.2]
theorem Wr(z:RelV x v)(m:ZO x=true):∀{l:List V} {w:List Value},Vals l w->l.all ZO=true->∀u∈w,Bi A s u v (eqU x u)
 |_,_,.nil,_=>λu j=>by cases j
 |y::l,u::w,.cons r t,f=>λg j=>by
  rw[UP,XM]at f;rcases Xm.mp j with rfl|j
  .rw[Hk r f.1];exact Hj r z f.1 m
  .exact Wr z m t f.2 g j
def inV(x:V)(j:List V):Bool:=j.any λy=>eqV y x
def rIn(K:X1)(l:Bool):R2:=λx y H Q=>∃p j,y=.ref p/\(SqL K H p j\/SqT K H p j)/\ZO x=true/\j.all ZO=true/\Q (.bl (if l then !inV x j else inV x j)) H
theorem D8:OpR X (Y4 .In) (rIn X.K false):=by
 intro e s L H x y v u Q I g c h;obtain⟨p,N,rfl,l,d,fs,q⟩:=h;cases c;rcases l with l|l
 .obtain⟨j,r,z,f⟩:=I.list l;refine SeqAt.in_listAt (eqU x) z.isList (λw m=>Wr g d r fs w (by simpa using m)) ⟨.bl _,H,I,rfl,?_⟩
  rw[show j.toArray.any (eqU x)=j.any (eqU x) by simp,Wq r fs]
  exact q
 .obtain⟨j,r,z,f⟩:=I.tuple l;refine SeqAt.in_tupleAt (eqU x) z (λw m=>Wr g d r fs w (by simpa using m)) ⟨.bl _,H,I,rfl,?_⟩
  rw[show j.toArray.any (eqU x)=j.any (eqU x) by simp,Wq r fs]
  exact q
theorem D9:OpR X (Y4 .NotIn) (rIn X.K true):=by
 intro e s L H x y v u Q I g c h;obtain⟨p,N,rfl,l,d,fs,q⟩:=h;cases c;rcases l with l|l
 .obtain⟨j,r,z,f⟩:=I.list l;refine SeqAt.notIn_listAt (eqU x) z.isList (λw m=>Wr g d r fs w (by simpa using m)) ⟨.bl _,H,I,rfl,?_⟩
  rw[show j.toArray.any (eqU x)=j.any (eqU x) by simp,Wq r fs]
  exact q
 .obtain⟨j,r,z,f⟩:=I.tuple l;refine SeqAt.notIn_tupleAt (eqU x) z (λw m=>Wr g d r fs w (by simpa using m)) ⟨.bl _,H,I,rfl,?_⟩
  rw[show j.toArray.any (eqU x)=j.any (eqU x) by simp,Wq r fs]
  exact q
theorem Da:YI X (.builtin "len") (fun g H Q=>∃p l,g=[.ref p]/\(SqL X.K H p l\/SqT X.K H p l)/\Q (.int l.length) H):=by
 intro f s e H g L Q I r h;obtain⟨p,l,rfl,w,q⟩:=h;obtain⟨u,rfl,d⟩:=U9 r;cases d;have N:=Wn;rcases w with w|w
 .obtain⟨y,z,m,c⟩:=I.list w;have j:=z.length;exact Calls.call_len_list m.isList (by simp only[XW]<;>lia) ⟨.int l.length,H,I.tok _,⟨s.toks+1,by rw[XW,j]⟩,q⟩
 .obtain⟨y,z,m,c⟩:=I.tuple w;have j:=z.length;exact len_tuple m (by simp only[XW]<;>lia) ⟨.int l.length,H,I.tok _,⟨s.toks+1,by rw[XW,j]⟩,q⟩
theorem RJ:YI X (.builtin "len") (fun j H Q=>∃z,j=[.str z]/\z.length<=sizeLine/\Q (.int z.length) H):=by
 intro l s w H j y Q I r h;obtain⟨z,rfl,m,q⟩:=h;obtain⟨u,rfl,t,rfl⟩:=U9 r;have g:=Wn;exact len_str (by lia) ⟨.int z.length,H,I.tok _,⟨_,rfl⟩,q⟩
theorem Hl:YI X (.type "list") (fun T H Q=>∃p y,T=[.ref p]/\(SqL X.K H p y\/SqT X.K H p y)/\∀l,H l=none->Q (.ref l) (upd H l (.lst y))):=by
 intro W s Y H T A Q I r h;obtain⟨p,y,rfl,g,q⟩:=h;obtain⟨u,rfl,Z⟩:=U9 r;cases Z;have d:∀(j:List Value),Vals y j->y.length<=sizeLine->∀(w:Heap)(z:Nat),(∀b U,s.heap.get? b=some U->w.get? b=some U)->
   w.get? s.heap.objs.size=some {cls:=.type "list",dict:=none,data:=.seq j.toArray z,slots:=#[]}->EP X W Y Q (.ref s.heap.objs.size) {s with heap:=w}:=fun j m c w z f e=>
  ⟨.ref s.heap.objs.size,_,I.laid (t':=s.toks) f (Xf _) (show ObjOk X.prog X.w _ w _ (.lst y)from⟨c,j,z,m,e⟩),rfl,q _ (I.hok.fresh (Xf _))⟩
 rcases g with g|g
 .obtain⟨j,m,N,c⟩:=I.list g;have L:=m.length;obtain⟨o,O,P,n,R⟩:=N.isList;exact call_list_seq p (.inl rfl) O P R (λw z f e=>d j m c w z f e) (by simp only[XW]<;>lia)
 .obtain⟨j,m,N,c⟩:=I.tuple g;have L:=m.length;obtain⟨o,O,P,n,R⟩:=N;exact call_list_seq p (.inr rfl) O P R (λw z f e=>d j m c w z f e) (by simp only[XW]<;>lia)
theorem RK:YI X (.type "tuple") (fun d H Q=>∃p w,d=[.ref p]/\((SqL X.K H p w/\∀l,H l=none->Q (.ref l) (upd H l (.tup w)))\/(SqT X.K H p w/\Q (.ref p) H))):=by
 intro c s f H d U Q I r h;obtain⟨p,w,rfl,h⟩:=h;obtain⟨u,rfl,P⟩:=U9 r;cases P;rcases h with⟨z,q⟩|⟨z,q⟩
 .obtain⟨j,m,g,L⟩:=I.list z;have N:=m.length;refine call_tuple_list g.isList (λy R=>?_) (by simp only[XW]<;>lia)
  have O:Inv X c f H {s with heap:=y}:=I.kept (t':=s.toks) R;have T:Inv X c f (upd H y.objs.size (.tup w)) {s with heap:=y.push {cls:=.type "tuple",data:=.seq j.toArray} }:=
   O.laid (t':=s.toks) (λb o e=>XD _ e) (Xf _) (show ObjOk X.prog X.w _ _ _ (.tup w)from⟨L,j,m,IsTup.new _ _,_,Y1 _ rfl,rfl⟩)
  exact⟨.ref y.objs.size,_,T,rfl,q _ (O.hok.fresh (Xf _))⟩
 .obtain⟨j,m,g,L⟩:=I.tuple z;exact call_tuple_same g ⟨.ref p,H,I,rfl,q⟩
def tyV(K:X1)(T:String)(x:V)(H:Hp):Prop:=match x with
 |.str _=>T="str"
 |.int _=>T="int"
 |.ref p=>(T="list"/\∃l,SqL K H p l)\/(T="tuple"/\∃o,K.lookup p=some o/\o.cls=.type "tuple"/\o.dict=none)\/
   (T="dict"/\((∃j,H p=some (.dK j))\/∃j,H p=some (.dT j)))\/(T="set"/\∃S n,H p=some (.set S n))
 |_=>False
theorem Hm(I:Inv X pz σ H s)(r:RelV x v)(ty:tyV X.K T x H):
  s.TypeIs v T/\∀a,v=.ref a->∃m,s.heap.get? a=some m/\m.dict=none:=by
 cases x with
 |str z=>
  obtain⟨t,rfl⟩:=r;cases(show T="str" from ty);exact⟨typeIs_str s z t,λ_ e=>nomatch e⟩
 |int i=>
  obtain⟨t,rfl⟩:=r;cases(show T="int" from ty);exact⟨typeIs_int s i t,λ_ e=>nomatch e⟩
 |ref p=>
  cases r;rcases ty with⟨rfl,L,d⟩|⟨rfl,o,j,f,u⟩|⟨rfl,j⟩|⟨rfl,S,n,j⟩
  .obtain⟨q,_,g,_⟩:=I.list d;refine⟨g.isList.typeIs,λa e=>?_⟩;cases e;obtain⟨o,n,e,c,u,_⟩:=g;exact⟨o,e,u⟩
  .refine⟨⟨o,I.kIn p o j,f⟩,λa e=>?_⟩;cases e;exact⟨o,I.kIn _ o j,u⟩
  .have z:∃o,s.heap.get? p=some o/\o.ExactDict:=by
    rcases j with⟨w,j⟩|⟨w,j⟩
    .obtain⟨_,_,_,_,o,_,_,e,l,_⟩:=I.hok p _ j;exact⟨o,e,l⟩
    .obtain⟨_,_,_,_,o,_,_,e,l,_⟩:=I.hok p _ j;exact⟨o,e,l⟩
   obtain⟨o,e,l⟩:=z;refine⟨⟨o,e,l.1⟩,λa y=>?_⟩;cases y;exact⟨o,e,l.2.1⟩
  .obtain⟨o,_,_,_,e,l,_⟩:=I.hok p _ j;refine⟨⟨o,e,l.1⟩,λa y=>?_⟩;cases y;exact⟨o,e,l.2.1⟩
 |_=>exact XS ty
def tBM0(K:X1)(T:String)(r:V->List V->Hp->VK->Prop)(to:TE):TE:=λl H Q=>to l H λx j=>tyV K T x j/\r x [] j Q
def tBM(K:X1)(T:String)(r:V->List V->Hp->VK->Prop)(to:TE)(t:TA):TE:=λj H Q=>to j H λx l=>tyV K T x l/\t j l λu w=>r x u w Q
variable{o e:Expr}{es:List Expr}{to:TE}{t:TA}{name:Str}{apos cpos:Pos}{T id:String}{r:V->List V->Hp->VK->Prop}
theorem RL(d:PlainAttrs T)(u:Slot T name id)(w:typeOf (.builtin id)=pure (.type "method_descriptor"))(c:MtR X id r)(f:PE X o to)
  (j:VY o name X.env (eval o X.env)=eval o X.env:=by rfl)(l:(apos.endLine==cpos.line)=true:=by rfl):PE X (.Call (.Attribute o name apos) [] [] cpos) (tBM0 X.K T r to):=by
 intro y s z H Q I h;refine wpAny_Call_method0_late j l (thn (f y s z H _ I h) λv q ⟨x,p,m,g,ty,L⟩=>?_);obtain⟨N,O⟩:=Hm m g ty;exact⟨T,id,d,u,w,N,O,Gj rfl (PySem.evalArgs_none (c y q z p x [] v [] Q m g .nil L))⟩
theorem RN(q:PlainAttrs T)(w:Slot T name id)(z:typeOf (.builtin id)=pure (.type "method_descriptor"))(p:MtR X id r)(L:PE X o to)(N:PA X (e::es) t)
  (l:VY o name X.env (eval o X.env)=eval o X.env:=by rfl)
  (y:((Yl cpos (Xs (e::es) X.env)).all (λx=>!x.1)&&(backToKw cpos (keywordEach [] X.env)).all (λx=>x.1.isSome)
   &&decide ((e::es).length+([]:List ZC).length+(if([]:List ZC).isEmpty then 0 else 1)<30))=true:=by rfl)
  (u:(apos.endLine==cpos.line)=true:=by rfl)(O:Xs (e::es) X.env=(false,eval e X.env)::Xs es X.env:=by rfl)(j:(Yl cpos (Xs es X.env)).any (·.1)=false:=by rfl):
  PE X (.Call (.Attribute o name apos) (e::es) [] cpos) (tBM X.K T r to t):=by
 intro m s g H Q I h;refine wpAny_Call_method_late l y u rfl (thn (L m s g H _ I h) λv P ⟨x,R,d,c,ty,U⟩=>?_);obtain⟨W,Y⟩:=Hm d c ty;refine⟨T,id,q,w,z,W,Y,?_⟩;have f:=N cpos m P g R _ d U;rw[O]at f ⊢;refine Gj (by show(false||(Yl cpos (Xs es X.env)).any (·.1))=false;rw[j]<;>rfl) (Calls.evalArgs_plain ?_)
 exact thn f λZ A ⟨B,C,D,E,F⟩=>p m A g C x B v Z Q D c E F
/- xs.append(e),list.index on a module's tuple .. are MtR facts of 06m -/
end
def MtM(X:Cx)(id:String)(r:V->List V->Hp->VK->Prop):Prop:=
 ∀(j:List (Addr×Obj))(s:X0)(l:St)(H:Hp)(x:V)(u:List V)(v:Value)(w:List Value)(Q:VK),Inv X j l H s->RelV x v->Vals u w->r x u H Q->
  X3 (X4 X.prog X.w) X.A (call (.builtin id) (v::w)) (EP X j l Q) X.xe s
theorem Vals.one:∀{x:V} {j:List Value},Vals [x] j->∃u,j=[u]/\RelV x u
 |_,_,.cons r .nil=>⟨_,rfl,r⟩
section
variable{X:Cx}{pz:List (Addr×Obj)}{σ:St}{H:Hp}{s:X0}{l b:Addr}{xs ys zs:List V}
theorem Inv.lset{w j:List Value}{n:Nat}{f:Array Value->Array Value}{y:Nat}(I:Inv X pz σ H s)(z:H l=some (.lst xs))
  (e:s.heap.get? l=some {cls:=.type "list",data:=.seq w.toArray n})(m:f w.toArray=j.toArray)(g:Vals ys j)(d:ys.length<=sizeLine):
  Inv X pz σ (upd H l (.lst ys)) {s with heap:=s.heap.update l (Vy f),toks:=y}:=by
 have q:=PySem.IsL.update e f;rw[m]at q;refine I.write (x:=l) (e:=l) (by rw[z];exact trivial) (.inl rfl) (λL u c p=>(CC s.heap (Vy f) (ZM c)).trans p) ⟨_,q⟩ ?_
 exact⟨d,j,_,g,q⟩
theorem Inv.lnew(I:Inv X pz σ H s)(j:Vals ys its)(u:ys.length<=sizeLine):
  Inv X pz σ (upd H s.heap.objs.size (.lst ys)) {s with heap:=s.heap.push {cls:=.type "list",data:=.seq its.toArray},toks:=t'}:=
 I.laid (λ_ _ q=>XD _ q) (Xf _) ⟨u,its,0,j,Y1 _ rfl⟩
theorem Inv.fresh(I:Inv X pz σ H s):H s.heap.objs.size=none:=I.hok.fresh (Xf _)
theorem Inv.lstM(I:Inv X pz σ H s)(u:H l=some (.lst xs)):xs.length<=sizeLine/\∃(j:List Value) (n:Nat),Vals xs j/\xs.length=j.length/\s.heap.get? l=some {cls:=.type "list",data:=.seq j.toArray n}:=by
 obtain⟨z,j,n,r,e⟩:=I.hok l _ u;exact⟨z,j,n,r,r.length,e⟩
theorem RP(h:n<=sizeLine):CS n=false:=by
 unfold CS;exact decide_eq_false (by lia)
end
section
variable{X:Cx}
def RQ:V->List V->Hp->VK->Prop:=λx u H Q=>∃l j y,x=.ref l/\u=[y]/\H l=some (.lst j)/\j.length<sizeLine/\Q .non (upd H l (.lst (j++[y])))
theorem Hn:MtM X "list.append" RQ:=by
 intro c s f H x p v L Q I m g h;obtain⟨l,N,y,rfl,rfl,w,O,q⟩:=h;cases m;obtain⟨u,rfl,d⟩:=g.one;obtain⟨z,j,n,r,P,e⟩:=I.lstM w;refine call_meets F.slot_list_append ⟨_,e,rfl⟩ F.entry_list_append (F.args_list_append_2 _ _) (PySem.list_append l j.toArray n u (by rw[XW];lia)) ⟨e,?_⟩
 refine⟨.non,_,I.lset (j:=j++[u]) w e (by simp) (r.append (.cons d .nil)) ?_,rfl,q⟩
 rw[XO,Ul];lia
def RT:V->List V->Hp->VK->Prop:=λx w H Q=>∃l b j u,x=.ref l/\w=[.ref b]/\H l=some (.lst j)/\H b=some (.lst u)/\j.length+u.length<=sizeLine/\Q .non (upd H l (.lst (j++u)))
theorem RU:MtM X "list.extend" RT:=by
 intro R s T H x U v W Q I d c h;obtain⟨l,b,Y,Z,rfl,rfl,g,f,A,q⟩:=h;cases d;obtain⟨u,rfl,p⟩:=c.one;cases p;obtain⟨z,w,n,r,B,e⟩:=I.lstM g;obtain⟨C,j,L,N,O,P⟩:=I.lstM f;have m:w.toArray.size+j.toArray.size<=sizeLine:=by rw[XW,XW];lia
 have y:¬(!w.toArray.isEmpty&&CS (w.toArray.size+j.toArray.size))=true:=by
  rw[RP m,CF];exact Xu
 refine call_meets F.slot_list_extend ⟨_,e,rfl⟩ F.entry_list_extend (F.args_list_extend_2 _ _)
  (AutoSeq1.list_extend_list_list_0 l w.toArray n b j.toArray L y (by rw[XW];lia) (by lia)) ⟨e,P,?_⟩
 refine⟨.non,_,I.lset (j:=w++j) g e (by simp) (r.append N) ?_,rfl,q⟩
 rw[XO];lia
def rCat:R2:=λx y H Q=>∃l b j u,x=.ref l/\y=.ref b/\H l=some (.lst j)/\H b=some (.lst u)/\j.length+u.length<=sizeLine/\∀p,H p=none->Q (.ref p) (upd H p (.lst (j++u)))
theorem RV:OpR X (YE .Add) rCat:=by
 intro O s P H x y v u Q I m g h;obtain⟨l,b,R,T,rfl,rfl,d,c,U,q⟩:=h;cases m;cases g;obtain⟨z,w,n,r,W,e⟩:=I.lstM d;obtain⟨Y,j,Z,f,p,L⟩:=I.lstM c;refine PySem.P.add_list e L ?_ (by rw[XW,XW];lia)
 have N:w.toArray++j.toArray=(w++j).toArray:=by simp
 rw[N];exact⟨.ref _,_,I.lnew (t':=s.toks) (r.append f) (by rw[XO];lia),rfl,q _ I.fresh⟩
end
section
variable{prog:Xh}{w:Xd}{A:Xn}{E:Value->X0->Prop}{s:X0}
set_option maxRecDepth 100000 in
end
section
variable{X:Cx}
end
section
variable{κ:Type} [DecidableEq κ]
noncomputable def valV(j:List (κ×V))(k:κ):Option V:=(j.find? λl=>decide (l.1=k)).map (·.2)
noncomputable def putK(j:List (κ×V))(k:κ)(v:V):List (κ×V):=
 if(j.any λl=>decide (l.1=k))=true then j.map (λl=>if l.1=k then(l.1,v)else l)else j++[(k,v)]
theorem Db{r:List (κ×V)}{k:κ}(e:p.1=k):valV (p::r) k=some p.2:=by simp[valV,Vm,e]
theorem Dc{r:List (κ×V)}{k:κ}(e:¬p.1=k):valV (p::r) k=valV r k:=by simp[valV,Vm,e]
theorem RelO.isSome_eq(r:RelO o u):o.isSome=u.isSome:=by
 cases o with
 |none=>cases u with
  |none=>rfl
  |some _=>exact(show False from r).elim
 |some _=>cases u with
  |none=>exact(show False from r).elim
  |some _=>rfl
theorem KV.val(r:KV kvs vs)(k:κ):RelO (valV kvs k) (Z6 vs k):=by
 unfold KV at r
 induction r with
 |nil=>exact Zk
 | @cons p q g j h t y=>
  obtain⟨u,m⟩:=h;by_cases e:p.1=k
  .have l:q.1=k:=u.symm.trans e;have b:Z6 (q::j) k=some q.2:=by simp[Z6,Vm,l]
   rw[Db e,b];exact m
  .have l:¬q.1=k:=λz=>e (u.trans z);have b:Z6 (q::j) k=Z6 j k:=by simp[Z6,Vm,l]
   rw[Dc e,b];exact y
theorem KV.any(r:KV kvs vs)(k:κ):(kvs.any λj=>decide (j.1=k))=vs.any λj=>decide (j.1=k):=by
 unfold KV at r
 induction r with
 |nil=>rfl
 |cons h t l=>rw[U5,U5,l,h.1]
theorem KV.repl(r:KV kvs vs)(k:κ)(m:RelV y u):
  KV (kvs.map λj=>if j.1=k then(j.1,y)else j) (vs.map λj=>if j.1=k then(j.1,u)else j):=by
 unfold KV at r ⊢
 induction r with
 |nil=>exact .nil
 | @cons p q c f h t g=>
  rw[Xp,Xp];refine .cons ?_ g;obtain⟨l,d⟩:=h;by_cases e:p.1=k
  .rw[if_pos e,if_pos (l.symm.trans e)];exact⟨l,m⟩
  .rw[if_neg e,if_neg (λz=>e (l.trans z))];exact⟨l,d⟩
theorem KV.put(r:KV kvs vs)(k:κ)(j:RelV y u):KV (putK kvs k y) (stored vs k u):=by
 unfold putK stored;rw[r.any k];by_cases e:(vs.any λl=>decide (l.1=k))=true
 .rw[if_pos e,if_pos e];exact r.repl k j
 .rw[if_neg e,if_neg e];exact Paired.snoc r ⟨rfl,j⟩
theorem KV.length(r:KV kvs vs):kvs.length=vs.length:=Paired.length r
end
theorem Ws{k:Key}(r:RelV (kV k) u):(Z9 P w).is k u=true:=by
 cases k with
 |inl i=>obtain⟨t,e⟩:=(show∃t,u=Wh i t from r);subst e;exact Ql P w i t
 |inr x=>obtain⟨t,e⟩:=(show∃t,u=Yv x t from r);subst e;exact Qm P w x t
theorem Ho:∀{j:List Key} {l:List Value},Vals (j.map kV) l->ItemsAre (Z9 P w) j l
 |[],_,r=>by rw[Y6]at r;cases r;exact .nil
 |k::j,_,r=>by
  rw[Xp]at r;cases r with
  |cons h t=>exact .cons (Ws h) (Ho t)
abbrev KT(H:Hp):List (List Key×V)->List (List Key×Addr×Value)->Prop:=Paired λp q=>p.1=q.1/\H q.2.1=some (.tup (p.1.map kV))/\RelV p.2 q.2.2
theorem KT.val(r:KT H kvs xs)(k:List Key):RelO (valV kvs k) ((atKey xs k).map (·.2)):=by
 induction r with
 |nil=>exact Zk
 | @cons p q g j h t y=>
  obtain⟨u,_,m⟩:=h;by_cases e:p.1=k
  .have l:q.1=k:=u.symm.trans e;have b:atKey (q::j) k=some q.2:=by simp[atKey,Vm,l]
   rw[Db e,b];exact m
  .have l:¬q.1=k:=λz=>e (u.trans z);have b:atKey (q::j) k=atKey j k:=by simp[atKey,Vm,l]
   rw[Dc e,b];exact y
section
variable{P:Xh}{w:Xd}{H:Hp}{h:Heap}{a:Addr}
theorem Hq(ok:HOk P w H h)(e:Rd H a u):ObjOk P w H h a u:=e.ok ok
theorem UY(ok:HOk P w H h)(e:Rd H a (.dK kvs)):kvs.length<=sizeLine/\(a==Z3)=false/\∃j,KV kvs j/\h.DictOf (Z9 P w) a j:=
 show ObjOk P w H h a (.dK kvs)from Hq ok e
theorem Hr(ok:HOk P w H h)(e:H a=some (.dK kvs)):kvs.length<=sizeLine/\(a==Z3)=false/\∃j,KV kvs j/\h.DictOf (Z9 P w) a j:=UY ok (.inl e)
theorem Bp(ok:HOk P w H h)(e:H a=some (.tup (ks.map kV))):(tupleKind (Z9 P w)).is h ks a:=by
 obtain⟨_,j,r,⟨o,l,u,n,y⟩,_⟩:=(show ObjOk P w H h a (.tup (ks.map kV))from ok a _ e);exact⟨o,j.toArray,n,l,u,y,by simpa using Ho r⟩
theorem Bq(ok:HOk P w H h)(e:Rd H a (.dT kvs)):kvs.length<=sizeLine/\(a==Z3)=false/\
  ∃u,KT H kvs u/\h.DictOfH (tupleKind (Z9 P w)) a u:=by
 obtain⟨z,y,u,r,o,d,c,f,L,N,O,R⟩:=(show ObjOk P w H h a (.dT kvs)from Hq ok e);refine⟨z,y,u,r,o,d,c,f,L,N,O,λx j=>?_,R⟩;have all:∀{l:List (List Key×V)} {m:List (List Key×Addr×Value)},KT H l m->∀x∈m,(tupleKind (Z9 P w)).is h x.1 x.2.1:=by
  intro l m q
  induction q with
  |nil=>intro x j;exact nomatch j
  | @cons p q U W g t T=>
   intro x j;rcases Xm.mp j with e|j
   .subst e;exact Bp ok (by rw[<-g.1];exact g.2.1)
   .exact T x j
 exact all r x j
end
def DGet(H:Hp)(a:Addr)(y:V)(r:Option V):Prop:=
 (∃j k,Rd H a (.dK j)/\y=kV k/\r=valV j k)\/∃j k b,Rd H a (.dT j)/\y=.ref b/\H b=some (.tup (k.map kV))/\r=valV j k
def DPut(H:Hp)(a:Addr)(y v:V)(l:Hp):Prop:=
 (∃j k,H a=some (.dK j)/\y=kV k/\j.length<sizeLine/\l=upd H a (.dK (putK j k v)))\/
 ∃j k b,H a=some (.dT j)/\y=.ref b/\H b=some (.tup (k.map kV))/\j.length<sizeLine/\l=upd H a (.dT (putK j k v))
theorem DGet.k{k:Key}(e:H a=some (.dK kvs)):DGet H a (kV k) (valV kvs k):=.inl ⟨kvs,k,.inl e,rfl,rfl⟩
section
variable{X:Cx}{pz:List (Addr×Obj)}{σ:St}{H:Hp}{s:X0}{a:Addr}{y v:V}{u r:Value}{o:Option V}{A:Xn}{E:Value->X0->Prop}
theorem Inv.big(I:Inv X pz σ H s):Z3<s.heap.objs.size:=by
 have h:Xl<s.heap.objs.size:=(I.mod.glob.keeps I.bk).lt;exact Wg (by decide) h
theorem RX(R:A.units+1<cLine)(I:Inv X pz σ H s)(g:DGet H a y (some v))(O:RelV y u)(h:∀d P,Inv X pz σ H P->RelV v d->Q d P):
  X3 (X4 X.prog X.w) A (getItem (.ref a) u) Q E s:=by
 rcases g with⟨c,k,e,f,l⟩|⟨c,k,b,e,f,T,l⟩
 .subst f;obtain⟨z,U,W,j,q⟩:=UY I.hok e;obtain⟨d,L,m⟩:=RelO.some_of (v:=v) (o:=Z6 W k) (by rw[l];exact j.val k)
  exact wpAny_getItem_of (Ws O) q.mapOf L (h d _ (I.tok _) m)
 .subst f;cases(show u=XE b from O);obtain⟨z,U,Y,j,q⟩:=Bq I.hok e;obtain⟨d,L,m⟩:=RelO.some_of (v:=v) (o:=(atKey Y k).map (·.2)) (by rw[l];exact j.val k)
  obtain⟨p,Z,N⟩:=CQ.mp L;refine wpAny_getItem_heap (tupleKind_room_in1 R) (Bp I.hok T) q Z ?_;rw[N];exact h d _ (I.tok _) m
theorem d_in(N:A.units+1<cLine)(I:Inv X pz σ H s)(g:DGet H a y o)(p:RelV y u)(h:∀L,Inv X pz σ H L->Q (.bool o.isSome) L):
  X3 (X4 X.prog X.w) A (Y4 .In u (.ref a)) Q E s:=by
 rcases g with⟨m,k,e,d,l⟩|⟨m,k,b,e,d,O,l⟩
 .subst d;obtain⟨z,c,P,j,f⟩:=UY I.hok e;refine wpAny_in_of (Ws p) c f.mapOf ?_;rw[<-(j.val k).isSome_eq,<-l];exact h _ (I.tok _)
 .subst d;cases(show u=XE b from p);obtain⟨z,c,R,j,f⟩:=Bq I.hok e;refine wpAny_in_heap (tupleKind_room_in1 N) (Bp I.hok O) c f ?_;have q:=(j.val k).isSome_eq;rw[Option.isSome_map]at q;rw[<-q,<-l];exact h _ (I.tok _)
theorem RY(N:A.units+1<cLine)(I:Inv X pz σ H s)(g:DGet H a y o)(p:RelV y u)(h:∀L,Inv X pz σ H L->Q (.bool (!o.isSome)) L):
  X3 (X4 X.prog X.w) A (Y4 .NotIn u (.ref a)) Q E s:=by
 rcases g with⟨m,k,e,d,l⟩|⟨m,k,b,e,d,O,l⟩
 .subst d;obtain⟨z,c,P,j,f⟩:=UY I.hok e;refine wpAny_notIn_of (Ws p) c f.mapOf ?_;rw[<-(j.val k).isSome_eq,<-l];exact h _ (I.tok _)
 .subst d;cases(show u=XE b from p);obtain⟨z,c,R,j,f⟩:=Bq I.hok e;refine wpAny_notIn_heap (tupleKind_room_in1 N) (Bp I.hok O) c f ?_;have q:=(j.val k).isSome_eq;rw[Option.isSome_map]at q;rw[<-q,<-l];exact h _ (I.tok _)
theorem Hs(z:kvs.length<=sizeLine)(l:(a==Z3)=false)(j:KV kvs vs)(m:h'.DictOf (Z9 P w) a vs):
  ObjOk P w H' h' a (.dK kvs):=⟨z,l,vs,j,m⟩
end
section
variable{X:Cx}{pz:List (Addr×Obj)}{σ:St}{H:Hp}{s:X0}{a:Addr}{kvs:List (Key×V)}{k:Key}{u:Value}{A:Xn}{E:Value->X0->Prop}
theorem RZ(I:Inv X pz σ H s)(e:Rd H a (.dK kvs))(h:∀t l,Inv X pz σ H l->Q (.int kvs.length t) l):X3 (X4 X.prog X.w) A (call (.builtin "len") [.ref a]) Q E s:=by
 obtain⟨z,y,g,j,m⟩:=UY I.hok e;refine call_len_dict y m (by rw[<-j.length];rw[sizeLine_eq]at z;lia) ?_
 rw[<-j.length];exact h _ _ (I.tok _)
end
theorem S0(I:Inv X pz σ H s)(g:DGet H a y o):s.TypeIs (.ref a) "dict":=by
 rcases g with⟨j,k,e,_,_⟩|⟨j,k,b,e,_,_,_⟩
 .obtain⟨_,_,u,_,l⟩:=UY I.hok e;exact l.typeIs
 .obtain⟨_,_,z,_,l⟩:=Bq I.hok e;exact l.typeIs
section
variable{X:Cx}{o i e value:Expr}{pos pos' tpos:Pos}{td ty tv:TE}
end
section
variable{X:Cx}{pos:Pos}
end
def Ht:List (TE×TE)->St->Hp->(List (V×V)->Hp->Prop)->Prop
 |[],_,H,Q=>Q [] H
 |(tk,tv)::r,σ,H,Q=>tk σ H λx j=>tv σ j λy l=>Ht r σ l λu z=>Q ((x,y)::u) z
abbrev VV:List (V×V)->List (Value×Value)->Prop:=Paired λp q=>RelV p.1 q.1/\RelV p.2 q.2
def PPs(X:Cx)(u:Pos)(l:List (Option Expr))(j:List Expr)(y:List (TE×TE)):Prop:=
 ∀(m:List (Addr×Obj))(s:X0)(z:St)(H:Hp)(Q:List (V×V)->Hp->Prop),Inv X m z H s->Ht y z H Q->
  X3 (X4 X.prog X.w) X.A (evalPairs (pairTrees l j X.env u)) (λc f=>∃g d,Inv X m z d f/\VV g c/\Q g d) X.xe s
theorem S1:PPs X pos [] [] []:=λj s l H Q I h=>pairTrees_nil_walk ⟨[],H,I,.nil,h⟩
theorem S2{X:Cx}{j:Pos}{k v:Expr}{d:List (Option Expr)}{c:List Expr}{f q:TE}{l:List (TE×TE)}(p:PE X k f)(e:PE X v q)(L:PPs X j d c l):
  PPs X j (some k::d) (v::c) ((f,q)::l):=λz s m H Q I h=>
 pairTrees_cons_walk (thn (p z s m H _ I h) λu N ⟨x,O,P,R,T⟩=>thn (e z N m O _ P T) λJ U ⟨y,W,Y,Z,B⟩=>
  thn (L z U m W _ Y B) λM S ⟨C,D,F,g,G⟩=>⟨(x,y)::C,D,F,.cons ⟨R,Z⟩ g,G⟩)
structure M1 (X:Cx)(o:Expr)(m:Str)(apos:Pos)(e:Expr)(cpos:Pos):Prop where
 base:VY o m X.env (eval o X.env)=eval o X.env
 few:((Yl cpos (Xs [e] X.env)).all (λx=>!x.1)&&(backToKw cpos (keywordEach [] X.env)).all (λx=>x.1.isSome)
  &&decide (([e]:List Expr).length+([]:List ZC).length+(if([]:List ZC).isEmpty then 0 else 1)<30))=true
 line:(apos.endLine==cpos.line)=true
 trees:Yl cpos (Xs [e] X.env)=[(false,eval e X.env)]
structure M2 (X:Cx)(o:Expr)(m:Str)(apos:Pos)(e f:Expr)(cpos:Pos):Prop where
 base:VY o m X.env (eval o X.env)=eval o X.env
 few:((Yl cpos (Xs [e,f] X.env)).all (λx=>!x.1)&&(backToKw cpos (keywordEach [] X.env)).all (λx=>x.1.isSome)
  &&decide (([e,f]:List Expr).length+([]:List ZC).length+(if([]:List ZC).isEmpty then 0 else 1)<30))=true
 line:(apos.endLine==cpos.line)=true
 trees:Yl cpos (Xs [e,f] X.env)=[(false,eval e X.env),(false,eval f X.env)]
section
variable{X:Cx}{pz:List (Addr×Obj)}{σ:St}{H:Hp}{s:X0}{a:Addr}{y d:V}{u r:Value}{o:Option V}{A:Xn}{E:Value->X0->Prop}
end
section
variable{X:Cx}{o e f:Expr}{apos cpos:Pos}{td ty tx:TE}
end
section
variable{X:Cx}{pz:List (Addr×Obj)}{σ:St}{H:Hp}{s:X0}{a:Addr}{kvs:List (Key×V)}{A:Xn}{E:Value->X0->Prop}
theorem S3(I:Inv X pz σ H s)(e:Rd H a (.dK kvs))(h:∀p u,H p=none->Inv X pz σ (upd H p (.dK kvs)) u->Q (.ref p) u):X3 (X4 X.prog X.w) A (call (.type "dict") [.ref a]) Q E s:=by
 obtain⟨z,m,c,j,g⟩:=UY I.hok e;refine kt_call_dict m g (by rw[<-j.length];exact z) λf l d=>?_
 refine h _ _ (I.hok.fresh (Xf _)) (I.laid (a:=s.heap.objs.size) (o:=.dK kvs) (t':=s.toks) (λb q y=>?_) (Xf _) (Hs z (beq_eq_false_iff_ne.mpr (ZM (XN I.big))) j l));exact(d.2 b (XN (Xq y))).trans (XD _ y)
end
section
variable{X:Cx}{pz:List (Addr×Obj)}{σ:St}{H:Hp}{s:X0}{a:Addr}{y:V}{u:Value}{A:Xn}{E:Value->X0->Prop}
end
end L2
namespace Att
open PySem PySem.W PySem.Calls PyProof.Rows
theorem S4:∀(j:List Int)(l:List Value),WellAll P h l (j.map WData.int)->IntsAre l j:=by
 intro j
 induction j with
 |nil=>
  intro l w;rw[Y6]at w;cases w;exact .nil
 |cons n j u=>
  intro l w;rw[Xp]at w;cases w with
  |cons a b=>
   cases a;exact .cons _ _ (u _ b)
theorem S5{l:OpenLaw}{n:Nat}(N:l.most=some n){P:Params}{h:Heap}{j:List WData}{w:List Value}
  (y:l.row.toRowW.claim.pre j=true)(f:WellAll P h w j):
  ∃a e u,w=[XE a]/\j=[WData.list (u.map WData.int)]/\h.get? a=some {cls:=.type "list",data:=.seq e.toArray}/\IntsAre e u/\u.length<=n:=by
 have p:WShape.hasAll [] j [.list .int]=true:=(pre_splitW y).1;have L:l.pre.holds [] {args:=j}=true:=(pre_splitW y).2;obtain⟨d,r,rfl,O,R⟩:=hasAllW_cons p;obtain rfl:=hasAllW_nil R;obtain⟨A,rfl,T⟩:=hasW_list O;obtain⟨u,rfl⟩:=items_int T;have z:u.length<=n:=by
  unfold OpenLaw.pre at L;have g:(WTm.not (.lt (.lit (.int (n:Int))) (.len (.arg 0)))).holds [] {args:=[.list (u.map .int)]}=true:=by
   have g:=(holds_andW L).1;rw[N]at g;exact g
  have c:=condW_of g (w_not (w_lt w_lit (w_len_list (w_arg rfl))));rw[X5]at c;refine Nat.le_of_not_lt λq=>?_;have U:(n:Int)<((u.length:Nat):Int):=by lia
  first
   |(rw[decide_eq_true U]at c;exact absurd c (by decide))
   |(simp at c;lia)
 cases f with
 |cons W Y=>
  cases Y;cases W with
  |list Z m=>exact⟨_,_,u,rfl,rfl,Z,S4 u _ m,z⟩
theorem S6(l:OpenLaw)(j:List WData):l.row.toRowW.claim.post j (.bool true) j=true:=
 postW_of (r:=l.row.toRowW) (X:=(true==true))
  (show WShape.has [] (.bool true) .bool=true by first|rfl|decide|simp[WShape.has,WShape.arms,WShape.armsAll])
  (show(WTm.eq .res (.lit (.bool true))).value [] {args:=j,res:=some (.bool true),after:=j}=some (.bool (true==true))from w_eq_bool (w_res rfl) w_lit) rfl
theorem attach_call{l:OpenLaw}{n:Nat}{q:Xh}{u:List Str}{C:(Str->Option Value)->Heap->Prop}{D:Xd->Heap->Prop}{d:DefRec}
  (M:l.most=some n)(T:d.params.defaults=[])
  (call:∀(w:Xd)(y j:X0)(N U:Str->Option Value)(c:Addr)(o:Obj)(W O z:Value)(a:Addr)(g:List Value)(P:List Int),
   Ground q u [] C w y N U j.heap->D w j.heap->
   j.heap.get? c=some o->o.data=.func (docDef d.name d.params d.body d.scope W O z)->j.heap.CodeRec O d.name->N d.name=some (.ref c)->
   j.heap.get? a=some {cls:=.type "list",data:=.seq g.toArray}->IntsAre g P->P.length<=n->j.gens=#[]->
   Z4 (X4 l.prog w) callerA (.call (.ref c) ⟨[.ref a],[]⟩) (λr R=>r=.ok (.ret (.bool true))/\OldK j.heap R.heap/\R.os=j.os/\AllBare R.gens) j):
  WalkO q u C D l.row.toRowW d [] (λf g=>PySem.call f g):=by
 intro w y j N U G Y c o W O z Q kV S X Z E A H F I as p J v B s;obtain rfl:Q=.none:=Dflts.none E T;obtain rfl:kV=.none:=Dflts.noKw E;obtain⟨a,g,P,rfl,rfl,e,m,L⟩:=S5 M p B;refine enter_call (Vb (call w y j N U c o W O z a g P G Y S (fd_plain X) Z A e m L H) λr R i=>?_);obtain⟨rfl,x,h,b⟩:=i;exact⟨.inl ⟨.bool true,.bool true,[],rfl,λ_=>rfl,.bool true,S6 l _,λ_=>⟨List.Pairwise.nil,λ_ hm=>(nomatch hm)⟩⟩,x,h,b⟩
section
variable{prog:Xh}{w:Xd}{A:Xn}{E:Value->X0->Prop}{s:X0}{K:Frag}
noncomputable def ledger(h:Heap)(L d:Addr):List (Addr×Obj):=(XI h.objs.size).filterMap λa=>if a=L\/a=d then none else(h.get? a).map λo=>(a,o)
end
end Att
namespace L2
open PySem PySem.Spec PyProof.Rows
theorem Hu:∀{j:List Value} {l:List Int},IntsAre j l->Vals (l.map V.int) j
 |_,_,.nil=>.nil
 |_,_,.cons n t h=>.cons ⟨t,rfl⟩ (Hu h)
noncomputable def Only(H:Hp):Prop:=∀b,H b=none\/∃o j,H b=some (.frz o (.lst j))
theorem S7{K:X1}{k:Nat}
  (M:K.In s₁.heap)(L:s₁.heap.Ns Xl mg)(l:s₁.heap.Ns builtinsNs mb)(C:∀x:Str,x≠"__name__"->mb x=Yu x)(N:s₁.heap.NoLimit)(hg:s₁.gens=#[])
  (B:s₁.heap.get? a=some {cls:=.type "list",data:=.seq vs.toArray})(Q:IntsAre vs ns)(S:ns.length<=sizeLine)(hr:Room k callerA)
  (F:∀y:Heap,K.In y->y.Ns Xl mg->FnOk P w K mg y CX k fa fd [x] sp)(p:∀(s:X0)(u:Value),BindsTo s fd ⟨[u],[]⟩ [(x,u)])
  (D:∀H:Hp,Only H->SqL K H a (ns.map V.int)->sp [.ref a] H (λv _=>v=.bl true) λ_ _ _=>False)
  (E:∀H e g,CX [] H s₁ (λ_ _ _=>False) e g->False):
  Z4 (X4 P w) callerA (.call (.ref fa) ⟨[.ref a],[]⟩) (λr g=>r=.ok (.ret (.bool true))/\OldK s₁.heap g.heap/\g.os=s₁.os/\AllBare g.gens) s₁:=by
 have X:=Hu Q;have O:=Q.length;have f:∀H:Hp,Only H->SqL K H a (ns.map V.int)->HOk P w H s₁.heap->(∀b,H b≠none->b=a)->(H a≠none->K.lookup a=none)->
   Z4 (X4 P w) callerA (.call (.ref fa) ⟨[.ref a],[]⟩) (λr g=>r=.ok (.ret (.bool true))/\OldK s₁.heap g.heap/\g.os=s₁.os/\AllBare g.gens) s₁:=by
  intro H i hS R hA hK;have j:∀{b:Addr} {o:Obj},s₁.heap.get? b=some o->H b=none->(hidT s₁.heap H).get? b=some o:=λe n=>Qp e n;have G:∀{b:Addr} {o:Obj} {T:Array DictEntry} {U:Nat},s₁.heap.get? b=some o->o.data=.dict T U->H b=none:=fun{b o T U} e d=>by
   cases q:H b with
   |none=>rfl
   |some u=>
    have I:b=a:=hA b (by rw[q];simp)
    subst I;rw[B]at e;cases e;have d':Data.seq vs.toArray _=Data.dict T U:=d;cases d'
  have c:∀{b:Addr} {m:Str->Option Value},s₁.heap.Ns b m->(hidT s₁.heap H).Ns b m:=fun{b m} ⟨o,T,U,e,d,r⟩=>⟨o,T,U,j e (G e d),d,r⟩;have W:K.In (hidT s₁.heap H):=λb o e=>j (M b o e) (by
   cases q:H b with
   |none=>rfl
   |some u=>
    have I:b=a:=hA b (by rw[q];simp)
    subst I;rw[hK (by rw[q];simp)]at e;cases e)
  have hM:Mod K mg (hidT s₁.heap H):=⟨W,c L,⟨mb,c l,C⟩,let⟨mc,h1,h2⟩:=N;⟨mc,c h1,h2⟩⟩
  have e0:Env0 P w K mg (hidT s₁.heap H) callerA [] s₁ H:=⟨rfl,hM,λb o e=>Qq e,Vq (Qo _ _),trivial,λb l=>absurd (show b∈([]:List Addr)from l) (by simp),R,.of_eq hg⟩
  refine Vb ((F _ W (c L)).run callerA [] s₁ H ⟨[.ref a],[]⟩ [.ref a] [.ref a] _ _ hr e0 (p s₁ (.ref a)) (.cons rfl .nil) (D H i hS)) λr g h=>?_;cases r with
  |error e=>exact(E H e g h).elim
  |ok fl=>
   cases fl with
   |next=>exact XS h
   |brk=>exact XS h
   |cont=>exact XS h
   |ret u=>
    obtain⟨v,H',os,Y,un,Z,r',q⟩:=h;have q':v=.bl true:=q;subst q';obtain rfl:u=UT true:=r';refine⟨rfl,OldK.of_keep λb o e=>?_,os,Y⟩;cases q:H b with
    |none=>exact un.keep b o e q (by intro z;exact absurd (show b∈([]:List Addr)from z) (by simp)) (by simp)
    |some u=>
     rcases i b with z|⟨ob,xs,z⟩
     .rw[q]at z;cases z
     .have z2:=un.frzs b ob _ z;obtain⟨e1,_⟩:=R b _ z;obtain⟨e2,_⟩:=Z b _ z2;rw[e]at e1;cases e1;exact e2
 cases J:K.lookup a with
 |some o=>
  have e:=M a o J;rw[B]at e;cases e;refine f (λ_=>none) (λ_=>.inl rfl) (.inr ⟨_,vs.toArray,_,J,rfl,rfl,rfl,by rw[XW,O];exact S,by simpa using X⟩) (λb u z=>by have A:(none:Option HO)=some u:=z;cases A) (λb z=>absurd rfl z) λz=>absurd rfl z
 |none=>
  refine f (fun b=>if b=a then some (.frz {cls:=.type "list",data:=.seq vs.toArray} (.lst (ns.map V.int)))else none) (fun b=>?_) (.inl (.inr ⟨{cls:=.type "list",data:=.seq vs.toArray},if_pos rfl⟩)) (fun b u z=>?_) (fun b z=>?_) fun _=>J
  .by_cases l:b=a
   .exact .inr ⟨_,_,if_pos l⟩
   .exact .inl (if_neg l)
  .by_cases l:b=a
   .have A:=(if_pos l).symm.trans z;cases A;subst l;exact⟨B,by rw[X5];exact S,vs,_,X,B⟩
   .have A:=(if_neg l).symm.trans z;cases A
  .by_cases l:b=a
   .exact l
   .exact absurd (if_neg l) z
noncomputable abbrev KOf{K:X1}{h:Heap}(_:K.In h):X1:=K
theorem walk_of{l:Cz}{n k:Nat}{q:Xh}{z:List Str}{J:(Str->Option Value)->Heap->Prop}{A:Xd->Heap->Prop}{d:DefRec}{K:Params->X1}{B:Xd->CXT}{C:Xd->Sp}{x:Str}
  (M:l.most=some n)(O:n<=sizeLine)(P:d.params.defaults=[])(Q:Room k callerA)
  (S:∀(w:Xd)(h:Heap),A w h->(K w.params).In h)
  (F:∀(w:Xd)(g:Str->Option Value)(L:Addr)(h:Heap),(K w.params).In h->h.Ns Xl g->g d.name=some (.ref L)->
   ∃R:Xi,(∀(s:X0)(u:Value),BindsTo s R ⟨[u],[]⟩ [(x,u)])/\
    ∀j:Heap,(K w.params).In j->j.Ns Xl g->FnOk l.prog w (K w.params) g j (B w) k L R [x] (C w))
  (T:∀(w:Xd)(H:Hp)(a:Addr)(N:List Int),N.length<=n->Only H->SqL (K w.params) H a (N.map V.int)->C w [.ref a] H (λv _=>v=.bl true) λ_ _ _=>False)
  (U:∀(w:Xd)(H:Hp)(s:X0)(e:Value)(W:X0),B w [] H s (λ_ _ _=>False) e W->False):
  PySem.W.WalkO q z J A l.row.toRowW d [] (λf D=>PySem.call f D):=by
 refine Att.attach_call M P λw E c g mb L o pm cd X a D N G Y ho hd i Z p m y b=>?_;have I:=S w _ Y;obtain⟨R,hb,hF⟩:=F w g L _ I G.T.g Z;exact S7 I G.T.g G.T.b G.T.builtins G.T.nolimit b p m (Y7 y O) Q hF hb (λH hO hS=>T w H a N y hO hS) λH e W=>U w H c e W
end L2
/- THE LAST THEOREM (shape;LID,My.*are yours):
  My.Adr:a structure of the addresses that your layer names (classes,functions);My.Txt K t:a structure(Prop) of the equations over K;
  My.txt_mk:{K} {implicit addresses ..} (e1:nsIn K Xl "law"=some (some (.ref f))) (e2:K.lookup f=some ⟨oc,od,.func (fnOf "law" "law" params body scope dV kV doc pm an cdv ct),sl⟩) (e3:codeIn K cdv "law"=true) ..:∃t,My.Txt K t
set_option maxRecDepth 100000 in
set_option maxHeartbeats 0 in
theorem PySem.Challenge.cw_LID_holds : PySem.Challenge.rw_LID.Holds := by
 w_on;o_law;k_head;(case hw=>w_witness2)
 k_fill
 refine L2.walk_of (l:=PySem.Challenge.rw_LID) (n:=63) (k:=40) (x:="script") (CX:=fun w=>..) (sp:=fun _=>My.sp_law) rfl (by decide) rfl ⟨rfl,by decide,by decide⟩ (fun w h Y=>PySem.W.kIn_of Y) ?F ?S ?C
 case F=>
  intro w mg fa h KX G hmg;have T:∃t,My.Txt (L2.KOf KX) t:=by
   dsimp only[L2.KOf] -- K must stand as «<heap const> w.params» for k_is
   refine' My.txt_mk ?e1 ?e2 ?e3 ..
   (case e1=>PySem.W.k_is) -- in the order:a name->its address->its object->its parts
   (case e2=>PySem.W.k_is)
   ..
  obtain⟨t,T⟩:=T;have e0:=hmg.symm.trans (YG KX G T.law);cases e0 -- fa is the law's own address
  exact⟨_,λs u=>.of_eq rfl,λbase kb nb=>My.law_fn T kb nb⟩ -- if «.of_eq rfl» comes too early:refine' ⟨_,?b,λbase kb nb=>My.law_fn T kb nb⟩;exact λs u=>.of_eq rfl
 case S=>exact λw H a ns hl hO hS=>..
 case C=>exact ..
(the tactic k_is has no namespace:write k_is) -/
namespace L2
open PySem PySem.Spec PyProof.Rows
noncomputable def VB(s:Stmt):Arguments:=match s with
 |.FunctionDef _ a _ _ _ _ _ _ _ _=>a
 |_=>{posonlyargs:=[],args:=[],vararg:=none,kwonlyargs:=[],kw_defaults:=[],kwarg:=none,defaults:=[]}
noncomputable def Xo(s:Stmt):List Stmt:=match s with
 |.FunctionDef _ _ b _ _ _ _ _ _ _=>b
 |_=>[]
noncomputable def X8(s:Stmt):Scope:=match s with
 |.FunctionDef _ _ _ _ _ _ sc _ _ _=>sc
 |_=>{kind:=.function,names:=[],isGenerator:=false,isCoroutine:=false}
noncomputable abbrev CX0:CXT:=λ_ _ _ _ _ _=>False
noncomputable abbrev E0:XK:=λ_ _ _=>False
theorem S8{X:Cx}:Wp CX0 X E0:=λ_ _ _ _ _ _ _ h=>h.elim
structure Fun (K:X1)(x qual:Str)(st:Stmt)(f:Addr)(fd:Xi):Prop where
 ex:∃(oc:Value) (od:Option Addr) (kV doc pm:Value) (an:Option Addr) (cdv ct:Value) (osl:Array (Option Value)),
  fd=Uq x qual (VB st) (Xo st) (X8 st) .none kV doc pm an cdv ct/\K.lookup f=some ⟨oc,od,.func fd,osl⟩/\CB K cdv qual=true
 kp:YV K (.ref f)=true
section
variable{P:Xh}{w:Xd}{K:X1}{mg:Str->Option Value}{base:Heap}
theorem Fun.ok{st:Stmt}{k:Nat}(F:Fun K x qual st f fd)(S:FnScope N ps (X8 st))(len:∀vs H Q E,sp vs H Q E->vs.length=ps.length)
  (u:∀(l:Value)(A:Xn)(j:List Env)(s:X0)(H:Hp)(vs:List V)(Q:VK)(E:XK),Room k (A.deeper (envOfC qual (X8 st) s.heap.objs.size f l))->sp vs H Q E->
   ∃t,PSs (cxOf CX0 P w K mg base N qual (X8 st) f l A j s H E).nox (Xo st) t/\t {nx:=λ_ m=>Q .non m,rt:=Q} (start N vs) H):FnOk P w K mg base CX0 (k+1) f fd ps sp:=by
 obtain⟨e,L,kV,g,O,R,l,T,d,rfl,c,y⟩:=F.ex;refine Hc c y S len λA j s H vs Q E p z=>?_;obtain⟨t,h,q⟩:=u l A j s H vs Q E p z;exact⟨t,h.nox,q⟩
theorem Fun.binds{st:Stmt}(F:Fun K x qual st f fd)
  (h:∀(kV j u:Value)(y:Option Addr)(l z:Value)(m:List Value),m.length=ps.length->bindArgs (Uq x qual (VB st) (Xo st) (X8 st) .none kV j u y l z) ⟨m,[]⟩=pure (ps.zip m)):Binds K fd ps []:=by
 obtain⟨c,q,kV,j,u,y,l,z,g,rfl,p,d⟩:=F.ex;exact .all (h kV j u y l z)
theorem fun_mk{st:Stmt}{kV:Value}(l:K.lookup f=some ⟨oc,od,.func (Uq x qual (VB st) (Xo st) (X8 st) .none kV doc pm an cdv ct),osl⟩)
  (c:CB K cdv qual=true)(k:YV K (.ref f)=true):Fun K x qual st f (Uq x qual (VB st) (Xo st) (X8 st) .none kV doc pm an cdv ct):=⟨⟨oc,od,kV,doc,pm,an,cdv,ct,osl,rfl,l,c⟩,k⟩
end
section
variable{X:Cx}
theorem pv(i:Nat)(l:X.N[i]?=some x:=by rfl)(u:Vis X.env.scope x:=by first|exact Or.inl rfl|exact Or.inr (Or.inl rfl)|exact Or.inr (Or.inr rfl))(w:(x==("__debug__":Str))=false:=by decide)
  (j:(x==("__classdict__":Str))=false:=by decide):PE X (.Name x pos) (tVar i):=Bl l u w j
end
noncomputable def Same(H j:Hp):Prop:=∀b o,H b=some o->j b=some o
section
variable{X:Cx}
theorem S9:YI X (.builtin "len") (fun l H Q=>∃a j,l=[V.ref a]/\H a=some (.dK j)/\Q (.int j.length) H):=by
 intro m s g H l d Q I r h;obtain⟨a,j,rfl,w,q⟩:=h;obtain⟨u,rfl,y⟩:=U9 r;cases y;exact RZ I (.inl w) λt c z=>⟨.int j.length,H,z,⟨t,rfl⟩,q⟩
end
section
variable{κ:Type} [DecidableEq κ]
theorem Hv:∀{l:List κ} {k:κ},l.Nodup->¬k∈l->(l++[k]).Nodup
 |[],k,_,_=>by simp
 |a::r,k,h,hk=>by
  obtain⟨j,u⟩:=ZH.mp h;show(a::(r++[k])).Nodup;refine ZH.mpr ⟨λm=>?_,Hv u λm=>hk (Xm.mpr (Or.inr m))⟩;rcases XZ.mp m with q|q
  .exact j q
  .exact hk (Xm.mpr (Or.inl (U0.mp q).symm))
end
theorem Hw:Yu "isinstance"=some (.builtin "isinstance"):=by decide+kernel
section
variable{X:Cx}
noncomputable def Wt(i j:Int):Prop:=0<j/\j<2^256
theorem Sa(h:Wt i j):j.natAbs.log2<9000:=by
 have u:(0:Int)<j:=h.1;have w:j<2^256:=h.2;have l:j.natAbs≠0:=by lia
 have:j.natAbs<2^256:=by lia
 have:=(Nat.log2_lt l).mpr this;lia
theorem Sb:OpR X (YE .FloorDiv) (rI Wt λi j=>.int (i/j)):=opI λi j _ _ _ _ _ l q=>by
 have u:(0:Int)<j:=l.1;exact floordiv_int (by lia) (by rw[Int.fdiv_eq_ediv_of_nonneg i (by lia)];exact q) (.inl (PyProof.noPylong_of_log2 (Sa l)))
theorem Sc:YI X (.builtin "isinstance") (fun l H Q=>∃x c t b,l=[x,.ty c]/\TyOf X.K H x t/\U6 X.K t (.type c)=some b/\Q (.bl b) H):=by
 intro z s m H l g Q I r h;obtain⟨x,c,t,b,rfl,ty,e,q⟩:=h;obtain⟨u,d,rfl,w,j⟩:=Wo r;cases j;exact Rj I w ty e λy=>⟨.bl b,H,I.tok y,rfl,q⟩
end
section
variable{X:Cx}{pz:List (Addr×Obj)}{σ:St}{H:Hp}{s:X0}
end
section
variable{X:Cx}
end
end L2
namespace L2
end L2
namespace L2
open PySem PySem.Spec PyProof.Rows
noncomputable def clOf(j:List (Str×Addr)):List (Str×Ze)->List (Str×Addr)->List (Str×Addr)
 |[],acc=>acc
 |(n,k)::r,acc=>if k=.free then(match j.lookup n with|some a=>clOf j r ((n,a)::acc)|none=>clOf j r acc)else clOf j r acc
theorem Wu(j:List (Str×Addr)):∀(u:List (Str×Ze))(l:List (Str×Addr))(x:Str)(c:Addr),(clOf j u l).lookup x=some c->l.lookup x=some c\/j.lookup x=some c
 |[],l,x,c,h=>.inl h
 |(n,k)::r,l,x,c,h=>by
  unfold clOf at h;by_cases hk:k=.free
  .rw[if_pos hk]at h;cases w:j.lookup n with
   |none=>rw[w]at h;exact Wu j r l x c h
   |some a=>
    rw[w]at h;rcases Wu j r _ x c h with q|q
    .by_cases hx:x=n
     .subst hx;simp at q;subst q;exact .inr w
     .have y:(x==n)=false:=beq_eq_false_iff_ne.mpr hx;simp only[ZG,y]at q;exact .inl q
    .exact .inr q
  .rw[if_neg hk]at h;exact Wu j r l x c h
theorem Br(j:List (Str×Addr)):∀(u:List (Str×Ze))(l:List (Str×Addr))(x:Str)(c:Addr),j.lookup x=some c->l.lookup x=some c->(clOf j u l).lookup x=some c
 |[],l,x,c,_,h=>h
 |(n,k)::r,l,x,c,h,ha=>by
  unfold clOf;by_cases hk:k=.free
  .rw[if_pos hk];cases w:j.lookup n with
   |none=>exact Br j r l x c h ha
   |some a=>
    refine Br j r _ x c h ?_;by_cases hx:x=n
    .subst hx;rw[h]at w;cases w;simp
    .have y:(x==n)=false:=beq_eq_false_iff_ne.mpr hx;simp only[ZG,y];exact ha
  .rw[if_neg hk];exact Br j r l x c h ha
theorem Wv(j:List (Str×Addr)):∀(l:List (Str×Ze))(u:List (Str×Addr))(x:Str)(c:Addr),(x,Ys)∈l->j.lookup x=some c->(clOf j l u).lookup x=some c
 |[],u,x,c,h,_=>by cases h
 |(n,k)::r,u,x,c,h,ha=>by
  unfold clOf;rcases Xm.mp h with e|h
  .cases e;rw[if_pos rfl,ha];exact Br j r _ _ c ha (by simp)
  .by_cases hk:k=.free
   .rw[if_pos hk];cases w:j.lookup n with
    |none=>exact Wv j r u x c h ha
    |some a=>exact Wv j r _ x c h ha
   .rw[if_neg hk];exact Wv j r u x c h ha
theorem Dd(f:Str×Ze->List (Str×Addr)->Sem (ForInStep (List (Str×Addr))))
  (w:∀n k r,f (n,k) r=if(k==Ys)=true then(cellOf env n >>= λa=>pure (Bg ((n,a)::r)))else pure (Bg r)):
  ∀(j:List (Str×Ze))(l:List (Str×Addr)),(∀y∈j,y.2=.free->∃c,env.cells.lookup y.1=some c)->(forIn j l f:Sem (List (Str×Addr)))=pure (clOf env.cells j l)
 |[],l,_=>by rw[List.forIn_nil];rfl
 |(n,k)::r,l,h=>by
  rw[List.forIn_cons,w];have z:∀y∈r,y.2=.free->∃c,env.cells.lookup y.1=some c:=λy m=>h y (XU _ m);by_cases hk:k=.free
  .subst hk;obtain⟨c,g⟩:=h (n,.free) XY rfl;have u:env.cells.lookup n=some c:=g;have e:cellOf env n=pure c:=by unfold cellOf;rw[u]
   rw[if_pos (by decide),e,pure_bind,pure_bind]
   show forIn r ((n,c)::l) f=_;rw[Dd f w r _ z];simp only[clOf,if_pos,u]
  .have d:(k==Ys)=false:=by simpa using hk
   rw[d,if_neg Xu,pure_bind];show forIn r l f=_;rw[Dd f w r _ z];simp only[clOf,if_neg hk]
theorem Hx(h:∀y∈scope.names,y.2=.free->∃c,env.cells.lookup y.1=some c):closureFor scope env=pure (clOf env.cells scope.names []):=by
 unfold closureFor;simp only[bind_pure];exact Dd _ (λn k r=>by
  by_cases hk:(k==Ys)=true
  .simp only[hk,if_true]
  .simp only[hk,if_false]) scope.names [] h
noncomputable def VC(l j:Scope)(N own:List Str)(u:List Nat):Bool:=
 decide (j.kind=.function)&&j.names.all (λy=>decide (y.2≠.cell))&&j.names.all (λy=>decide (y.2=.local->j.names.lookup y.1=some .local))&&
 j.names.all (λy=>decide (y.2=.free->l.names.lookup y.1=some .cell\/l.names.lookup y.1=some .free))&&
 u.all (λi=>match N[i]? with|some x=>decide ((x,Ys)∈j.names/\j.names.lookup x=some .free/\(l.names.lookup x=some .cell\/l.names.lookup x=some .free))|none=>false)
structure CompOk (osc scope:Scope)(N:List Str)(fr:List Nat):Prop where
 kind:scope.kind=.function
 nocell:∀y∈scope.names,y.2≠.cell
 names:∀y∈scope.names,y.2=.local->scope.names.lookup y.1=some .local
 has:∀y∈scope.names,y.2=.free->osc.names.lookup y.1=some .cell\/osc.names.lookup y.1=some .free
 frees:∀i∈fr,∃x,N[i]?=some x/\(x,Ys)∈scope.names/\scope.names.lookup x=some .free/\(osc.names.lookup x=some .cell\/osc.names.lookup x=some .free)
theorem VD{l j:Scope}{N own:List Str}{u:List Nat}(h:VC l j N own u=true):CompOk l j N u:=by
 unfold VC at h;simp only[XM,Uo,decide_eq_true_eq]at h;obtain⟨⟨⟨⟨w,y⟩,z⟩,m⟩,g⟩:=h;refine⟨w,y,z,m,λi d=>?_⟩;have q:=g i d;cases e:N[i]? with
 |none=>rw[e]at q;simp at q
 |some x=>rw[e]at q;simp only[decide_eq_true_eq]at q;exact⟨x,rfl,q⟩
noncomputable def sC(own:List Str)(j:List Nat)(l:St):St:=own.map (λ_=>none)++j.map (λi=>l.getD i none)
noncomputable def nC(own:List Str)(j:List Nat)(N:List Str):List Str:=own++j.map (λi=>N.getD i Vv)
def cxC(X:Cx)(j:Scope)(own:List Str)(w:List Nat)(C:Addr)(y:List Addr)(l:X0)(u:Hp):Cx:=
 {X with N:=nC own w X.N,s₀:=l,H₀:=u,env:=compEnvC j (clOf X.env.cells j.names []) C X.env,outer:=X.stack,ex:=y,fn:=λ_=>false,xe:=λ_ _=>False}
noncomputable def Keep(l j:St):Prop:=l.length=j.length/\∀(i:Nat)(v:V),l[i]?=some (some v)->j[i]?=some (some v)
noncomputable def tAll:TT:=λ_ H Q=>Q true H
def PTs(X:Cx)(j:List Expr)(t:TT):Prop:=(j=[]/\t=tAll)\/∃c,j=[c]/\PT X c t
section
variable{prog:Xh}{w:Xd}{A:Xn}{R:Result->X0->Prop}{s:X0}
theorem Sd(I:Nat->X0->Prop)
  (turn:∀n s,I n s->X3 (X4 prog w) A (pyNext it) (λr j=>match r with
   |none=>R (.ok .next) j
   |some v=>X3 (X4 prog w) A (AE target it v) (λ_ l=>X3 (X4 prog w) A (assign target env v) (λ_ z=>
     X3 (X4 prog w) A (forIn ifs true λc r=>if r=true then do let ok<- isTrue c env (eval c env);pure (Bg ok)else pure (Bg r)) (λok u=>
      if ok=true then X3 (X4 prog w) A (eval elt env) (λx g=>
       X3 (X4 prog w) A (call (.builtin "list.append") [acc,x]) (fun _ d=>∃m,m<n/\I m d) (fun _ _=>False) g) (fun _ _=>False) u
      else∃m,m<n/\I m u) (λ_ _=>False) z) (λ_ _=>False) l) (λ_ _=>False) j) (λ_ _=>False) s)
  (n:Nat)(h:I n s):
  Z4 (X4 prog w) A (.compLoop (.ListComp elt [⟨target,iter,ifs,0⟩] scope pos) 0 it acc env) R s:=by
 refine codeAny_loop rfl I (λn s O=>?_) n h;show X3 _ A ((compTurn (.ListComp elt [⟨target,iter,ifs,0⟩] scope pos) 0 it acc env).onRaise (λx=>do noteFrame x env;theTreesLotGoes x)) _ _ s
 refine wpAny_noted ?_;rw[compTurn_list];refine X2 (wpAny_standAt (X2 (Yg (turn n s O) (λr j f=>?_) λ_ _ y=>y.elim)));cases r with
 |none=>exact Xa f
 |some v=>
  refine X2 (Yg f (λ_ l p=>?_) λ_ _ y=>y.elim);refine X2 (Yg p (λ_ z e=>X2 (Yg e (λok u q=>?_) λ_ _ y=>y.elim)) λ_ _ y=>y.elim);cases ok with
  |false=>exact Xa ⟨rfl,q⟩
  |true=>
   exact X2 (X2 (Yg q (λx g L=>X2 (Yg L (λ_ d N=>Xa (Xa ⟨rfl,N⟩)) λ_ _ y=>y.elim)) λ_ _ y=>y.elim))
end
theorem Se(h:Q true H):tAll σ H Q:=h
section
variable{X:Cx}{pz:List (Addr×Obj)}{σ:St}{H1:Hp}{s2:X0}{tg elt iter:Expr}{ifs:List Expr}{scope:Scope}{pos:Pos}{own:List Str}{fr:List Nat}{g:TG}{tt:TT}{te:TE}
theorem Hy{scope:Scope}{j:Env}{x:Str}:∀{l:List (Str×Ze)},l.lookup x=some .free->
  (l.map fun(n,k)=>if(k==Ys&&j.scope.kind==.function&&j.kindOf n==some .cell)then(n,Vs)else(n,k)).lookup x=some .cell\/
  (l.map fun(n,k)=>if(k==Ys&&j.scope.kind==.function&&j.kindOf n==some .cell)then(n,Vs)else(n,k)).lookup x=some .free
 |[],h=>by simp at h
 |(n,k)::r,h=>by
  have w:=@Hy scope j x r;show List.lookup x ((if(k==Ys&&j.scope.kind==.function&&j.kindOf n==some .cell)=true then(n,Vs)else(n,k))::_)=_\/List.lookup x ((if(k==Ys&&j.scope.kind==.function&&j.kindOf n==some .cell)=true then(n,Vs)else(n,k))::_)=_;cases u:x==n with
  |true=>
   simp only[ZG,u]at h;cases h;by_cases hc:(Ys==Ys&&j.scope.kind==.function&&j.kindOf n==some .cell)=true
   .rw[if_pos hc];simp only[ZG,u];exact .inl trivial
   .rw[if_neg hc];simp only[ZG,u];exact .inr trivial
  |false=>
   simp only[ZG,u]at h;by_cases hc:(k==Ys&&j.scope.kind==.function&&j.kindOf n==some .cell)=true
   .rw[if_pos hc];simp only[ZG,u];exact w h
   .rw[if_neg hc];simp only[ZG,u];exact w h
theorem Hz{scope:Scope}{j:Env}(z:∀y∈scope.names,y.2≠.cell){x:Str}:∀{l:List (Str×Ze)},(∀y∈l,y.2≠.cell)->
  ((l.map fun(n,k)=>if(k==Ys&&j.scope.kind==.function&&j.kindOf n==some .cell)then(n,Vs)else(n,k)).lookup x=some .cell\/
  (l.map fun(n,k)=>if(k==Ys&&j.scope.kind==.function&&j.kindOf n==some .cell)then(n,Vs)else(n,k)).lookup x=some .free)->(x,Ys)∈l
 |[],_,h=>by simp at h
 |(n,k)::r,hnc,h=>by
  have w:=@Hz scope j z x r (λy m=>hnc y (XU _ m));have d:k≠.cell:=hnc (n,k) XY;simp only[Xp]at h;cases u:x==n with
  |true=>
   have e:x=n:=eq_of_beq u;subst e;by_cases hc:(k==Ys&&j.scope.kind==.function&&j.kindOf x==some .cell)=true
   .have:k=.free:=by
     simp only[XM,beq_iff_eq]at hc;exact hc.1.1
    subst this;exact XY
   .rw[if_neg hc]at h;simp at h;rcases h with h|h
    .exact absurd h d
    .subst h;exact XY
  |false=>
   by_cases hc:(k==Ys&&j.scope.kind==.function&&j.kindOf n==some .cell)=true
   .rw[if_pos hc]at h;simp only[ZG,u]at h;exact XU _ (w h)
   .rw[if_neg hc]at h;simp only[ZG,u]at h;exact XU _ (w h)
theorem Sf(ok:CompOk X.env.scope scope X.N fr)(f:Inv X pz σ H3 s3)(T:C=s3.heap.objs.size)(U:∀b∈fp,FpOk X pz H3 b)(Y:∀b∈fp,∃o,s3.heap.get? b=some o)
  (G:h4.Ns C m)(P:∀b o,s3.heap.get? b=some o->h4.get? b=some o):
  Inv (cxC X scope own fr C fp s3 H3) pz (sC own fr σ) H3 {s3 with heap:=h4,toks:=tk}:=by
 have l:∀x c,(clOf X.env.cells scope.names []).lookup x=some c->X.env.cells.lookup x=some c:=λx c h=>(Wu _ _ _ _ _ h).elim (λz=>by simp at z) id
 have Z:∀x c,X.env.cells.lookup x=some c->c<s3.heap.objs.size:=λx c e=>let⟨v,q⟩:=f.cell x c e;q.lt
 have R:∀b∈fp,b<s3.heap.objs.size:=λb N=>let⟨o,e⟩:=Y b N;Xq e
 have L:∀x,(X.env.scope.names.lookup x=some .cell\/X.env.scope.names.lookup x=some .free)->∃c,X.env.cells.lookup x=some c:=λx h=>f.ok.has x h;refine⟨⟨f.ok.mod,ok.kind,f.ok.glob,f.ok.blt,Vq T.symm,λx y c I J=>f.ok.inj x y c (l x c I) (l y c J),λx M=>?_,λx c z=>?_,f.ok.hd,f.ok.frames,.inl rfl,λb N=>⟨?_,λx c e=>?_⟩,λb o e=>f.bs b o e,Y7 f.ok.bsz f.sz,λb o e N=>?_,λb N Q=>?_,f.stack,λb N=>f.stkFree b N⟩,
  rfl,f.bare,Un.kept P,⟨m,G,λi x v S H e3=>?_⟩,λx c e=>?_,?_,λx c e=>f.freeC x c (l x c e),λp s=>?_,f.hok.kept P,?_⟩
 . -- has
  have W:(x,Ys)∈scope.names:=Hz (scope:=scope) (j:=X.env) ok.nocell ok.nocell M;obtain⟨c,A⟩:=L x (ok.has _ W rfl);exact⟨c,Wv _ _ _ _ _ W A⟩
 .exact absurd z Xu
 .exact XN (by rw[T];exact R b N)
 .exact(U b N).2.2.2.2.1 x c (l x c e)
 .rcases(U b N).2.2.2.1 with z|z
  .exact f.ok.noex b o e z
  .exact absurd (YH (Xq e) (Y7 f.ok.bsz z)) (Us _)
 .rcases Xm.mp (f.stkSub b Q)with z|z
  .exact(U b N).2.1 z
  .exact(U b N).2.2.1 z
 . -- a free name's value
  have w:(own.map (λ_=>(none:Option V))++fr.map (λi=>σ.getD i none))[i]?=some (some v):=H;have O:(own++fr.map (λi=>X.N.getD i Vv))[i]?=some x:=S;by_cases hi:i<own.length
  .rw[YU (by simpa using hi),Xj]at w
   cases q:own[i]? with
   |none=>rw[q]at w;cases w
   |some z=>rw[q]at w;cases w
  .rw[Zh (by simpa using hi)]at w
   rw[Zh (by simpa using hi)]at O
   simp only[X5]at w;rw[Xj]at O w;cases q:fr[i - own.length]? with
   |none=>rw[q]at w;cases w
   |some j=>
    rw[q]at O w;obtain⟨y,F,W,a,B⟩:=ok.frees j (Y5 q);have ex:x=y:=by
     have:X.N.getD j Vv=y:=by rw[ZY,F];rfl
     simp only[Option.map_some,this,B6]at O;exact O.symm
    subst ex;have ev:σ[j]?=some (some v):=by
     simp only[Option.map_some,B6]at w;rw[ZY]at w;cases z:σ[j]? with
     |none=>rw[z]at w;cases w
     |some o=>rw[z]at w;cases w;rfl
    obtain⟨m0,hn0,D⟩:=f.loc;obtain⟨u,ru,lk⟩:=D j x v F ev (.inr B);refine⟨u,ru,.inr ⟨Hy (scope:=scope) a,?_⟩⟩;rcases lk with⟨k1,_⟩|⟨_,c,A,z⟩
    .have E:X.env.scope.names.lookup x=some .local:=k1;rw[E]at B;rcases B with z|z<;>cases z
    .exact⟨c,Wv _ _ _ _ _ W A,z.keeps P⟩
 .obtain⟨v,z⟩:=f.cell x c (l x c e);exact⟨v,z.keeps P⟩
 .show H3 C=none;exact f.hok.fresh (Vq T.symm)
 .obtain⟨e,n,ne,nf,d⟩:=f.pin p s;refine⟨P _ _ e,n,XN (by rw[T];exact Xq e),λz=>?_,d⟩
  rcases Xm.mp (f.stkSub p.1 z)with z|z
  .exact ne z
  .exact nf z
 .show(own.map (λ_=>(none:Option V))++fr.map (λi=>σ.getD i none)).length=(own++fr.map (λi=>X.N.getD i Vv)).length;simp
end
section
variable{X:Cx}
theorem Sg(j:z.length<=16)(y:-1000<=i)(h1:i<=1000):MulOk z i:=by
 refine⟨?_,λl _=>?_,λl _=>?_⟩
 .rw[decide_eq_false (by lia),decide_eq_false (by lia)];rfl
 .have m:1<=i:=by lia
  have:(16:Int)<=(2^63 - 1)/i:=by
   rw[Int.le_ediv_iff_mul_le (by lia)]
   lia
  lia
 .have:z.length*i.toNat<=16*1000:=Nat.mul_le_mul j (by lia)
  have u:z.length*i.toNat<2^20:=by lia
  generalize z.length*i.toNat=n at u;revert n;intro n g;have w:sizeLine=16777216:=by decide
  show decide (n>sizeLine)=false;rw[w];exact decide_eq_false (by lia)
theorem Si:OpR X (YE .Mult) (λx y H Q=>∃z i,x=.str z/\y=.int i/\z.length<=16/\ -1000<=i/\i<=1000/\Q (.str (Txt.mul z i)) H):=by
 intro c s f H x y v u Q I j l h;obtain⟨z,i,rfl,rfl,w,m,g,q⟩:=h;obtain⟨t,rfl⟩:=j;obtain⟨d,rfl⟩:=l;exact SB.mul (Sg w m g) (λd k=>⟨.str (Txt.mul z i),H,I.tok _,⟨_,rfl⟩,q⟩)
theorem Sj(d:X.A.units<cLine):OpR X (Y4 .Eq) (λx y H Q=>∃a b z,x=.ref a/\y=.ref b/\SqL X.K H a z/\SqL X.K H b []/\Q (.bl z.isEmpty) H):=by
 intro W s Y H x y v u Q I L N h;obtain⟨a,b,z,rfl,rfl,O,P,q⟩:=h;cases L;cases N;obtain⟨l,c,f,Z⟩:=I.list O;obtain⟨m,g,w,_⟩:=I.list P;have R:m=[]:=Vf g.length.symm;subst R;cases z with
 |nil=>
  have T:l=[]:=Vf c.length.symm;subst T;exact SeqAt.eq_listAt (e:=λ_=>true) f.isList w.isList rfl d (λj U _=>absurd U (Nat.not_lt_zero j)) (XJ I q rfl)
 |cons x r=>
  have p:l.length=r.length+1:=by rw[<-c.length];rfl
  exact SeqAt.eq_list_lengthsAt f.isList w.isList (by simp;intro e;rw[e]at p;simp at p) d (XJ I q rfl)
theorem Sk(d:X.A.units<cLine):OpR X (Y4 .NotEq) (λx y H Q=>∃a b z,x=.ref a/\y=.ref b/\SqL X.K H a z/\SqL X.K H b []/\Q (.bl (!z.isEmpty)) H):=by
 intro W s Y H x y v u Q I L N h;obtain⟨a,b,z,rfl,rfl,O,P,q⟩:=h;cases L;cases N;obtain⟨l,c,f,Z⟩:=I.list O;obtain⟨m,g,w,_⟩:=I.list P;have R:m=[]:=Vf g.length.symm;subst R;cases z with
 |nil=>
  have T:l=[]:=Vf c.length.symm;subst T;exact SeqAt.RcNeAt.lists (e:=λ_=>true) f.isList w.isList rfl d (λj U _=>absurd U (Nat.not_lt_zero j)) X.prog X.w _ _ (XJ I q rfl)
 |cons x r=>
  have p:l.length=r.length+1:=by rw[<-c.length];rfl
  exact SeqAt.RcNeAt.lists_lengths f.isList w.isList (by simp;intro e;rw[e]at p;simp at p) d X.prog X.w _ _ (XJ I q rfl)
end
open AutoSeq1 (wpAny_loadPart')
open MeetsSeq MeetsSeq2 MeetsSeq3 SeqRoads2
noncomputable def AliP(P:Xh)(w:Xd)(A:Xn)(s:X0)(y x:Value):Prop:=∀(E:Value->X0->Prop)(Q:Bool->X0->Prop),Q true s->X3 (X4 P w) A (eqBool y x) Q E s
noncomputable def RcP(P:Xh)(w:Xd)(A:Xn)(s:X0)(y x:Value):Prop:=∀(E Q:Value->X0->Prop),Q (.bool true) s->X3 (X4 P w) A (richCompare .Eq y x) Q E s
noncomputable def RnP(P:Xh)(w:Xd)(A:Xn)(s:X0)(y x:Value):Prop:=∀(E Q:Value->X0->Prop),Q (.bool false) s->X3 (X4 P w) A (richCompare .NotEq y x) Q E s
section
variable{P:Xh}{w:Xd}{A:Xn}{s:X0}{a b:Addr}{xs ys:Array Value}
theorem AliP.of_at(h:Bi A s y x true):AliP P w A s y x:=λE Q q=>h P w E Q q
theorem AliP.refs(h:RcP P w A s (.ref a) (.ref b)):AliP P w A s (.ref a) (.ref b):=by
 intro E Q q;by_cases e:a=b
 .subst e;exact Bf _ P w E Q q
 .unfold eqBool;refine Zf (wpAny_ite_split (λz=>absurd (by injection (eq_of_beq z)) e) λ_=>?_)
  exact X2 (h E _ (ZA q))
theorem Sl(T:s.heap.IsTuple a xs)(U:s.heap.IsTuple b ys)(W:xs.size=ys.size)(Y:A.units<cLine)(Z:∀p∈xs.toList.zip ys.toList,AliP P w A.in1 s p.1 p.2):RcP P w A s (.ref a) (.ref b):=by
 intro E Q q;obtain⟨⟨D,G,I,J⟩,j,g,M,d⟩:=id T;obtain⟨⟨S,X,H,v⟩,c,f,o,e⟩:=id U;dsimp only at g d f e;subst g d f e;refine UK (op:=.Eq) ⟨_,j,rfl⟩ ⟨_,c,rfl⟩ Be (Zg Be ⟨_,j,rfl⟩ F.entry_tuple_eq ?_ (F.args_tuple_eq_2 _ _)) Y;obtain⟨L,N,O,R,os⟩:=s;have f2:=CT
 wp_walk using Yh j,Yh c,AH _ (λrest r l=>r.1=none/\l=⟨L,N,O,R,os⟩/\∀p∈rest,AliP P w A.in1 ⟨L,N,O,R,os⟩ p.1 p.2) _
 case turn=>
  rintro⟨y,x⟩ rest r l ⟨u,rfl,m⟩;refine X2 (m (y,x) XY _ _ ?_)
  wp_walk
  exact⟨rfl,rfl,λp B=>m p (XU _ B)⟩
 case fin=>
  rintro⟨i,n⟩ l ⟨u,rfl,-⟩;dsimp only at u;subst u
  wp_walk
  have C:B9 .Eq xs.size ys.size=.bool true:=by simp[B9,W]
  rw[C];exact⟨_,rfl,(λz=>nomatch z),q⟩
 case h=>exact⟨rfl,rfl,Z⟩
theorem Sn(z:xs.size=ys.size)
  (u:s.heap.get? a=some {cls:=.type "list",dict:=d1,data:=.seq xs n1,slots:=l1})(y:s.heap.get? b=some {cls:=.type "list",dict:=d2,data:=.seq ys n2,slots:=l2})
  (m:∀j (h1:j<xs.size)(h2:j<ys.size),AliP P w A.in1 s xs[j] ys[j])(q:R (.ok (.ret (.bool true))) s):∀k i:Nat,xs.size - i=k->
  X3 (X4 P w) A.in1 (Builtin.«list.__eq__.loop» ⟨[.ref a,.ref b,Y9 i,Y9 2],[]⟩) (λfin l=>match fin with|.done f=>R (.ok f) l|.again c'=>c'.quiet=true/\Z4 (X4 P w) A c' R l) (λe l=>R (.error e) l) s:=by
 obtain⟨c,p,L,N,os⟩:=s;intro k
 induction k with
 |zero=>
  intro i g
  wp_walk using Yh u,Yh y
  rw[show xs[((i:Nat):Int).toNat]?=none by simp;lia,show ys[((i:Nat):Int).toNat]?=none by simp;lia]
  wp_walk using Yh u,Yh y
  show R (.ok (.ret (.bool (xs.size==ys.size)))) _
  simpa [z]using q
 |succ k d=>
  intro i g;have h1:i<xs.size:=by lia
  have h2:i<ys.size:=by lia
  wp_walk using Yh u,Yh y
  rw[show xs[((i:Nat):Int).toNat]?=some xs[i] by simp[h1],show ys[((i:Nat):Int).toNat]?=some ys[i] by simp[h2]]
  refine X2 (m i h1 h2 _ _ ?_)
  wp_walk
  rw[show((i:Int)+1)=((i+1:Nat):Int) by push_cast;rfl]
  refine⟨ZD plain_eq_loop _,Z7 entry_eq_loop ?_⟩;rw[Zw plain_eq_loop _];exact d (i+1) (by lia)
theorem So(p:s.heap.IsList a xs)(e:s.heap.IsList b ys)(m:xs.size=ys.size)(L:A.units<cLine)(N:∀j (h1:j<xs.size)(h2:j<ys.size),AliP P w A.in1 s xs[j] ys[j]):RcP P w A s (.ref a) (.ref b):=by
 intro E Q q;obtain⟨⟨T,U,l,W⟩,u,g,Y,d⟩:=id p;obtain⟨⟨Z,B,C,D⟩,y,c,G,f⟩:=id e;dsimp only at g d c f;subst g d c f;have l:s.TypeIs (.ref a) "list":=⟨_,u,rfl⟩;refine UK (op:=.Eq) l ⟨_,y,rfl⟩ CO (wpAny_call (VZ CO.plain F.entry_list_eq (CO.check _ _ _ _ _ _ _ _ l (F.args_list_eq_2 _ _) ?_))) L;obtain⟨I,J,M,S,os⟩:=s;have f3:=Gv;have X:¬(xs.size != ys.size)=true:=by simp[m]
 wp_walk using Yh u,Yh y
 refine⟨ZD plain_eq_loop _,Z7 entry_eq_loop ?_⟩;rw[Zw plain_eq_loop _];exact Sn (R:=wants (λv O=>v≠.notImplemented/\Q v O) E) m u y N (show UT true≠.notImplemented/\Q (.bool true) _ from⟨(λz=>nomatch z),q⟩) _ 0 rfl
theorem Sq(T:s.heap.IsTuple a xs)(U:s.heap.IsTuple b ys)(W:xs.size=ys.size)(Y:A.units<cLine)(Z:∀p∈xs.toList.zip ys.toList,AliP P w A.in1 s p.1 p.2):RnP P w A s (.ref a) (.ref b):=by
 intro E Q q;obtain⟨⟨D,G,I,J⟩,j,g,M,d⟩:=id T;obtain⟨⟨S,X,H,v⟩,c,f,o,e⟩:=id U;dsimp only at g d f e;subst g d f e;refine UK (op:=.NotEq) ⟨_,j,rfl⟩ ⟨_,c,rfl⟩ F.slot_tuple_ne (Zg F.slot_tuple_ne ⟨_,j,rfl⟩ F.entry_tuple_ne ?_ (F.args_tuple_ne_2 _ _)) Y;obtain⟨L,N,O,R,os⟩:=s;have f2:=CT
 wp_walk using Yh j,Yh c,AH _ (λrest r l=>r.1=none/\l=⟨L,N,O,R,os⟩/\∀p∈rest,AliP P w A.in1 ⟨L,N,O,R,os⟩ p.1 p.2) _
 case turn=>
  rintro⟨y,x⟩ rest r l ⟨u,rfl,m⟩;refine X2 (m (y,x) XY _ _ ?_)
  wp_walk
  exact⟨rfl,rfl,λp B=>m p (XU _ B)⟩
 case fin=>
  rintro⟨i,n⟩ l ⟨u,rfl,-⟩;dsimp only at u;subst u
  wp_walk
  have C:B9 .NotEq xs.size ys.size=.bool false:=by simp[B9,W]
  rw[C];exact⟨_,rfl,(λz=>nomatch z),q⟩
 case h=>exact⟨rfl,rfl,Z⟩
theorem Sr(z:xs.size=ys.size)
  (u:s.heap.get? a=some {cls:=.type "list",dict:=d1,data:=.seq xs n1,slots:=l1})(y:s.heap.get? b=some {cls:=.type "list",dict:=d2,data:=.seq ys n2,slots:=l2})
  (m:∀j (h1:j<xs.size)(h2:j<ys.size),AliP P w A.in1 s xs[j] ys[j])(q:R (.ok (.ret (.bool false))) s):∀k i:Nat,xs.size - i=k->
  X3 (X4 P w) A.in1 (Builtin.«list.__eq__.loop» ⟨[.ref a,.ref b,Y9 i,Y9 3],[]⟩) (λfin l=>match fin with|.done f=>R (.ok f) l|.again c'=>c'.quiet=true/\Z4 (X4 P w) A c' R l) (λe l=>R (.error e) l) s:=by
 obtain⟨c,p,L,N,os⟩:=s;intro k
 induction k with
 |zero=>
  intro i g
  wp_walk using Yh u,Yh y
  rw[show xs[((i:Nat):Int).toNat]?=none by simp;lia,show ys[((i:Nat):Int).toNat]?=none by simp;lia]
  wp_walk using Yh u,Yh y
  show R (.ok (.ret (.bool (xs.size != ys.size)))) _
  simpa [z]using q
 |succ k d=>
  intro i g;have h1:i<xs.size:=by lia
  have h2:i<ys.size:=by lia
  wp_walk using Yh u,Yh y
  rw[show xs[((i:Nat):Int).toNat]?=some xs[i] by simp[h1],show ys[((i:Nat):Int).toNat]?=some ys[i] by simp[h2]]
  refine X2 (m i h1 h2 _ _ ?_)
  wp_walk
  rw[show((i:Int)+1)=((i+1:Nat):Int) by push_cast;rfl]
  refine⟨ZD plain_eq_loop _,Z7 entry_eq_loop ?_⟩;rw[Zw plain_eq_loop _];exact d (i+1) (by lia)
theorem Ss(p:s.heap.IsList a xs)(e:s.heap.IsList b ys)(m:xs.size=ys.size)(L:A.units<cLine)(N:∀j (h1:j<xs.size)(h2:j<ys.size),AliP P w A.in1 s xs[j] ys[j]):RnP P w A s (.ref a) (.ref b):=by
 intro E Q q;obtain⟨⟨T,U,l,W⟩,u,g,Y,d⟩:=id p;obtain⟨⟨Z,B,C,D⟩,y,c,G,f⟩:=id e;dsimp only at g d c f;subst g d c f;have l:s.TypeIs (.ref a) "list":=⟨_,u,rfl⟩;refine UK (op:=.NotEq) l ⟨_,y,rfl⟩ CP (wpAny_call (VZ CP.plain F.entry_list_ne (CP.check _ _ _ _ _ _ _ _ l (F.args_list_ne_2 _ _) ?_))) L;obtain⟨I,J,M,S,os⟩:=s;have f3:=Gv;have X:¬(xs.size != ys.size)=true:=by simp[m]
 wp_walk using Yh u,Yh y
 refine⟨ZD plain_eq_loop _,Z7 entry_eq_loop ?_⟩;rw[Zw plain_eq_loop _];exact Sr (R:=wants (λv O=>v≠.notImplemented/\Q v O) E) m u y N (show UT false≠.notImplemented/\Q (.bool false) _ from⟨(λz=>nomatch z),q⟩) _ 0 rfl
theorem HA{K:Type} [DecidableEq K] {u:KeyKind P w K}{nm:String}{d L:List (K×Value)}{E:Value->X0->Prop}{Q:Bool->X0->Prop}(I:(a==Z3)=false)(J:(b==Z3)=false)
  (M:s.heap.DictOf u a d)(S:s.heap.DictOf u b L)(B:d.length=L.length)(X:∀p∈d,∃y,Z6 L p.1=some y/\AliP P w A s p.2 y)(q:Q true s):
  X3 (X4 P w) A (Gh nm a b) Q E s:=by
 obtain⟨oa,c,pa,O,_,R,H,C,_⟩:=M;obtain⟨ob,f,pb,T,_,U,D,W,_⟩:=S;have za:d.length=c.size:=C.length.symm.trans Yn;have o:L.length=f.size:=W.length.symm.trans Yn;have n:∀k,findBy u.is f k=Z6 L k:=by
  intro k;rw[<-W.find k];clear o W D U T;obtain⟨l⟩:=f;simp[findBy]
 have x:c.size=f.size:=by lia
 unfold Gh Builtin.Dict.showsAll;rw[I,J];refine X2 (Xa (X2 (Xa (X2 (AI O R ?_)))));dsimp only;refine X2 (AI T U ?_);rw[if_neg (by simp[x])]
 refine X2 (wpAny_dictEpoch O R (X2 ?_));rw[Std.Legacy.Range.forIn_eq_forIn_range'];simp only[Std.Legacy.Range.size,Nat.sub_zero,Nat.add_sub_cancel,Nat.div_one];refine AH _ (λrest r Y=>Y=s/\r=(none,())/\∀i∈rest,i<c.size) _ ?_ ?_ _ _ ⟨rfl,rfl,λi h=>by simpa using h⟩
 .rintro i rest r Y ⟨rfl,rfl,m⟩;have lt:i<c.size:=m i XY;have lt':i<d.length:=by lia
  refine X2 (AI O R ?_);rw[UR lt];obtain⟨N,val⟩:=C.get? (i:=i) (e:=c[i]) (k:=d[i].1) (v:=d[i].2) (by rw[G9];exact UR lt) (X6 lt')
  obtain⟨k',i',hh⟩:=H c[i] (Array.getElem_mem lt);obtain rfl:k'=d[i].1:=u.inj _ _ _ i' N;obtain⟨y,fy,F⟩:=X d[i] (XG lt');show X3 _ _ (holding [c[i].key,c[i].val] _ >>= _) _ _ _;rw[hh];refine X2 (Zf (X2 (wpAny_dictFind_of N T U D ?_)));have g:=fy;rw[<-n,findBy_of_findIdx?]at g;cases Z:f.findIdx? λe=>u.is d[i].1 e.key with
  |none=>rw[Z]at g;cases g
  |some j=>
   rw[Z]at g;obtain⟨G,_,_⟩:=Array.findIdx?_eq_some_iff_getElem.mp Z;refine X2 (AI T U ?_);rw[UR G];have ey:f[j].val=y:=by simpa [UR G]using g
   rw[<-ey,<-val]at F;refine Zf (F _ _ ?_);show X3 _ _ (if(!true)=true then _ else _) _ _ _;rw[if_neg (show¬(!true)=true from Xu)];refine X2 (wpAny_dictEpoch O R ?_);rw[if_neg (by simp)]
   exact Xa ⟨rfl,rfl,λz B=>m z (XU _ B)⟩
 .rintro r Y ⟨rfl,rfl,-⟩;exact Xa q
theorem Su{K:Type} [DecidableEq K] {j:KeyKind P w K}{u m:List (K×Value)}(d:(a==Z3)=false)(c:(b==Z3)=false)
  (l:s.heap.DictOf j a u)(g:s.heap.DictOf j b m)(f:A.units<cLine)(e:u.length=m.length)(L:∀p∈u,∃y,Z6 m p.1=some y/\AliP P w A.in1 s p.2 y):RcP P w A s (.ref a) (.ref b):=by
 intro E Q q;refine UK (op:=.Eq) l.typeIs g.typeIs Gq (Zg Gq l.typeIs PySem.F.entry_dict_eq ?_ (PySem.F.args_dict_eq_2 _ _)) f;show X3 _ _ (Bc "__eq__" ⟨[.ref a,.ref b],[]⟩>>= _) _ _ s;refine X2 ?_;unfold Bc;refine X2 (wpAny_notOrdered_dict l.typeIs (Xa (X2 (Vc (T:="dict") g.typeIs Go ?_))));rw[if_neg (by decide)]
 refine X2 (Xa (X2 (Xa (X2 (HA d c l g e L ?_)))));exact Xa ⟨_,rfl,(λz=>nomatch z),q⟩
theorem Sv{K:Type} [DecidableEq K] {j:KeyKind P w K}{u m:List (K×Value)}(d:(a==Z3)=false)(c:(b==Z3)=false)
  (l:s.heap.DictOf j a u)(g:s.heap.DictOf j b m)(f:A.units<cLine)(e:u.length=m.length)(L:∀p∈u,∃y,Z6 m p.1=some y/\AliP P w A.in1 s p.2 y):RnP P w A s (.ref a) (.ref b):=by
 intro E Q q;refine UK (op:=.NotEq) l.typeIs g.typeIs Gr (Zg Gr l.typeIs PySem.F.entry_dict_ne ?_ (PySem.F.args_dict_ne_2 _ _)) f;show X3 _ _ (Bc "__ne__" ⟨[.ref a,.ref b],[]⟩>>= _) _ _ s;refine X2 ?_;unfold Bc;refine X2 (wpAny_notOrdered_dict l.typeIs (Xa (X2 (Vc (T:="dict") g.typeIs Go ?_))));rw[if_neg (by decide)]
 refine X2 (Xa (X2 (Xa (X2 (HA d c l g e L ?_)))));exact Xa ⟨_,rfl,(λz=>nomatch z),q⟩
end
section
variable{X:Cx}
theorem HB:∀{j:List Str} {u:List Value},Vals (j.map V.str) u->∃l:List (Str×Tok),u=strValues l/\l.map (·.1)=j
 |[],_,.nil=>⟨[],rfl,rfl⟩
 |x::j,_,.cons q r=>by
  obtain⟨l,e,w⟩:=HB r;obtain⟨t,rfl⟩:=(show∃t,_=Yv x t from q);exact⟨(x,t)::l,by rw[e];rfl,by rw[Xp,w]⟩
theorem Sw:MtR X "str.join" (fun x m H Q=>∃j b y,x=.str j/\m=[.ref b]/\SqL X.K H b (y.map V.str)/\y.toArray.foldl (fun n z=>n+z.length+j.length) 0<=sizeLine/\(ZL j y).length<=sizeLine/\Q (.str (ZL j y)) H):=by
 intro d s c H x m v A Q I f L h;obtain⟨j,b,y,rfl,rfl,g,z,N,q⟩:=h;obtain⟨t,rfl⟩:=f;obtain⟨u,rfl,O⟩:=U9 L;obtain rfl:u=XE b:=O;obtain⟨P,r,⟨o,n,R,T,_,U⟩,_⟩:=I.list g;obtain⟨l,rfl,e⟩:=HB r;have W:Gc ((l.map (·.1)).toArray.foldl (λn z=>n+z.length+j.length) 0)=false:=by
  rw[e];unfold Gc;exact decide_eq_false (by lia)
 refine call_meets Gp (typeIs_str s j t) PySem.F.entry_str_join (PySem.F.args_str_join_2 _ _) (meets_str_join_list j t b l W) ⟨⟨o,R,T,n,U⟩,?_⟩;have w:(Made.str (ZL j (l.map (·.1)))).post (λv Y=>EP X d c Q v Y) s:=by
  rw[e];exact⟨N,.str _,H,I.tok _,⟨_,rfl⟩,q⟩
 match l,e,w with
 |[],_,w=>exact w
 |[p],e,w=>
  refine⟨.str p.1,H,I,⟨_,rfl⟩,?_⟩;have Z:y=[p.1]:=e.symm;rw[Z]at q;exact q
 |_::_::_,_,w=>exact w
end
end L2
namespace L2
open PySem PySem.Spec PyProof.Rows
section
variable{X:Cx}
end
section
variable{X:Cx}{pz:List (Addr×Obj)}{σ:St}{H:Hp}{s:X0}
def Thw(X:Cx)(H j:Hp):Prop:=j=H\/∃a o u,H a=some (.frz o u)/\Mut (some u)/\(∀l w,X.H₀ a≠some (.frz l w))/\j=upd H a u
theorem Inv.thaw(I:Inv X pz σ H s)(t:Thw X H H'):Inv X pz σ H' s:=by
 rcases t with rfl|⟨a,o,u,e,U,f,rfl⟩
 .exact I
 have ne:∀{b:Addr} {y:HO},H b=some y->y≠.frz o u->b≠a:=fun{b y} q n z=>by subst z;rw[e]at q;cases q;exact n rfl
 have j:∀b,H b=none->b≠a:=λb n z=>by subst z;rw[e]at n;cases n
 have st:∀{c:Addr} {y:HO},ObjOk X.prog X.w H s.heap c y->ObjOk X.prog X.w (upd H a u) s.heap c y:=λx=>
  x.stay (λc v _ q=>q) (λc q=>by rw[XX (ne q (λz=>by cases z))];exact q) λc l q=>by rw[XX (ne q (λz=>by cases z))];exact q
 refine⟨I.ok,I.os,I.bare,⟨I.base.keep,I.base.slot,λb L q n N=>?_,I.base.there,λb l q=>?_,λb w g q=>?_,λb O q=>?_⟩,I.loc,I.cell,?_,λx c q=>?_,λp P=>?_,λb v q=>?_,I.len⟩
 .have:=I.base.free b L q n N;rw[XX (j b this)];exact this
 .have:=I.base.tups b l q;rw[XX (ne this (λz=>by cases z))];exact this
 .rw[XX (λz=>by subst z;exact f w g q)]
  exact I.base.frzs b w g q
 .obtain⟨m,h⟩:=I.base.tbls b O q;exact⟨m,by rw[XX (ne h (λz=>by cases z))];exact h⟩
 .rw[XX (j _ I.free)];exact I.free
 .rw[XX (j _ (I.freeC x c q))];exact I.freeC x c q
 .obtain⟨R,d,T⟩:=I.pin p P;exact⟨R,by rw[XX (j _ d)];exact d,T⟩
 .by_cases hb:b=a
  .subst hb;rw[Uu]at q;cases q;exact st (I.hok b _ e).2
  .rw[XX hb]at q;exact st (I.hok b v q)
def thwD(X:Cx)(D:Ends):Ends where
 nx:=λσ H=>∃j,Thw X H j/\D.nx σ j
 rt:=λv H=>∃j,Thw X H j/\D.rt v j
 bk:=λσ H=>∃j,Thw X H j/\D.bk σ j
 ct:=λσ H=>∃j,Thw X H j/\D.ct σ j
theorem PS.thaw{st:Stmt}{t:TS}(h:PS X st t):PS X st (λD σ H=>t (thwD X D) σ H):=by
 intro pz s σ H D I q;refine thn (h pz s σ H _ I q) λf g z=>?_;cases f with
 |next=>obtain⟨j,m,l,w,y,d⟩:=z;exact⟨j,w,l.thaw y,d⟩
 |brk=>obtain⟨j,m,l,w,y,d⟩:=z;exact⟨j,w,l.thaw y,d⟩
 |cont=>obtain⟨j,m,l,w,y,d⟩:=z;exact⟨j,w,l.thaw y,d⟩
 |ret u=>obtain⟨v,j,m,l,r,w,y,d⟩:=z;exact⟨v,j,w,l.thaw y,r,d⟩
theorem PE.thaw{e:Expr}{t:TE}(h:PE X e t):PE X e (λσ H Q=>t σ H λv l=>∃j,Thw X l j/\Q v j):=by
 intro pz s σ H Q I q;refine thn (h pz s σ H _ I q) λu z ⟨v,l,w,r,j,y,d⟩=>⟨v,j,w.thaw y,r,d⟩
end
section
variable{prog:Xh}{w:Xd}{A:Xn}{E:Value->X0->Prop}{s:X0}{a₀:Array Keyed}
end
section
variable{X:Cx}
end
structure Mrk (t t':Yz):Prop where
 led:t'.led=t.led
 plain:t.plain=false->t'.plain=false
theorem Mrk.refl(t:Yz):Mrk t t:=⟨rfl,id⟩
theorem Mrk.trans(x:Mrk a b)(y:Mrk b c):Mrk a c:=⟨y.led.trans x.led,λh=>y.plain (x.plain h)⟩
theorem Mrk.standIn(t:Yz)(n:Nat):Mrk t (t.standIn n):=⟨rfl,λ_=>rfl⟩
theorem Mrk.orStandIn(t:Yz)(n:Nat):Mrk t (t.orStandIn n):=by
 unfold SetTable.orStandIn;split
 .exact .refl t
 .exact .standIn t n
theorem Mrk.lay(t:Yz)(j:Array (Int×Value))(k:Int)(x:Value):Mrk t (layNew t j k x).2.1:=by
 unfold layNew;split
 .exact Mrk.trans (b:=(t.put _).1) ⟨rfl,id⟩ (.orStandIn _ _)
 .exact .standIn t _
theorem Mrk.relaid{t:Yz}(h:t.relaid hs n=some (t',od)):Mrk t t':=by
 unfold SetTable.relaid SetTable.laid at h;cases j:SetTable.layClean (SetTable.sizeAbove n - 1) hs with
 |none=>rw[j]at h;simp at h
 |some l=>
  rw[j]at h;simp only[Option.bind_eq_bind,Option.bind_some,Option.pure_def,B6,Prod.mk.injEq]at h;obtain⟨rfl,_⟩:=h;exact⟨rfl,id⟩
set_option tactic.hygienic true in
theorem Mrk.relay(t:Yz)(j:Array (Int×Value))(n:Nat):Mrk t (relayAll t j n).2.1:=by
 unfold relayAll;split
 .rename_i l
  dsimp only;split
  .exact .relaid l
  .exact .standIn t _
 .exact .standIn t _
noncomputable def txt:Value->Str
 |.str x _=>x
 |_=>⟨#[]⟩
noncomputable def met1(j:List Str)(x:Str):List Str:=if x∈j then j else j++[x]
def met(f:Nat->Str):Nat->List Str
 |0=>[]
 |i+1=>met1 (met f i) (f i)
set_option tactic.hygienic true in
theorem Sx(h:zs.Nodup)(x:Str):(met1 zs x).Nodup:=by
 unfold met1;split
 .exact h
 .rename_i n
  rw[AO];exact⟨h,by simp,λa l b j=>by rw[U0]at j;subst j;exact λe=>n (e▸l)⟩
theorem HC(f:Nat->Str):∀i,(met f i).Nodup
 |0=>.nil
 |i+1=>Sx (HC f i) _
set_option tactic.hygienic true in
theorem Sy:y∈met1 zs x↔y∈zs\/y=x:=by
 unfold met1;split
 .rename_i h
  exact⟨.inl,λz=>z.elim id λe=>e▸h⟩
 .simp
theorem HD:∀i,y∈met f i↔∃j,j<i/\f j=y
 |0=>by simp[met]
 |i+1=>by
  unfold met;rw[Sy,HD i];constructor
  .rintro(⟨j,l,e⟩|e)
   .exact⟨j,by lia,e⟩
   .exact⟨i,by lia,e.symm⟩
  .rintro⟨j,l,e⟩;by_cases z:j=i
   .subst z;exact .inr e.symm
   .exact .inl ⟨j,by lia,e⟩
theorem HE(f:Nat->Str):∀i,(met f i).length<=i
 |0=>Xf _
 |i+1=>by
  have:=HE f i;unfold met met1;split
  .lia
  .rw[XO];simp;lia
section
variable{prog:Xh}{w:Xd}{A:Xn}{E:Value->X0->Prop}{s:X0}
def WSet(prog:Xh)(w:Xd)(o:Obj)(l:List Str):Prop:=
 o.ExactSet/\∃j u t,o.data=.set j u t/\ElemsOf (strKind prog w) j.toList/\(j.toList.map λe=>txt e.2).Perm l/\j.size<scanBound/\t.fits j.size=true
  /\t.led=(!w.params.followText "set-order")/\(l≠ []->t.plain=false)
theorem WSet.fresh:WSet prog w {cls:=.type "set",dict:=none,data:=.set #[] 0 (.fresh 0 0 (!w.params.followText "set-order"))} []:=
 ⟨⟨rfl,rfl,rfl⟩,#[],0,_,rfl,λe j=>by simp at j,by simp,by decide,by rfl,rfl,λh=>absurd rfl h⟩
theorem isT{k:Str}:(strKind prog w).is k v=true↔∃t,v=.str k t:=by
 constructor
 .exact λh=>Value.isStrOf_shape h
 .rintro⟨t,rfl⟩;exact strKind_is prog w k t
theorem WSet.mem{es:Array (Int×Value)}{zs:List Str}(u:ElemsOf (strKind prog w) es.toList)(y:(es.toList.map λe=>txt e.2).Perm zs)(k:Str):
  k∈zs↔∃e∈es.toList,(strKind prog w).is k e.2=true:=by
 rw[<-y.mem_iff,Xt];constructor
 .rintro⟨e,j,q⟩;refine⟨e,j,isT.mpr ?_⟩;obtain⟨⟨m,z,_⟩,_⟩:=u e j;obtain⟨t,l⟩:=isT.mp z;rw[l]at q ⊢;exact⟨t,by rw[<-q];rfl⟩
 .rintro⟨e,j,q⟩;obtain⟨t,l⟩:=isT.mp q;exact⟨e,j,by rw[l];rfl⟩
theorem HF{h:Heap}{a:Addr}{o:Obj}{m:Array (Int×Value)}{u:Nat}{t:Yz}(g:h.get? a=some o)(y:o.data=.set m u t)(j:Array (Int×Value))(l:Yz):
  (h.update a (Obj.putSet j l)).get? a=some {o with data:=.set j (u+1) l}:=by
 have z:=AW (Obj.putSet j l) g (by rw[putSet_of j l y];rfl)
 rwa [putSet_of j l y]at z
theorem HG{g:Bool->Sem Unit}(D:∀(b:Bool)(y:X0)(P:Unit->X0->Prop),P () y->X3 (X4 prog w) A (g b) P E y)
  {a:Addr} {o:Obj} {F:Array (Int×Value)} {G:Nat} {t:Yz} (T:s.heap.get? a=some o)(f:o.ExactSet)(U:o.data=.set F G t)
  {j:Array (Int×Value)} {l:Yz} {W:List Str} (q:ElemsOf (strKind prog w) j.toList)(Y:(j.toList.map λe=>txt e.2).Perm W)(Z:j.size<scanBound)
  (I:l.fits j.size=true)(z:l.led=(!w.params.followText "set-order"))(p:l.plain=false){N:Bool} {R:Option Bool->X0->Prop}
  (h:∀O B,Ur a s.heap O->O.get? a=some B->WSet prog w B W->R (some true) {s with heap:=O}):
  X3 (X4 prog w) A (do
    storeSet a j l
    if(!N&&l.tooFull)=true then do
      g (relayAll l j (UV j.size)).2.2
      storeSet a (relayAll l j (UV j.size)).1 (relayAll l j (UV j.size)).2.1
      pure (some true)
     else pure (some true)) R E s:=by
 refine X2 (wpAny_storeSet_of T U ?_ (fits_of_scanBound Z));have m:=HF T U j l;split
 .have u:=relayAll_perm l j (UV j.size);have d:=relayAll_fits l j (UV j.size);have L:=Mrk.relay l j (UV j.size);generalize relayAll l j (UV j.size)=Rl at u d L ⊢;obtain⟨c,C,J⟩:=Rl;dsimp only at u d L ⊢;have M:c.size=j.size:=by rw[<-Yn,u.length_eq,Yn]
  refine X2 (D _ _ _ ?_);refine X2 (wpAny_storeSet_of m rfl ?_ (fits_of_scanBound (by lia)))
  exact Xa (h _ _ ((U7 _ a _).trans (U7 _ a _)) (HF m rfl c C)
   ⟨f,c,_,C,rfl,q.perm u,(u.map _).trans Y,by lia,d,L.led.trans z,λ_=>L.plain p⟩)
 .exact Xa (h _ _ (U7 _ a _) m ⟨f,j,_,l,rfl,q,Y,Z,I,z,λ_=>p⟩)
set_option tactic.hygienic true in
theorem Sz{a:Addr}{o:Obj}{m:List Str}{x:Str}{g:Tok}{Q:Bool->X0->Prop}(U:s.heap.get? a=some o)(i:WSet prog w o m)(J:m.length+1<scanBound)
  (h:∀b l u,Ur a s.heap l->l.get? a=some u->WSet prog w u (met1 m x)->Q b {s with heap:=l}):
  X3 (X4 prog w) A (setAddHashed a (.str x g) ((strKind prog w).hash x)) Q E s:=by
 obtain⟨W,R,ep,t,G,d,M,hb,n,f,hpl⟩:=id i;have p:(strKind prog w).is x (.str x g)=true:=strKind_is prog w x g;have hlen:R.size=m.length:=by rw[<-M.length_eq,X5,Yn]
 unfold setAddHashed setAddHashedIn;refine Zf (X2 (W0 U G n ?_));dsimp only;rw[byScan_of (x:=.str x g) rfl hb d];simp only[↓reduceIte];unfold setAddByScan;refine X2 (X2 (Vd (X2 (wpAny_setScan_of p U G n d ?_))));have N:=WSet.mem d M x;cases hr:List.findIdx? (λe=>(strKind prog w).is x e.2) R.toList with
 |some j=>
  dsimp only;obtain⟨hj,S,_⟩:=List.findIdx?_eq_some_iff_getElem.mp hr;have X:x∈m:=N.mpr ⟨_,XG hj,S⟩;refine Xa (Xa ?_);have:=h false s.heap o (Heap.SameBut.refl a s.heap) U (by unfold met1;rw[if_pos X];exact i)
  cases s;exact this
 |none=>
  dsimp only;have X:x∉m:=λz=>by
   obtain⟨e,he,q⟩:=N.mp z;have:=List.findIdx?_eq_none_iff.mp hr e he;rw[q]at this;exact Bool.noConfusion this
  have hz:met1 m x=m++[x]:=by unfold met1;rw[if_neg X]
  have T:=layNew_perm t R ((strKind prog w).hash x) (.str x g);have c:=layNew_fits t R ((strKind prog w).hash x) (.str x g);have I:=Mrk.lay t R ((strKind prog w).hash x) (.str x g);generalize layNew t R ((strKind prog w).hash x) (.str x g)=L at T c I ⊢;obtain⟨P,t1,was,gave⟩:=L;dsimp only at T c I ⊢;rw[Array.toList_push]at T;have O:ElemsOf (strKind prog w) P.toList:=(d.push p rfl).perm T;have Y:(P.toList.map λe=>txt e.2).Perm (met1 m x):=by
   rw[hz];refine(T.map _).trans ?_;rw[Yd];exact M.append (.refl _)
  have Z:P.size<scanBound:=by rw[<-Yn,T.length_eq,XO,Yn];simp;lia
  have H:∀(b:Bool)(y:X0)(v:Unit->X0->Prop),v () y->X3 (X4 prog w) A (match b with|true=>rule "set.scan.the-table-gave-way"|false=>pure ()) v E y:=
   λb y v hq=>by cases b<;>first|exact Xa hq|exact Vd hq
  refine X2 (H _ _ _ ?_);have B:∀l u,Ur a s.heap l->l.get? a=some u->WSet prog w u (met1 m x)->Q true {s with heap:=l}:=λl u C D F=>h true l u C D F;split
  .rw[hashByValue_scannable 8 (x:=.str x g) rfl];refine X2 (Xa ?_);refine HG H U W G O Y Z (l:={t1 with plain:=false}) (SetTable.fits_plain_off c) (I.led.trans f) rfl ?_;intro l u C D F;exact Xa (B l u C D F)
  .rename_i np
   refine X2 (Xa ?_);simp only[↓reduceIte];refine HG H U W G O Y Z c (I.led.trans f) (by simpa using np) ?_
   intro l u C D F;exact Xa (B l u C D F)
theorem SA{St:Nat->X0->Prop}
  (W:WalksS prog w A.in1 I fp wr G n P St)(S:Addr)(m:S∉fp)(f:Nat->Str)(g:∀i v,P i v->∃t,v=.str (f i) t)(y:n+1<scanBound):
  ∀(k i:Nat)(s:X0)(o:Obj),n - i=k->i<=n->St i s->s.heap.get? S=some o->WSet prog w o (met f i)->
   (∀j U,Moved (S::wr) G s j->j.heap.get? S=some U->WSet prog w U (met f n)->R (.ok (.ret .none)) j)->
   Z4 (X4 prog w) A (.builtin "set.update.loop" ⟨[.ref S,.ref I],[]⟩) R s:=by
 have d:S∉wr:=λh=>m (W.sub _ h);have l:∀b∈wr,b∈S::wr:=λb y=>XU _ y;intro k
 induction k with
 |zero=>
  intro i s o H x u Y Z B;have C:i=n:=by lia
  subst C;refine Z7 F.entry_set_update_loop ?_;rw[Zw F.plain_set_update_loop _];show X3 _ A.in1 (pyNext (.ref I)>>= _) _ _ s;refine X2 (W.done s _ _ u λj c=>?_);exact Xa (B j o (c.mono l) (c.heap S _ d Y) Z)
 |succ k a=>
  intro i s o H x u Y Z B;have q:i<n:=by lia
  refine Z7 F.entry_set_update_loop ?_;rw[Zw F.plain_set_update_loop _];show X3 _ A.in1 (pyNext (.ref I)>>= _) _ _ s;refine X2 (W.item i s _ _ q u λv j hP p c=>?_);obtain⟨t,rfl⟩:=g i v hP;have D:=c.heap S _ d Y;show X3 _ A.in1 (holding [Yv (f i) t] (setAdd S (.str (f i) t))>>= _) _ _ j;refine X2 (Zf ?_);unfold setAdd;refine Zf (X2 ((strKind prog w).pyHash (k:=f i) (strKind_is prog w _ _) ?_));refine Sz (s:={j with toks:=j.toks+1}) D Z (by have:=HE f i;lia) λb h' U L J M=>?_
  refine Xa ⟨ZD F.plain_set_update_loop _,a (i+1) _ U (by lia) q (W.frame _ j _ _ p (B4 _) λb y o e=>?_) J M λQ X N O T=>?_⟩
  .rw[L.2 b (λz:b=S=>m (by rw[<-z];exact y))];exact e
  .refine B Q X (Moved.trans W.gtrans ((c.mono l).then_heap (B4 _) λb o y e=>?_) N) O T;rw[L.2 b (λz:b=S=>y (by rw[z];exact XY))];exact e
noncomputable def ZP(w:Xd):Obj:={cls:=.type "set",dict:=none,data:=.set #[] 0 (.fresh 0 0 (!w.params.followText "set-order"))}
theorem SC(a:Value)(h:Q₁ (.ref s.heap.objs.size) {s with heap:=s.heap.push (ZP w)}):
  Z4 (X4 prog w) A (.call (.builtin "set.__new__") ⟨[.type "set",a],[]⟩) (wants Q₁ E) s:=by
 refine codeAny_of_tree ?_;show X3 _ A.in1 (do checkBuiltinCall "set.__new__" ⟨[.type "set",a],[]⟩;again (.builtin "set.__new__" ⟨[.type "set",a],[]⟩)) _ _ s
 refine X2 (wpAny_of_eq (F.newCall_set_1 a) (Xa ⟨ZD F.plain_set_new _,Z7 F.entry_set_new ?_⟩));rw[Zw F.plain_set_new _];unfold Builtin.«set.__new__» Builtin.Frozenset.newClass;have j:=sub_set_self;obtain⟨l,g,d,u,os⟩:=s;dsimp only
 wp_walk
 refine W3 (Xa ?_);dsimp only;simp only[newObj];refine X2 (wpAny_alloc (Xa ?_));exact Xa h
theorem SD{items:Array Value}
  (hh:A.handled=none)(hl:s.heap.IsList l items)(hi:∀(i:Nat)(v:Value),items[i]?=some v->∃t,v=Yv (f i) t)(B:items.size+1<scanBound)
  (h:∀(u:Heap)(C:Nat)(o:Obj),u.get? s.heap.objs.size=some o->WSet prog w o (met f items.size)->
   (∀b o,b<s.heap.objs.size->s.heap.get? b=some o->u.get? b=some o)->Q (.ref s.heap.objs.size) {s with heap:=u,toks:=C}):
  X3 (X4 prog w) A (call (.type "set") [.ref l]) Q E s:=by
 obtain⟨c,tl,n⟩:=Ut.mro;have G:=Ut.made;have x:=Ut.sub;refine wpAny_call (codeAny_of_tree ?_);show X3 _ _ (callAny (.type "set") _) _ _ _;refine Xa ⟨Code.quiet_builtin _ (by decide+kernel),Z7 F.entry_type_call ?_⟩
 rw[Around.under_plain (weight_type_call_type "set" [.ref l] []) rfl];have h1:=Ut.notType;have h2:=Ut.canCreate;have hct:=F.typeCall_set_1 (.ref l)
 repeat (any_goals (first|assumption|wp_step))
 refine Vb (SC (.ref l) (E:=E) (Q₁:=λL z=>L=.ref s.heap.objs.size/\z={s with heap:=s.heap.push (ZP w)}) ⟨rfl,rfl⟩) λr z I=>?_;cases r with
 |error e=>exact I
 |ok fl=>
  cases fl with
  |ret L=>
   obtain⟨rfl,rfl⟩:=I;have a:(s.heap.push (ZP w)).get? s.heap.objs.size=some (ZP w):=Y1 _ rfl;have hT:Bh {s with heap:=s.heap.push (ZP w)} (.ref s.heap.objs.size) "set":=⟨_,a,rfl⟩;have hli:=Ut.init.lookup;have hbi:=Ut.init.bind (.ref s.heap.objs.size)
   repeat (any_goals (first|assumption|wp_step))
   refine Vb (VZ (R:=wants (λr m=>r=.none/\∃u C o,m={s with heap:=u,toks:=C}/\
     u.get? s.heap.objs.size=some o/\WSet prog w o (met f items.size)/\
     (∀b o,b<s.heap.objs.size->s.heap.get? b=some o->u.get? b=some o)) E) Ut.init.plain F.entry_set_init (check_set_init_1 hT ?_)) λN m j=>?_
   .obtain⟨ol,O,P,nl,T⟩:=hl;obtain⟨ocls,g,J,y⟩:=ol;simp only at P T;subst P;subst T;have U:(s.heap.push (ZP w)).get? l=some {cls:=.type "list",dict:=g,data:=.seq items nl,slots:=y}:=XD _ O;have hsls:=F.sub_list_set;have hslf:=F.sub_list_frozenset;have hne:(ZK "list"==ZK "dict")=false:=by decide
    have W:(s.heap.push (ZP w)).IsList l items:=⟨_,U,rfl,nl,rfl⟩;unfold Builtin.«set.__init__» noKeywords Builtin.Frozenset.updateFrom;generalize hPI:pyIter=PI
    wp_walk
    subst hPI;refine AJ W ?_;refine X2 (wpAny_runValue ?_);have Y:l<s.heap.objs.size:=Xq O;have Z:l≠(s.heap.push (ZP w)).objs.size:=by
     rw[UQ];exact XN (Wf Y)
    have M:s.heap.objs.size∉ [(s.heap.push (ZP w)).objs.size,l]:=by
     rw[UQ];simp only[Xm,Ya,or_false,not_or];exact⟨XN (Nat.lt_succ_self _),B1 Y⟩
    refine SA ((Walks.list (A:=A.in1.in1.in1) (by simp[hh]) _ l Z items).toS) s.heap.objs.size
     M f hi B (items.size - 0) 0 _ (ZP w) (by lia) (Zj _)
     ⟨⟨_,Y1 _ rfl,rfl,rfl⟩,(W.push _)⟩ (XD _ a) WSet.fresh ?_
    intro s' o' D d q;obtain⟨u,g',d',S,X⟩:=s';have eg:g'=s.gens:=D.gens;have ed:d'=s.drawn:=D.drawn;have eo:X=s.os:=D.os;subst eg;subst ed;subst eo;refine Xa (Xa ⟨rfl,u,S,o',rfl,d,q,λb o B e=>?_⟩);refine D.heap b o ?_ (XD _ (XD _ e));simp only[Xm,Ya,or_false,not_or];exact⟨XN B,by rw[UQ];exact XN (Wf B)⟩
   .cases N with
    |error e=>exact j
    |ok p=>
     cases p with
     |ret r=>
      obtain⟨rfl,u,C,o',rfl,d,q,H⟩:=j
      repeat (any_goals (first|assumption|wp_step))
      exact h _ _ _ d q H
     |_=>exact j.elim
  |_=>exact I.elim
end
theorem slot_setiter_next:Slot "set_iterator" "__next__" "set_iterator.__next__":=
 .of (owner:="set_iterator") (n:="__next__") (by rw[typeLookup_type,builtinLookup_eq_fast];kernel_rfl) (by decide+kernel) (by decide+kernel) (by decide+kernel)
  (by first|exact .inl (by decide+kernel)|exact .inr (by decide+kernel)) (by rw[isSubtype_type];kernel_rfl)
theorem HH:Slot "set_iterator" "__iter__" "set_iterator.__iter__":=
 .of (owner:="set_iterator") (n:="__iter__") (by rw[typeLookup_type,builtinLookup_eq_fast];kernel_rfl) (by decide+kernel) (by decide+kernel) (by decide+kernel)
  (by first|exact .inl (by decide+kernel)|exact .inr (by decide+kernel)) (by rw[isSubtype_type];kernel_rfl)
theorem HI:entryFor table "set_iterator.__next__"=some Builtin.«set_iterator.__next__»:=entryFor_of_fast (by kernel_rfl)
theorem SF:entryFor table "set_iterator.__iter__"=some Builtin.«dict_keyiterator.__iter__»:=
 entryFor_alias (id':="dict_keyiterator.__iter__") (by kernel_rfl) rfl (by decide+kernel) (by kernel_rfl)
theorem SG:entryFor table "set.__iter__"=some Builtin.«frozenset.__iter__»:=
 entryFor_alias (id':="frozenset.__iter__") (by kernel_rfl) rfl (by decide+kernel) (by kernel_rfl)
theorem HJ(a:Value):argsOk "set_iterator.__next__" ⟨[a],[]⟩:=by unfold argsOk;kernel_rfl
theorem SH(a:Value):argsOk "set_iterator.__iter__" ⟨[a],[]⟩:=by unfold argsOk;kernel_rfl
theorem ers{j:Type}:∀(l:List j)(i:Nat)(h:i<l.length),(l[i]::l.eraseIdx i).Perm l
 |[],_,h=>absurd h (by simp)
 |x::xs,0,_=>.refl _
 |x::xs,i+1,h=>(List.Perm.swap x _ _).trans ((ers xs i (by simpa using h)).cons x)
section
variable{prog:Xh}{w:Xd}{A:Xn}{E:Value->X0->Prop}{s:X0}
theorem SI(j:n≠0)(h:∀i d,i<n->Q i {s with drawn:=d}):X3 M A (choose src n) Q E s:=λu p l=>by
 unfold choose;rw[Sem.wp_choose];exact⟨j,by rw[Sem.wp_pure];exact h _ _ (Nat.mod_lt _ (Nat.pos_of_ne_zero j))⟩
theorem SJ{z:Type}:∀(n:Nat)(j:List z)(s:X0)(Q:List z->X0->Prop),j.length=n->(∀l d,l.Perm j->Q l {s with drawn:=d})->X3 M A (drawOrder n j) Q E s:=by
 intro n
 induction n with
 |zero=>
  intro j s Q u h;unfold drawOrder;have:j=[]:=Cm.mp u;subst this;exact Xa (h [] s.drawn (.refl _))
 |succ n m=>
  intro j s Q u h;cases j with
  |nil=>simp at u
  |cons x j=>
   unfold drawOrder;refine X2 (SI (by simp) λi d y=>?_)
   rw[X6 y];dsimp only;refine X2 (m _ _ _ (by rw[G0 y];lia) λl g c=>Xa ?_)
   have:(((x::j)[i])::l).Perm (x::j):=((List.Perm.cons _ c).trans (ers _ _ y));exact h _ g this
theorem SK{u:Type}(next:Nat->Nat):∀(n k:Nat)(j:List u)(out:Array u),j.length=n->(pickOrder.go next n k j out).toList.Perm (out.toList++j):=by
 intro n
 induction n with
 |zero=>
  intro k j out y;have:j=[]:=Cm.mp y;subst this;unfold pickOrder.go;simp
 |succ n z=>
  intro k j out y;unfold pickOrder.go;have l:next k%j.length<j.length:=Nat.mod_lt _ (by lia)
  rw[X6 l];dsimp only;refine(z _ _ _ (by rw[G0 l];lia)).trans ?_
  rw[Array.toList_push,Vj];exact(List.Perm.refl _).append (by simpa using ers _ _ l)
theorem SL{l:Type}(next:Nat->Nat)(j:Array l):(pickOrder next j).toList.Perm j.toList:=by
 unfold pickOrder
 simpa using SK next j.size 0 j.toList #[] (by simp)
noncomputable def SIt(h:Heap)(l S:Addr)(j:Value)(i n u:Nat):Prop:=
 ∃o,h.get? l=some o/\o.cls=.type "set_iterator"/\o.data=.fields #[j,.int i 0,.ref S,.int n 0,.int u 0]
theorem SIt.typeIs(x:SIt s.heap it S first i n ep):s.TypeIs (.ref it) "set_iterator":=let⟨o,ho,hc,_⟩:=x;⟨o,ho,hc⟩
theorem Bs{h:Heap}{l:Addr}{o:Obj}{y:Array Value}(m:h.get? l=some o)(z:o.data=.fields y)(j:Nat)(v:Value):
  ∃u,(h.update l (Obj.mapFields (·.setIfInBounds j v))).get? l=some u/\u.cls=o.cls/\u.data=.fields (y.setIfInBounds j v):=
 ⟨_,AW _ m (Obj.isFreed_of_fields (Obj.data_mapFields z _)),Obj.cls_mapFields ..,Obj.data_mapFields z _⟩
noncomputable def Nx(w:Xd)(S:Addr)(u:Array (Int×Value))(y:Nat)(t:Yz)(l i:Nat):Option (Value×Nat):=
 if w.params.followText "set-order"=true then(pickOrder (w.params.setOrder S y) u)[i]?.map fun e=>(e.2,l)
 else match u[Bd t.place l]?,t.place[Bd t.place l]? with
  |some (_,x),some j=>some (x,j+1)
  |_,_=>none
theorem SM{t:Yz}
  (j:s.heap.get? S=some o)(l:o.data=.set es ep t)(y:t.fits es.size=true)(hw:w.params.followText "set-order"=true\/(es.size<=1/\t.led=true))
  (h:Q (Nx w S es ep t slot i) s):X3 (X4 prog w) A (setNext S slot i ep) Q E s:=by
 unfold setNext;refine X2 (W0 j l y ?_);refine X2 (m:=setsByText) (X2 (W3 (Xa ?_)));show X3 _ _ (if w.params.followText "set-order"=true then _ else _) _ _ _;unfold Nx at h;by_cases hb:w.params.followText "set-order"=true
 .rw[if_pos hb];rw[if_pos hb]at h;simp only[bne_self_eq_false,YA,if_false];refine X2 ?_;unfold setWalk;refine X2 (W0 j l y ?_);refine X2 (m:=setsByText) (X2 (W3 (Xa ?_)));show X3 _ _ (if w.params.followText "set-order"=true then _ else _) _ _ _;rw[if_pos hb];refine X2 (W3 (Xa (Xa ?_)));exact h
 .rw[if_neg hb];rw[if_neg hb]at h;obtain⟨g,z⟩:=hw.resolve_left hb;have u:(!t.plain&&decide (es.size>1))=false:=by
   rw[decide_eq_false (by lia),CF]
  show X3 _ _ (if(!t.plain&&decide (es.size>1))=true then _ else _) _ _ _;rw[u,if_neg Xu];refine X2 ?_;show X3 _ _ (if(!t.led&& !es.isEmpty)=true then _ else _) _ _ _;rw[z];simp only[We,AZ,YA,if_false];exact Xa (Xa h)
theorem HK(u:A.handled=none)(y:AX it s.heap h₁)
  (z:∀l,AX it s.heap l->Q none {s with heap:=l}):
  X3 (X4 prog w) A.in1 (do let x<- newExc (.type "StopIteration") [];(raiseNew x:Sem Fin)) (fun fin j=>∃v,fin=Fin.done (Flow.ret v)/\X3 (X4 prog w) A (pure (some v)) Q E j)
   (fun e j=>X3 (X4 prog w) A (do let b<- isInstance e (.type "StopIteration");if b=true then pure none else throw e) Q E j) {s with heap:=h₁}:=by
 refine X2 ?_;simp only[newExc,newTuple];refine X2 (ZW ?_ (by size_fits))
 refine X2 (m:=firstArgMember _ _) (wpAny_of_eq (a:=US) (by first|rfl|(simp only[firstArgMember];rfl)) ?_)
 refine ZW ?_ (by size_fits)
 simp only[raiseNew];refine X2 (wpAny_handled ?_);rw[show A.in1.handled=none from u];refine X2 (Xa (wpAny_throw ?_));refine X2 (Vc (T:="StopIteration") (b:=true) ⟨_,Y1 _ rfl,rfl⟩ isSubtype_stop ?_);exact Xa (z _ ((y.push _).push _))
theorem HL{g S:Addr}{i n d j:Nat}{o:Obj}{y:Array (Int×Value)}{t:Yz}{Q:Option Value->X0->Prop}(W:A.handled=none)
  (z:SIt s.heap g S (.int j 0) i n d)(f:s.heap.get? S=some o)(q:o.data=.set y d t)(T:t.fits y.size=true)(Y:y.size=n)
  (hw:w.params.followText "set-order"=true\/(y.size<=1/\t.led=true))
  (h1:∀x e,Nx w S y d t j i=some (x,e)->∀c,SIt c g S (.int e 0) (i+1) n d->Ur g s.heap c->Q (some x) {s with heap:=c})
  (h2:Nx w S y d t j i=none->∀c,AX g s.heap c->Q none {s with heap:=c}):
  X3 (X4 prog w) A (pyNext (.ref g)) Q E s:=by
 obtain⟨B,l,N,u⟩:=id z;unfold pyNext;refine X2 (wpAny_attempt (AG (name:=YQ "__next__") z.typeIs slot_setiter_next
  (Zg slot_setiter_next z.typeIs HI ?_ (HJ _))))
 show X3 _ _ (fieldsOf (.ref g)>>= _) _ _ s;refine X2 (wpAny_fieldsOf l u ?_);show X3 _ _ (setEntries S >>= _) _ _ s;refine X2 (wpAny_setEntries_of f q T ?_);simp only[Y,bne_self_eq_false,YA,if_false];refine X2 (m:=setNext _ _ _ _) ?_;simp only[ZJ];refine SM f q T hw ?_;cases U:Nx w S y d t j i with
 |none=>
  dsimp only;refine X2 (Ve l u (by simp) ?_)
  exact HK W (U7 ..).extBut (h2 U)
 |some p=>
  obtain⟨x,e⟩:=p;dsimp only;obtain⟨C,L,O,hd1⟩:=Bs l u 0 (Y9 e);refine X2 (Ve l u (by simp) ?_)
  refine X2 (Ve L hd1 (by simp) ?_)
  obtain⟨Z,P,R,hd2⟩:=Bs L hd1 1 (Y9 ((i:Int)+1));refine Xa ⟨x,rfl,Xa (h1 x e U _ ⟨Z,P,R.trans (O.trans N),?_⟩ ((U7 ..).trans (U7 ..)))⟩;rw[hd2];simp[Y9]
theorem HM{u S P:Addr}{i n N:Nat}{o U:Obj}{q:Array (Int×Value)}{t:Yz}{L:Array Value}{B:Nat}{Q:Option Value->X0->Prop}(C:A.handled=none)
  (y:SIt s.heap u S (.ref P) i n N)(d:s.heap.get? S=some o)(c:o.data=.set q N t)(W:t.fits q.size=true)(D:q.size=n)
  (O:s.heap.get? P=some U)(R:U.data=.seq L B)
  (h1:∀v,L[i]?=some v->∃(p:Nat) (e:Int×Value),v=.int p 0/\q[p]?=some e/\∀g,SIt g u S (.ref P) (i+1) n N->Ur u s.heap g->Q (some e.2) {s with heap:=g})
  (h2:L[i]?=none->∀g,AX u s.heap g->Q none {s with heap:=g}):
  X3 (X4 prog w) A (pyNext (.ref u)) Q E s:=by
 obtain⟨I,j,T,l⟩:=id y;unfold pyNext;refine X2 (wpAny_attempt (AG (name:=YQ "__next__") y.typeIs slot_setiter_next
  (Zg slot_setiter_next y.typeIs HI ?_ (HJ _))))
 show X3 _ _ (fieldsOf (.ref u)>>= _) _ _ s;refine X2 (wpAny_fieldsOf j l ?_);show X3 _ _ (setEntries S >>= _) _ _ s;refine X2 (wpAny_setEntries_of d c W ?_);simp only[D,bne_self_eq_false,YA,if_false];refine X2 (m:=seqItems? _) (wpAny_seqItems O R ?_);simp only[ZJ];cases Y:L[i]? with
 |none=>
  dsimp only;obtain⟨Z,z,f,hd1⟩:=Bs j l 0 (Y9 0);refine X2 (Ve j l (by simp) ?_)
  refine X2 (Ve z hd1 (by simp) ?_)
  refine HK (s:=s) (it:=u) C ?_ (h2 Y);exact Heap.SameBut.extBut (Heap.SameBut.trans (U7 _ _ _) (U7 _ _ _))
 |some v=>
  obtain⟨p,e,rfl,F,G⟩:=h1 v Y;dsimp only;refine X2 ?_;unfold setNextDrawn;refine X2 (W0 d c W ?_);simp only[ZJ,bne_self_eq_false,YA,if_false,F];obtain⟨k,x⟩:=e;refine Xa ?_;obtain⟨Z,z,f,hd1⟩:=Bs j l 1 (Y9 ((i:Int)+1));refine X2 (Ve j l (by simp) ?_)
  refine Xa ⟨x,rfl,Xa (G _ ⟨Z,z,f.trans T,?_⟩ (U7 ..))⟩;rw[hd1];simp[Y9]
theorem HN(j:SIt s.heap it S first i n ep)(h:Q (.ref it) s):
  X3 (X4 prog w) A (pyIter (.ref it)) Q E s:=by
 refine wpAny_pyIter_slot j.typeIs HH (Zg HH j.typeIs SF ?_ (SH _));show X3 _ _ (ret (.ref it)) _ _ s;exact Xa ⟨_,rfl,"set_iterator",_,j.typeIs,slot_setiter_next.lookup,h⟩
theorem SIt.at(x:SIt h it S first i n ep)(e:∀o,h.get? it=some o->h'.get? it=some o):SIt h' it S first i n ep:=
 let⟨o,ho,r⟩:=x;⟨o,e _ ho,r⟩
theorem SN(T:A.handled=none){I S:Addr}{n f:Nat}{o:Obj}{y:Array (Int×Value)}{t:Yz}{U:List Value}{Good:Nat->Nat->Prop}(N:S≠I)
  (d:o.data=.set y f t)(W:t.fits y.size=true)(Y:y.size=n)(hw:w.params.followText "set-order"=true\/(y.size<=1/\t.led=true))
  (Z:∀i u,Good i u->(i<n->∃x O,Nx w S y f t u i=some (x,O)/\U[i]?=some x/\Good (i+1) O)/\(i=n->Nx w S y f t u i=none)):
  Walks prog w A I [I,S] [I] n (λi v=>U[i]?=some v) (λi h=>∃u,Good i u/\SIt h I S (.int (u:Nat) 0) i n f/\h.get? S=some o)where
 sub:=λb m=>by simp at m;simp[m]
 frame:=λ_ _ _ st B=>let⟨u,g,j,l⟩:=st;⟨u,g,j.at λo e=>B I (by simp) o e,B S (by simp) _ l⟩
 item:=λi s Q E D st c=>by
  obtain⟨u,g,j,l⟩:=st;obtain⟨x,O,p,F,G⟩:=(Z i u g).1 D;refine HL T j l d W Y hw (λJ P q L C R=>?_) (λq=>by rw[p]at q;simp at q)
  rw[p]at q;simp only[B6,Prod.mk.injEq]at q;obtain⟨rfl,rfl⟩:=q;exact c _ L s.toks F ⟨_,G,C,(R.2 S N).trans l⟩ λb o m e=>(R.2 b (λz=>m (by simp[z]))).trans e
 done:=λs Q E st c=>by
  obtain⟨u,g,j,l⟩:=st;have p:=(Z n u g).2 rfl;refine HL T j l d W Y hw (λJ P q L C R=>by rw[p]at q;simp at q) (λ_ L a=>c L s.toks λb o m e=>a b o (λz=>m (by simp[z])) e)
 self:=λ_ _ _ _ st c=>let⟨_,_,j,_⟩:=st;HN j c
theorem SO(T:A.handled=none){I S P:Addr}{n U C:Nat}{o W:Obj}{c:Array (Int×Value)}{t:Yz}{f:List Nat}{Y:List Value}(p:S≠I)(L:P≠I)
  (m:o.data=.set c U t)(Z:t.fits c.size=true)(B:c.size=n)(g:W.data=.seq (f.map λi:Nat=>Y9 i).toArray C)
  (J:f.length=n)(D:∀(i:Nat)(j:Nat),f[i]?=some j->∃e,c[j]?=some e/\Y[i]?=some e.2):
  Walks prog w A I [I,S,P] [I] n (λi v=>Y[i]?=some v) (λi h=>SIt h I S (.ref P) i n U/\h.get? S=some o/\h.get? P=some W)where
 sub:=λb y=>by simp at y;simp[y]
 frame:=λ_ _ _ st N=>⟨st.1.at λo e=>N I (by simp) o e,N S (by simp) _ st.2.1,N P (by simp) _ st.2.2⟩
 item:=λi s Q E M st d=>by
  refine HM T st.1 st.2.1 m Z B st.2.2 g (λv u=>?_) (λq=>?_)
  .simp only[Co,Xj,CQ]at u;obtain⟨j,l,rfl⟩:=u;obtain⟨e,F,u⟩:=D i j l;exact⟨j,e,rfl,F,λO G R=>d _ O s.toks u ⟨G,(R.2 S p).trans st.2.1,(R.2 P L).trans st.2.2⟩ λb o y e=>(R.2 b (λz=>y (by simp[z]))).trans e⟩
  .simp at q;lia
 done:=λs Q E st d=>by
  refine HM T st.1 st.2.1 m Z B st.2.2 g (λv u=>?_) (λ_ O a=>d O s.toks λb o y e=>a b o (λz=>y (by simp[z])) e)
  simp only[Co,Xj,CQ]at u;obtain⟨j,l,rfl⟩:=u;rw[ZZ (by lia)]at l
  simp at l
 self:=λ_ _ _ _ st d=>HN st.1 d
theorem SQ{d:Type}(l:Array d){u:List Nat}(m:u.Perm (XI l.size)):
  ∃g:List d,g.Perm l.toList/\g.length=u.length/\∀(i:Nat)(j:Nat),u[i]?=some j->∃e,l[j]?=some e/\g[i]?=some e:=by
 have y:∀j∈u,j<l.size:=λj z=>UO.mp (m.mem_iff.mp z);refine⟨u.filterMap λj=>l[j]?,(m.filterMap _).trans (by rw[filterMap_getElem?_range]),?_⟩
 clear m
 induction u with
 |nil=>exact⟨rfl,λi j h=>by simp at h⟩
 |cons j u c=>
  have z:=y j XY;obtain⟨f,q⟩:=c λk p=>y k (XU _ p);rw[List.filterMap_cons_some (b:=l[j]) (by simp[z])]
  refine⟨by simp[f],λi k h=>?_⟩
  cases i with
  |zero=>
   simp at h;subst h;exact⟨l[j],by simp[z],rfl⟩
  |succ i=>
   simp at h;obtain⟨e,L,N⟩:=q i k h;exact⟨e,L,by simpa using N⟩
def SR(prog:Xh)(w:Xd)(z:List Str)(j:Heap)(S I:Addr)(m:Heap):Prop:=
 ∃(u:List Addr) (n:Nat) (l:List Value) (St:Nat->Heap->Prop),
  (∀y:Xn,y.handled=none->Walks prog w y I u [I] n (λi v=>l[i]?=some v) St)/\St 0 m/\l.length=n/\(l.map txt).Perm z/\(∀v∈l,∃t,v=Yv (txt v) t)/\
  (∀b∈u,b=S\/j.objs.size<=b)/\j.objs.size<=I
theorem HP(h:p.size=1)(j:Nat):Bd p j=if p[0]'(by lia)<j then 1 else 0:=by
 obtain⟨l⟩:=p
 match l,h with
 |[a],_=>
  show(if 0<1 then(if(#[a]:Array Nat).getD ((0+1)/2) j<j then GA #[a] j 0 ((0+1)/2+1) 1 else GA #[a] j 0 0 ((0+1)/2))else 0)=if a<j then 1 else 0;rw[if_pos (by lia)]
  rfl
theorem SS{S:Addr}{o:Obj}{C:List Str}{Q:Value->X0->Prop}(p:s.heap.get? S=some o)(hS:WSet prog w o C)
  (hQ:∀(I:Addr)(h':Heap)d,SR prog w C s.heap S I h'->(∀b o,s.heap.get? b=some o->h'.get? b=some o)->Q (.ref I) {s with heap:=h',drawn:=d}):
  X3 (X4 prog w) A (pyIter (.ref S)) Q E s:=by
 obtain⟨hex,u,W,t,D,hel,hp,Y,N,G,hpl⟩:=id hS;have hT:s.TypeIs (.ref S) "set":=⟨o,p,hex.1⟩;have J:S<s.heap.objs.size:=Xq p;have hsz:u.size=C.length:=by rw[<-hp.length_eq,X5,Yn]
 have O:∀e∈u.toList,∃t,e.2=Yv (txt e.2) t:=λe c=>by
  obtain⟨⟨k,hk,_⟩,_⟩:=hel e c;obtain⟨t,ht⟩:=isT.mp hk;exact⟨t,by rw[ht];rfl⟩
 have hsl:sizeLine=16777216:=by decide
 have hsb:scanBound=4096:=rfl;refine wpAny_pyIter_slot hT F.slot_set_iter (Zg F.slot_set_iter hT SG ?_ (F.args_set_iter_1 _));show X3 _ _ (Gz S >>= _) _ _ s;refine X2 (m:=Gz S) (X2 (wpAny_setEntries_of p D N (Xa ?_)));refine X2 (m:=setDrawn S) ?_;unfold setDrawn;refine X2 (W0 p D N ?_);refine X2 (m:=setsByText) (X2 (W3 (Xa (Xa ?_))));show X3 _ _ (if(!w.params.followText "set-order"&&(!t.plain&&decide (u.size>1)))=true then _ else _) _ _ _;have rest:∀(y:Value)(l:X0)(R:Fin->X0->Prop),l.heap.get? S=some o->
   R (.done (.ret (.ref l.heap.objs.size))) {l with heap:=l.heap.push {cls:=.type "set_iterator",data:=.fields #[y,.int 0 0,.ref S,.int (u.size:Nat) 0,.int W 0]} }->
   X3 (X4 prog w) A.in1 (do let e<- setEpoch S;let v<- newFields "set_iterator" [y,Y9 0,.ref S,Y9 (u.size:Nat),Y9 e];ret v) R E l:=by
  intro y l R T h
  refine X2 (wpAny_setEpoch_of T D N ?_);exact X2 (ZW (Xa h))
 have g:∀(Good:Nat->Nat->Prop)(Z:List Value),Good 0 0->Z.length=u.size->(Z.map txt).Perm C->(∀v∈Z,∃t,v=Yv (txt v) t)->
   (w.params.followText "set-order"=true\/(u.size<=1/\t.led=true))->
   (∀i f,Good i f->(i<u.size->∃x nx,Nx w S u W t f i=some (x,nx)/\Z[i]?=some x/\Good (i+1) nx)/\(i=u.size->Nx w S u W t f i=none))->
   ∀(l:X0),l=s->X3 (X4 prog w) A.in1 (do let e<- setEpoch S;let v<- newFields "set_iterator" [Y9 0,Y9 0,.ref S,Y9 (u.size:Nat),Y9 e];ret v)
    (fun fin s'=>∃v,fin=Fin.done (Flow.ret v)/\∃T' r,s'.TypeIs v T'/\typeLookup (.type T') "__next__"=pure (some r)/\Q v s') E l:=by
  intro Good Z g0 hlv hpv hsv hw hg l M;subst M;refine rest _ _ _ p ⟨_,rfl,"set_iterator",_,⟨_,Y1 _ rfl,rfl⟩,slot_setiter_next.lookup,?_⟩;refine hQ _ _ l.drawn ⟨[l.heap.objs.size,S],u.size,Z,_,λA' hh=>SN hh (XN J) D N rfl hw hg,⟨0,g0,⟨_,Y1 _ rfl,rfl,rfl⟩,XD _ p⟩,hlv,hpv,hsv,λb Y=>?_,Xf _⟩ λb o e=>XD _ e;simp only[Xm,Ya,or_false]at Y;rcases Y with rfl|rfl
  .exact .inr (Xf _)
  .exact .inl rfl
 by_cases hbt:w.params.followText "set-order"=true
 .rw[hbt];simp only[We,AZ,YA,if_false];refine X2 (Xa ?_);have q:=SL (w.params.setOrder S W) u;refine g (λ_ _=>True) ((pickOrder (w.params.setOrder S W) u).toList.map (·.2)) trivial ?_ ?_ ?_ (.inl hbt) ?_ s rfl
  .rw[X5,q.length_eq,Yn]
  .rw[Ym];exact(q.map _).trans hp
  .intro v X;obtain⟨e,c,rfl⟩:=Xt.mp X;exact O e (q.mem_iff.mp c)
  .intro i f _;have hps:(pickOrder (w.params.setOrder S W) u).size=u.size:=by rw[<-Yn,q.length_eq,Yn]
   unfold Nx;rw[if_pos hbt];refine⟨λhi=>?_,λhi=>?_⟩
   .rw[UR (by lia)]
    exact⟨_,_,rfl,by simp[hps,hi],trivial⟩
   .rw[CL (by lia)]
    rfl
 .have H:w.params.followText "set-order"=false:=by simpa using hbt
  have hlt:t.led=true:=by rw[G,H];rfl
  rw[H];simp only[CG,CH];by_cases h1:u.size>1
  .have hz:C≠ []:=λz=>by rw[z,List.length_nil]at hsz;lia
   rw[hpl hz,decide_eq_true h1];simp only[CG,Bool.and_self,if_true];refine X2 (SJ _ _ _ _ (by simp) λB d hj=>?_)
   obtain⟨ys,n,hy2,hy3⟩:=SQ u hj;have a:B.length=u.size:=by rw[hj.length_eq,YF]
   refine X2 (wpAny_newTuple ?_ (by rw[X5];lia))
   refine rest _ _ _ (XD _ p) ⟨_,rfl,"set_iterator",_,⟨_,Y1 _ rfl,rfl⟩,slot_setiter_next.lookup,?_⟩;have hPne:s.heap.objs.size≠(s.heap.push {cls:=.type "tuple",data:=.seq (B.map fun i:Nat=>Y9 i).toArray}).objs.size:=by rw[UQ];lia
   have hSne:S≠(s.heap.push {cls:=.type "tuple",data:=.seq (B.map fun i:Nat=>Y9 i).toArray}).objs.size:=by rw[UQ];exact XN (Wf J)
   have L:s.heap.objs.size<=(s.heap.push {cls:=.type "tuple",data:=.seq (B.map fun i:Nat=>Y9 i).toArray}).objs.size:=by rw[UQ];lia
   refine hQ _ _ d ⟨[_,S,s.heap.objs.size],u.size,ys.map (·.2),_,λA' hh=>SO hh (S:=S) (P:=s.heap.objs.size) (o:=o) (f:=B)
    (W:={cls:=.type "tuple",data:=.seq (B.map fun i:Nat=>Y9 i).toArray}) hSne hPne D N rfl rfl a ?_,
    ⟨⟨_,Y1 _ rfl,rfl,rfl⟩,XD _ (XD _ p),XD _ (Y1 _ rfl)⟩,?_,?_,?_,λb Y=>?_,?_⟩
    λb o e=>XD _ (XD _ e)
   .intro i j hij;obtain⟨e,c,hy⟩:=hy3 i j hij;exact⟨e,c,by rw[Xj,hy];rfl⟩
   .rw[X5,hy2,a]
   .rw[Ym];exact(n.map _).trans hp
   .intro v X;obtain⟨e,c,rfl⟩:=Xt.mp X;exact O e (n.mem_iff.mp c)
   .simp only[Xm,Ya,or_false]at Y;rcases Y with rfl|rfl|rfl
    .exact .inr L
    .exact .inl rfl
    .exact .inr (Xf _)
   .exact L
  .rw[decide_eq_false h1];simp only[CF,YA,if_false];refine X2 (Xa ?_);have hfp:t.place.size=u.size:=by
    simp only[SetTable.fits,XM,beq_iff_eq,decide_eq_true_eq]at N;exact N.1
   refine g (λi f=>(i=0->f=0)/\(i=1->∃h:0<t.place.size,f=t.place[0]+1)) (u.toList.map (·.2)) ⟨λ_=>rfl,λz=>absurd z (by lia)⟩ (by simp) ?_ ?_ (.inr ⟨by lia,hlt⟩) ?_ s rfl
   .rw[Ym];exact hp
   .intro v X;obtain⟨e,c,rfl⟩:=Xt.mp X;exact O e c
   .intro i f ⟨g0,g1⟩;unfold Nx;rw[if_neg hbt];refine⟨λhi=>?_,λhi=>?_⟩
    .have hs1:u.size=1:=by lia
     have hi0:i=0:=by lia
     subst hi0;have hpz:t.place.size=1:=by lia
     rw[g0 rfl,HP hpz,if_neg (by lia),UR (by lia),UR (by lia)]
     refine⟨_,_,rfl,?_,λz=>absurd z (by lia),λ_=>⟨by lia,rfl⟩⟩
     simp[hs1]
    .have U:u[Bd t.place f]?=none:=by
      by_cases h0:u.size=0
      .exact CL (by lia)
      .have hs1:u.size=1:=by lia
       obtain⟨hq,e⟩:=g1 (by lia)
       rw[e,HP (by lia),if_pos (by lia)]
       exact CL (by lia)
     rw[U]
theorem SU(hh:A.handled=none)(ho:s.heap.get? S=some o)(hS:WSet prog w o zs)
  (hQ:∀(T:List Value)(U:Heap)(d:Drawn)(g:Array GenState)tk,(T.map txt).Perm zs->(∀v∈T,∃t,v=Yv (txt v) t)->(∀b o,s.heap.get? b=some o->U.get? b=some o)->g=s.gens->s.heap.objs.size<=U.objs.size->
   Q T {s with heap:=U,drawn:=d,gens:=g,toks:=tk}):X3 (X4 prog w) A (collect (.ref S)) Q E s:=by
 obtain⟨Y,es,ep,t,hd,hel,hp,Z,hf,hled,hpl⟩:=id hS;have H:S<s.heap.objs.size:=Xq ho;have hsl:sizeLine=16777216:=by decide
 have hsb:scanBound=4096:=rfl;have hsz:es.size=zs.length:=by rw[<-hp.length_eq,X5,Yn]
 unfold collect;refine X2 (wpAny_runValue (Z7 F.entry_proto_collect ?_));rw[Zw F.plain_proto_collect _];show X3 _ A.in1 (newList [] >>= fun l=>again (.builtin "list.__iadd__" ⟨[l,.ref S],[]⟩)) _ _ s;refine X2 (ZW ?_);refine Xa ⟨ZD F.plain_list_iadd _,Z7 F.entry_list_iadd ?_⟩;rw[Zw F.plain_list_iadd _];show X3 _ A.in1 (Gs (.ref s.heap.objs.size) (.ref S) (.ref s.heap.objs.size)) _ _ _;have B:s.heap.objs.size≠S:=(XN H).symm;generalize hL:s.heap.objs.size=L at*;have x:(s.heap.push {cls:=.type "list",data:=.seq ([]:List Value).toArray}).get? L=some {cls:=.type "list",data:=.seq ([]:List Value).toArray}:=by
  rw[<-hL];exact Y1 _ rfl
 have p:(s.heap.push {cls:=.type "list",data:=.seq ([]:List Value).toArray}).get? S=some o:=XD _ ho;have f:(s.heap.push {cls:=.type "list",data:=.seq ([]:List Value).toArray}).objs.size=L+1:=by rw[UQ,hL]
 have C:∀b u,s.heap.get? b=some u->b≠L/\(s.heap.push {cls:=.type "list",data:=.seq ([]:List Value).toArray}).get? b=some u:=fun b u e=>
  ⟨by rw[<-hL];exact XN (Xq e),XD _ e⟩
 generalize s.heap.push {cls:=.type "list",data:=.seq ([]:List Value).toArray}=h₁ at*;have hT:Bh {s with heap:=h₁} (.ref S) "set":=⟨o,p,Y.1⟩;unfold Gs;refine X2 (UJ hT ?_);have e1:Gu (.ref L) (.ref S)=false:=by simp[Gu,B]
 have e2:(ZK "set"==ZK "list")=false:=by decide
 have e3:(ZK "set"==ZK "tuple")=false:=by decide
 simp only[e1,e2,e3,Bool.or_false,YA,if_false];refine X2 (SS (s:={s with heap:=h₁}) p hS λI j d hW hk=>?_);obtain⟨fp,n,T,St,h,a,hvn,D,hvs,hfp,hI⟩:=hW;have N:∀b u,h₁.get? b=some u->j.get? b=some u:=hk;have O:Bh {s with heap:=j,drawn:=d} (.ref S) "set":=⟨o,N _ _ p,Y.1⟩;refine X2 (Zf ?_);unfold Builtin.List.listLengthHint;refine X2 (wpAny_specialOf O F.slot_set_len.lookup ?_);have hsp:splitId "set.__len__"=some ("set","__len__"):=by decide+kernel
 extract_lets j1 j2
 dsimp -zeta only;rw[hsp];dsimp -zeta only;refine X2 (Vc O sub_set_self ?_);simp only[We,YA,if_false];show X3 _ _ (ite (_=true) _ _) _ _ _;split
 case isFalse hs=>exact absurd (by rfl) hs
 refine X2 (UJ O ?_);refine Xa ?_;split
 case isFalse hs=>exact absurd (by rfl) hs
 refine X2 (Vd ?_);refine X2 ?_;have m:j.get? L=some {cls:=.type "list",data:=.seq ([]:List Value).toArray}:=N _ _ x;show X3 _ A.in1 (updateSeq L (·.push .none)>>= λ_=>updateSeq L (·.pop)) _ _ _;refine X2 (wpAny_updateSeq m rfl ?_);have c:=AW (Vy (·.push US)) m rfl;refine wpAny_updateSeq c rfl ?_;have P:=AW (Vy (·.pop)) c rfl;have G:∀b o,b≠L->j.get? b=some o->((j.update L (Vy (·.push US))).update L (Vy (·.pop))).get? b=some o:=
  λb o Z e=>(CC _ _ (ZM Z)).trans ((CC _ _ (ZM Z)).trans e)
 have J:L∉fp:=λz=>by
  rcases hfp L z with e|e
  .exact B e
  .have:L+1<=L:=f▸e;lia
 have hin:A.in1.handled=none:=by simp[hh]
 have W:=(h A.in1 hin).toS;have hn:n<=sizeLine:=by
  have:n=zs.length:=by rw[<-hvn,<-D.length_eq,X5]
  lia
 refine Xa ⟨ZD F.plain_extend_loop _,codeAny_extend_loopS W hn L J _ n 0 _ _ _ rfl (Zj _)
  (W.frame 0 ({s with heap:=j,drawn:=d}:X0) _ s.toks a (Xf _) λb Z o e=>G b o (λz=>J (z▸Z)) e) P (ItemsOf.nil _) λs' y c' X M q=>?_⟩
 show X3 _ A (load L >>= _) _ _ s';refine X2 (wpAny_load M ?_);have hav:y.toList=T:=by
  refine Vk λi=>?_;by_cases hi:i<y.size
  .have e:=q.2 i y[i] (by simp[hi])
   rw[e];simp[hi]
  .rw[ZZ (by simp;lia),ZZ (by have:=q.1;lia)]
 obtain⟨U,g',d',tk',os'⟩:=s';have eg:g'=s.gens:=X.gens;have ed:d'=d:=X.drawn;have eo:os'=s.os:=X.os;subst ed;subst eo;refine Xa ?_;show Q y.toList _;rw[hav];refine hQ T U _ g' tk' D hvs (λb u e=>?_) eg (Vp (Xq M));have R:=C b u e;refine X.heap b u ?_ (G b u R.1 (N b u R.2));simp only[Xm,Ya,or_false,not_or];refine⟨R.1,λz=>?_⟩;have h1:L+1<=I:=Y7 (Vq f.symm) hI;have h2:b<L:=by rw[<-hL];exact Xq e
 rw[z]at h2;exact absurd h1 (Nat.not_le_of_lt (Wf h2))
theorem SV(C:A.handled=none)(D:s.heap.get? S=some o)(F:WSet prog w o zs)(G:zs.length<64)
  (h:∀(p:Addr)(L:Heap)(d:Drawn)q (out:List Value)(N:List Str)(e:Nat),s.heap.objs.size<=p->(∀b o,s.heap.get? b=some o->L.get? b=some o)->L.get? p=some (seqObj "list" out.toArray e)->
   StrsAre out N->N.Perm zs->sortedS N=true->Q (.ref p) {s with heap:=L,drawn:=d,toks:=q}):
  X3 (X4 prog w) A (call (.builtin "sorted") [.ref S]) Q E s:=by
 refine Calls.call_function_entry kind_sorted plain_sorted entry_sorted (args_sorted1 _) ?_;unfold Builtin.«sorted»;refine X2 (m:=checkCount "sorted" 1 1 _) (Xa ?_);have I:sizeLine=16777216:=by decide
 refine X2 (SU (by simp[C]) D F λl j d g q U W J M O=>?_)
 subst M;have hl:l.length=zs.length:=by rw[<-U.length_eq,X5]
 refine X2 (wpAny_newList ?_ (by lia))
 have u:(j.push (seqObj "list" l.toArray 0)).get? j.objs.size=some (seqObj "list" l.toArray 0):=Y1 _ rfl;have y:StrsAre l (l.map strOf):=strsAre_map l λv P=>by obtain⟨t,e⟩:=W v P;exact⟨_,t,e⟩
 have R:l.map strOf=l.map txt:=Cq λv P=>by obtain⟨t,e⟩:=W v P;rw[e];rfl
 show X3 _ _ _ _ _ {s with heap:=j.push (seqObj "list" l.toArray 0),drawn:=d,toks:=q};refine X2 (Zf (Zg slot_list_sort ⟨_,u,rfl⟩ entry_list_sort (list_sort_treeK strKind_oneLt u y.keysOf (λY Z rest e=>keyKind_strs (by rw[<-e];exact y)) (by lia) λz X H=>⟨_,rfl,?_⟩) (args_list_sort _)))
 obtain⟨T,i,B,n⟩:=sorted_out_str y X H;refine Xa ⟨_,rfl,?_⟩;obtain⟨e,x⟩:=sortedHeap_at (out:=(arrOf z).map (·.2)) u;refine h j.objs.size _ d q ((arrOf z).map (·.2)).toList T e O (λb o a=>?_) (by rw[Array.toArray_toList];exact x) i (by rw[R]at B;exact B.trans U) n
 have c:=J b o a;have f:b<j.objs.size:=Xq c;rw[sortedHeap_old (XN f) (by rw[size_push'];exact Wf f)]
 exact XD _ c
end
theorem Inv.drew(I:Inv X pz σ H s)(d:Drawn):Inv X pz σ H {s with drawn:=d}:=
 ⟨I.ok,I.os,I.bare,I.base,I.loc,I.cell,I.free,I.freeC,I.pin,I.hok,I.len⟩
theorem few{j:List Str}(l:j.Nodup):∀(N:List Str),(∀z∈j,z∈N)->j.length<=N.length:=by
 induction j with
 |nil=>intro N _;exact Zj _
 |cons z j m=>
  intro N h;rw[ZH]at l;have g:=h z XY;have u:=List.perm_cons_erase g;have:=m l.2 (N.erase z) λy w=>by
   have:=u.mem_iff.mp (h y (XU _ w));rcases Xm.mp this with e|e
   .exact absurd (e▸w) l.1
   .exact e
  have d:=u.length_eq;simp only[Y0]at d ⊢;lia
theorem HQ:∀{j:List Value} {l:List Str},StrsAre j l->Vals (l.map V.str) j
 |_,_,.nil=>.nil
 |_,_,.cons x t h=>.cons ⟨t,rfl⟩ (HQ h)
def Ww(X:Cx)(f g:Value)(r:V->Hp->VK->Prop):Prop:=
 ∀(j:List (Addr×Obj))(s:X0)(l:St)(H:Hp)(x:V)(u:Value)(Q:VK),Inv X j l H s->RelV x u->r x H Q->
  X3 (X4 X.prog X.w) X.A (call g [u]) (λv w=>X3 (X4 X.prog X.w) X.A (call f [v]) (EP X j l Q) X.xe w) X.xe s
section
variable{X:Cx}
theorem De{x y:Str}{id T:String}{r:V->Hp->VK->Prop}{e:Expr}{t:TE}{p L l j:Pos}(P:Ww X (.builtin id) (.type T) r)
  (R:Gl X x)(U:X.mg x=none)(W:Yu x=some (.builtin id))(m:Gl X y)(g:X.mg y=none)(d:Yu y=some (.type T))(Y:PE X e t)
  (Z:x≠"__name__")(c:(x==("__debug__":Str))=false)(f:y≠"__name__")(w:(y==("__debug__":Str))=false)
  (N:Xs [e] X.env=(false,eval e X.env)::Xs [] X.env):
  PE X (.Call (.Name x p) [.Call (.Name y L) [e] [] j] [] l) (λz H Q=>t z H λv q=>r v q Q):=by
 intro O s z H Q I h;refine Uk (_N I R U W ?_ Z c);refine Ga ?_ rfl rfl;show X3 _ _ (spliced ((false,eval (.Call (.Name y L) [e] [] j) X.env)::Yl l (Xs [] X.env))) _ _ s;refine Wi ?_;refine Uk (_N I m g d ?_ f w);refine Vu ?_ N rfl;rw[N];show X3 _ _ (spliced ((false,eval e X.env)::Yl j (Xs [] X.env))) _ _ s;refine Wi (thn (Y O s z H _ I h) λu A ⟨v,q,B,C,D⟩=>?_);refine Wj ?_;exact thn (P O A z q v u Q B C D) λF G E=>Wj E
theorem SW(c:X.calm=true):Ww X (.builtin "sorted") (.type "set") (fun x H Q=>∃(a:Addr) (l N:List Str),x=.ref a/\SqL X.K H a (l.map V.str)/\l.length+1<scanBound/\(∀z∈l,z∈N)/\N.length<64/\
  ∀p (B:List Str),H p=none->B.Nodup->(∀y,y∈B↔y∈l)->sortedS B=true->Q (.ref p) (upd H p (.lst (B.map V.str)))):=by
 intro pz s σ H x u Q I rx h;obtain⟨a,l,N,rfl,ha,P,n,R,q⟩:=h;cases rx;obtain⟨g,rv,p,C⟩:=I.list ha;have hh:=I.ok.hd c;have T:g.length=l.length:=by rw[<-rv.length,X5]
 have U:g.toArray.size=l.length:=by simp[T]
 have hi:∀(i:Nat)(v:Value),g.toArray[i]?=some v->∃t,v=Yv (l.getD i ⟨#[]⟩) t:=λi v hv=>by
  have W:g[i]?=some v:=by simpa using hv
  have Y:i<l.length:=by rw[<-T];exact(Xz.mp W).1
  obtain⟨u,hu,ru⟩:=rv.get (i:=i) (x:=V.str l[i]) (by simp[Y])
  rw[W]at hu;cases hu;obtain⟨t,rfl⟩:=ru;exact⟨t,by simp[W9,Y]⟩
 have m:∀y,y∈met (λi=>l.getD i ⟨#[]⟩) l.length↔y∈l:=λy=>by
  rw[HD,List.mem_iff_getElem];constructor
  .rintro⟨j,Z,rfl⟩;exact⟨j,Z,by simp[W9,Z]⟩
  .rintro⟨j,Z,rfl⟩;exact⟨j,Z,by simp[W9,Z]⟩
 refine SD (f:=λi=>l.getD i ⟨#[]⟩) hh p.isList hi (by rw[U];exact P) λh1 A o ho hS hk=>?_
 rw[U]at hS;have I1:Inv X pz σ H {s with heap:=h1,toks:=A}:=I.kept λb u e=>hk b u (Xq e) e;have D:=HC (λi=>l.getD i ⟨#[]⟩) l.length;refine SV (s:={s with heap:=h1,toks:=A}) hh ho hS (Nat.lt_of_le_of_lt (few D N λz C=>n z ((m z).mp C)) R) λE h2 d F out G e hp J M S w L=>?_;have O:G.length<=sizeLine:=by
  have hsl:sizeLine=16777216:=by decide
  have:=few D N λz C=>n z ((m z).mp C);rw[w.length_eq];lia
 have I2:=(I1.laid (a:=E) (t':=F) (h':=h2) (o:=.lst (G.map V.str)) (λb u e=>J b u e) hp
  ⟨by rw[X5];exact O,out,e,HQ S,M⟩).drew d
 exact⟨.ref E,_,I2,rfl,q E G (I1.hok.fresh hp) (w.nodup_iff.mpr D) (λy=>(w.mem_iff).trans (m y)) L⟩
end
theorem SX{c:String}(N:c="list"\/c="tuple"){l:Xh}{w:Xd}{A:Xn}{E:Value->X0->Prop}{s:X0}{a:Addr}{j:Array Value}{n:Nat}{m:Array (Option Value)}{Q:Option Value->X0->Prop}(p:s.heap.get? a=some ⟨.type c,none,.seq j n,m⟩)(O:A.handled=none)
  (P:∀y f,(∀b o,s.heap.get? b=some o->y.get? b=some o)->Q none {s with heap:=y,toks:=f}):X3 (X4 l w) A (getAttr? (.ref a) "keys") Q E s:=by
 obtain⟨id,q,T,U,W,Y⟩:∃id,Slot c "__getattribute__" id/\entryFor table id=some Builtin.«object.__getattribute__»/\(∀b,argsOk id ⟨[.ref a,b],[]⟩)/\(∀u,Meets (Builtin.«object.__getattribute__» ⟨[.ref a,.str "keys" u],[]⟩) (fun A R s=>s.heap.get? a=some ⟨.type c,none,.seq j n,m⟩/\raisesAttr (.ref a) "keys" A R s))/\typeLookup (.type c) "__getattr__"=pure none:=by
  rcases N with rfl|rfl
  .exact⟨_,F.slot_list_getattribute,am_entry_list_getattribute,F.args_list_getattribute_2 _,fun u=>meets_getattribute_miss_list a j n m "keys" u (am_miss_of_fast (by kernel_rfl)) (by kernel_rfl),am_list_getattr_none⟩
  .exact⟨_,F.slot_tuple_getattribute,am_entry_tuple_getattribute,F.args_tuple_getattribute_2 _,fun u=>meets_getattribute_miss_tuple a j n m "keys" u (am_miss_of_fast (by kernel_rfl)) (by kernel_rfl),am_tuple_getattr_none⟩
 obtain⟨h,g,d,t,os⟩:=s;unfold getAttr? getAttrBy? mkText;refine X2 (X2 (wpAny_fresh (Xa ?_)));refine X2 (wpAny_attempt ?_);have L:∀t,(⟨h,g,d,t,os⟩:X0).TypeIs (.ref a) c:=λ_=>⟨_,p,rfl⟩;have f2:=q.lookup;have f3:=q.bind (.ref a)
 repeat (any_goals (first|assumption|exact L _|((with_reducible show X3 _ _ (call (Vr id) _ _) _ _ _);refine call_meets q (L _) T (U _) (W _) ⟨p,O,λy f e x=>?_⟩)|wp_step))
 have z:(⟨y,g,d,f,os⟩:X0).TypeIs (.ref e) "AttributeError":=by obtain⟨_,_,o⟩:=x.there;exact⟨_,o,rfl⟩
 show X3 _ _ (getattributeRaised _ _ _ _ _ _ _) _ _ _;unfold getattributeRaised;refine X2 (Vc z sub_AttributeError ?_);simp only[if_true];unfold hookBehind onTheHeap;simp only[YA,if_false];rw[Y];refine X2 (Xa ?_);unfold hookOrError attributeErrorLeaves;simp only[CG,if_true];refine X2 (wpAny_throw ?_);refine X2 (Vc z sub_AttributeError ?_);simp only[if_true];exact Xa (P y f x.keeps)
theorem HR:entryFor table "dict.update.loop"=some Builtin.«dict.update.loop»:=entryFor_of_tree (by kernel_rfl)
theorem Bt:plainId "dict.update.loop"=true:=by decide+kernel
section
variable{prog:Xh}{w:Xd}{A:Xn}{E:Value->X0->Prop}{s:X0}{K:Type} [DecidableEq K] {knd:KeyKind prog w K}
noncomputable def stTo(j:Nat->K)(l:Nat->Value):Nat->List (K×Value)
 |0=>[]
 |i+1=>stored (stTo j l i) (j i) (l i)
theorem SY(j:List (K×Value))(k:K)(v:Value):(stored j k v).length<=j.length+1:=by
 unfold stored;split<;>simp
theorem Df(j:Nat->K)(l:Nat->Value):∀i,(stTo j l i).length<=i
 |0=>Xf _
 |i+1=>Y7 (SY _ _ _) (Nat.succ_le_succ (Df j l i))
theorem SZ{St:Nat->X0->Prop}
  (W:WalksS prog w A.in1 I fp wr G n P St)(D:Addr)(N:D∉fp)(O:Nat->K)(y:Nat->Value)(p:n<=sizeLine):
  ∀(k i:Nat)(s:X0),n - i=k->i<=n->St i s->s.heap.DictOf knd D (stTo O y i)->
   (∀j v,P j v->∃q g J L,v=.ref q/\q≠D/\q∉wr/\s.heap.get? q=some L/\L.cls=.type "tuple"/\L.data=.seq #[g,y j] J/\knd.is (O j) g=true)->
   (∀l,Moved (D::wr) G s l->l.heap.DictOf knd D (stTo O y n)->R (.ok (.ret .none)) l)->
   Z4 (X4 prog w) A (.builtin "dict.update.loop" ⟨[.ref D,.ref I,Y9 (i:Nat),.none],[]⟩) R s:=by
 have T:D∉wr:=λh=>N (W.sub _ h);have u:∀b∈wr,b∈D::wr:=λb p=>XU _ p;intro k
 induction k with
 |zero=>
  intro i s hk hi d M Q S;have X:i=n:=by lia
  subst X;refine Z7 HR ?_;rw[Zw Bt _];show X3 _ A.in1 (pyNext (.ref I)>>= _) _ _ s;refine X2 (W.done s _ _ d λl c=>?_);refine X2 (m:=Builtin.Dict.addKeywords D []) (Xa ?_);refine Xa (S l (c.mono u) ?_);obtain⟨o,H,x,a,r⟩:=M;exact⟨o,H,x,c.heap D _ T a,r⟩
 |succ k ih=>
  intro i s hk hi d M Q S;have U:i<n:=by lia
  refine Z7 HR ?_;rw[Zw Bt _];show X3 _ A.in1 (pyNext (.ref I)>>= _) _ _ s;refine X2 (W.item i s _ _ U d λv l hP Y c=>?_);obtain⟨q,g,J,L,rfl,hqD,hqw,hq,hqc,hqd,Z⟩:=Q i v hP;have B:=c.heap q _ hqw hq;have hd':l.heap.DictOf knd D (stTo O y i):=by
   obtain⟨o,H,x,a,r⟩:=M;exact⟨o,H,x,c.heap D _ T a,r⟩
  have hT:l.TypeIs (.ref q) "tuple":=⟨_,B,hqc⟩;show X3 _ A.in1 (holding [XE q] _ >>= _) _ _ l;refine X2 (Zf ?_);refine X2 (wpAny_tryCatch ?_);unfold Builtin.Dict.pairItems;refine X2 (UJ hT ?_);have e2:(ZK "tuple"==ZK "tuple")=true:=rfl;rw[e2,Vo,if_pos rfl];refine X2 (wpAny_seqItems B hqd (Xa ?_));show X3 _ A.in1 (holding [g,y i] (dictSet D g (y i))) _ _ l;refine Zf ?_;have hl:=Df O y i;refine wpAny_dictSet_pairs (knd:=knd) Z hd' (λh' hd2 f=>?_) (by lia)
  refine Xa ⟨ZD Bt _,?_⟩;have:=ih (i+1) {l with heap:=h',toks:=l.toks+1} (by lia) U (W.frame _ l _ _ Y (B4 _) λb p o e=>?_) hd2 (λj v hPj=>?_) λs'' C F=>?_
  .exact this
  .rw[f.2 b (λz:b=D=>N (by rw[<-z];exact p))];exact e
  .obtain⟨q,g,J,L,rfl,a1,a2,a3,a4⟩:=Q j v hPj;exact⟨q,g,J,L,rfl,a1,a2,(f.2 q a1).trans (c.heap q _ a2 a3),a4⟩
  .refine S s'' (Moved.trans W.gtrans ((c.mono u).then_heap (B4 _) λb o p e=>?_) C) F;rw[f.2 b (λz:b=D=>p (by rw[z];exact XY))];exact e
theorem T0{l:Addr}{items:Array Value}{L:Nat}{B:Array (Option Value)}{c:String}{C:Nat->K}{D:Nat->Value}{Q:Value->X0->Prop}(G:c="list"\/c="tuple")(I:A.handled=none)(x:s.heap.get? l=some ⟨.type c,none,.seq items L,B⟩)(hn:items.size<=sizeLine)
  (ht:∀(j:Nat)v,items[j]?=some v->∃q W J N,v=.ref q/\s.heap.get? q=some N/\N.cls=.type "tuple"/\N.data=.seq #[W,D j] J/\knd.is (C j) W=true)
  (h:∀O tk,O.DictOf knd s.heap.objs.size (stTo C D items.size)->(∀b o,b<s.heap.objs.size->s.heap.get? b=some o->O.get? b=some o)->Q (.ref s.heap.objs.size) {s with heap:=O,toks:=tk}):
  X3 (X4 prog w) A (call (.type "dict") [.ref l]) Q E s:=by
 refine callType_codes (Q₁:=fun P d=>P=.ref s.heap.objs.size/\d={s with heap:=s.heap.push {cls:=.type "dict",data:=.dict #[]} }) F.kt_called_dict (F.kt_typeCall_dict_1 _) F.entry_dict_init (kt_code_dict_new _ ⟨rfl,rfl⟩) ?_;rintro P d ⟨rfl,rfl⟩;have u:(s.heap.push {cls:=.type "dict",data:=.dict #[]}).DictOf knd s.heap.objs.size []:=Heap.DictOf.new s.heap;have p:(s.heap.push {cls:=.type "dict",data:=.dict #[]}).get? l=some ⟨.type c,none,.seq items L,B⟩:=XD _ x;have hT:Bh {s with heap:=s.heap.push {cls:=.type "dict",data:=.dict #[]} } (.ref l) c:=⟨_,p,rfl⟩;refine⟨u.typeIs,F.args_dict_init_2 _ _,?_⟩;unfold Builtin.«dict.__init__»;refine X2 ?_;unfold Builtin.Dict.selfAndRest;refine X2 (wpAny_notOrdered_dict u.typeIs ?_);show X3 _ _ (pure (s.heap.objs.size,[XE l])) _ _ _;refine Xa ?_;show X3 _ _ (Gg "dict.__init__" s.heap.objs.size (.ref l) [] .none) _ _ _;unfold Gg;refine X2 (UJ hT ?_);rw[if_pos (by rcases G with rfl|rfl<;>decide)]
 refine X2 (SX G (s:={s with heap:=s.heap.push {cls:=.type "dict",data:=.dict #[]} }) p (by simp[I]) fun y Y m=>?_)
 simp only[Option.isNone_none,if_true];refine X2 (Vd ?_);have R:y.get? l=some ⟨.type c,none,.seq items L,B⟩:=m _ _ p;have T:l<s.heap.objs.size:=Xq x;have z:s.heap.objs.size<y.objs.size:=by
  obtain⟨o,a,ep,M,_⟩:=u;exact Xq (m _ _ M)
 have f:l≠y.objs.size:=XN (Wg T z);obtain⟨S,St,k1,k2,k3⟩:∃(S:String) (St:Nat->Heap->Prop),(∀{Q:Value->X0->Prop} {E:Value->X0->Prop} {A:Xn},Q (.ref y.objs.size) {s with heap:=y.push {cls:=.type S,data:=.fields #[.ref l,.int 0 0]},toks:=Y}->X3 (X4 prog w) A (pyIter (.ref l)) Q E {s with heap:=y,toks:=Y})/\Walks prog w A.in1.in1 y.objs.size [y.objs.size,l] [y.objs.size] items.size (λi v=>items[i]?=some v) St/\St 0 (y.push {cls:=.type S,data:=.fields #[.ref l,.int 0 0]}):=by
  rcases G with rfl|rfl
  .have g:y.IsList l items:=⟨_,R,rfl,L,rfl⟩;exact⟨_,_,λq=>AJ (s:={s with heap:=y,toks:=Y}) g q,Walks.list (by simp[I]) _ _ f items,⟨_,Y1 _ rfl,rfl,rfl⟩,g.push _⟩
  .have g:y.IsTuple l items:=⟨_,R,rfl,L,rfl⟩;exact⟨_,_,λq=>wpAny_pyIter_tuple (s:={s with heap:=y,toks:=Y}) g q,Walks.tuple (by simp[I]) _ _ f items,⟨_,Y1 _ rfl,rfl,rfl⟩,g.push _⟩
 refine X2 (k1 ?_);refine Xa ⟨ZD Bt _,?_⟩;refine SZ (knd:=knd) (n:=items.size) k2.toS s.heap.objs.size ?_ C D hn items.size 0 _ rfl (Zj _) k3 ?_ ?_ ?_
 .simp only[Xm,Ya,or_false,not_or];exact⟨XN z,B1 T⟩
 .obtain⟨o,a,ep,M,r⟩:=u;exact⟨o,a,ep,XD _ (m _ _ M),r⟩
 .intro j v hv;obtain⟨q,W,J,N,rfl,a1,a2⟩:=ht j v hv;have U:q<s.heap.objs.size:=Xq a1;refine⟨q,W,J,N,rfl,XN U,?_,XD _ (m _ _ (XD _ a1)),a2⟩;simp only[U0];exact XN (Wg U z)
 .intro s' Z hd;obtain⟨O,g',d',X,H⟩:=s';have eg:g'=s.gens:=Z.gens;have ed:d'=s.drawn:=Z.drawn;have eo:H=s.os:=Z.os;subst eg;subst ed;subst eo;refine⟨rfl,h O X hd λb o hb e=>?_⟩;refine Z.heap b o ?_ (XD _ (m _ _ (XD _ e)));simp only[Xm,Ya,or_false,not_or];exact⟨XN hb,XN (Wg hb z)⟩
end
def HS(H:Hp):List (Key×V)->List V->Prop:=Paired fun(p:Key×V) (v:V)=>∃q,v=.ref q/\H q=some (.tup [kV p.1,p.2])
def VE(j:List (Key×V)):List (Key×V):=j.foldl (λc z=>putK c z.1 z.2) []
theorem Paired.at{α β:Type}{R:α->β->Prop}{xs:List α}{ys:List β}(h:Paired R xs ys):∀(i:Nat)(y:β),ys[i]?=some y->∃x,xs[i]?=some x/\R x y:=by
 induction h with
 |nil=>exact λ_ _ h=>nomatch h
 |cons r _ j=>
  intro i y h;cases i with
  |zero=>cases h;exact⟨_,rfl,r⟩
  |succ i=>exact j i y h
section
variable{X:Cx}
theorem HU(f:X.calm=true):YI X (.type "dict") (fun xs H Q=>∃(a:Addr) (w:List (Key×V)) (g:List V),xs=[.ref a]/\(H a=some (.lst g)\/H a=some (.tup g))/\HS H w g/\∀p,H p=none->Q (.ref p) (upd H p (.dK (VE w)))):=by
 intro pz s σ H xs us Q I r h;obtain⟨a,w,g,rfl,U,G,q⟩:=h;obtain⟨u,rfl,ru⟩:=U9 r;cases ru;obtain⟨c,J,P,l,R,sl,L,T⟩:∃c,(c="list"\/c="tuple")/\g.length<=sizeLine/\∃(l:List Value) (R:Nat) (sl:Array (Option Value)),Vals g l/\s.heap.get? a=some ⟨.type c,none,.seq l.toArray R,sl⟩:=by
  rcases U with U|U
  .obtain⟨P,l,R,L,T⟩:=(show ObjOk X.prog X.w H s.heap a (.lst g)from I.hok a _ U);exact⟨_,.inl rfl,P,l,R,_,L,T⟩
  .obtain⟨P,l,L,⟨⟨lc,ldc,ld,lsl⟩,T,M,R,S⟩,ol2,W,x⟩:=(show ObjOk X.prog X.w H s.heap a (.tup g)from I.hok a _ U);rw[T]at W;cases W;cases M;cases S;cases x;exact⟨_,.inr rfl,P,l,R,_,L,T⟩
 have hh:=I.ok.hd f;have Y:l.length=w.length:=by rw[<-L.length,G.length]
 obtain⟨vs,Z⟩:=Classical.axiomOfChoice (α:=Nat) (β:=fun _=>Value) (r:=fun j B=>∀v,l.toArray[j]?=some v->∃q N C d,v=.ref q/\s.heap.get? q=some d/\d.cls=.type "tuple"/\d.data=.seq #[N,B] C/\∃p,w[j]?=some p/\RelV (kV p.1) N/\RelV p.2 B) fun j=>by
  rw[Co];cases e:l[j]? with
  |none=>exact⟨.none,λv A=>by cases A⟩
  |some v=>
   obtain⟨y,hy,ry⟩:=Paired.at L j v e;obtain⟨p,m,q,rfl,hq⟩:=Paired.at G j y hy;cases ry;obtain⟨_,ts,rt,ht⟩:=(show ObjOk X.prog X.w H s.heap q (.tup [kV p.1,p.2])from I.hok q _ hq);obtain⟨N,B,rfl,D,E⟩:=Wo rt;obtain⟨d,ho,J,n,F⟩:=ht.1;exact⟨B,λv A=>by cases A;exact⟨q,N,n,d,rfl,ho,J,F,p,m,D,E⟩⟩
 refine T0 (knd:=Z9 X.prog X.w) (C:=λj=>(w.getD j (.inl 0,.non)).1) (D:=vs) J hh T (by simpa [<-L.length]using P) (λj v A=>?_) λh' tk F hk=>?_
 .obtain⟨q,N,C,d,e1,e2,e3,e4,p,m,D,E⟩:=Z j v A;refine⟨q,N,C,d,e1,e2,e3,e4,Ws ?_⟩;rw[ZY,m];exact D
 have kv:∀i,i<=w.length->KV ((w.take i).foldl (λc z=>putK c z.1 z.2) []) (stTo (λj=>(w.getD j (.inl 0,.non)).1) vs i):=by
  intro i
  induction i with
  |zero=>intro _;exact .nil
  |succ i ih=>
   intro hi;have hlt:i<l.length:=by lia
   obtain⟨q,N,C,d,e1,e2,e3,e4,p,m,D,E⟩:=Z i l[i] (by simp[hlt])
   rw[Um,m,Option.toList_some,List.foldl_append];show KV (putK _ p.1 p.2) (stored _ (w.getD i (.inl 0,.non)).1 _);have ek:(w.getD i (.inl 0,.non)).1=p.1:=by rw[ZY,m];rfl
   rw[ek];exact(ih (by lia)).put p.1 E
 have O:=kv w.length (Xf _);rw[List.take_length]at O;have hsz:l.toArray.size=w.length:=by simp[Y]
 rw[hsz]at F;have hpl:w.length<=sizeLine:=by rw[G.length];exact P
 have zl:(VE w).length<=sizeLine:=by
  have:=O.length;have l2:=Df (λj=>(w.getD j (.inl 0,.non)).1) vs w.length;unfold VE;lia
 exact⟨.ref s.heap.objs.size,_,I.laid (a:=s.heap.objs.size) (o:=.dK (VE w)) (t':=tk) (λb u e=>hk b u (Xq e) e) (Xf _) (Hs zl (beq_eq_false_iff_ne.mpr (ZM (XN I.big))) O F),rfl,q _ (I.hok.fresh (Xf _))⟩
theorem T1:∀(bs:List Bool),((XI bs.length).all λi=>bs.getD i true)=bs.all id:=by
 intro bs;have e:(XI bs.length).map (λi=>bs.getD i true)=bs:=by
  refine List.ext_getElem (by simp) λi l j=>?_
  simp[W9,j]
 conv=>rhs;rw[<-e]
 rw[List.all_map]
 rfl
theorem T2(l:X.calm=true):YI X (.builtin "all") (fun f H Q=>∃(a:Addr) (bs:List Bool),f=[.ref a]/\SqL X.K H a (bs.map V.bl)/\Q (.bl (bs.all id)) H):=by
 intro Z s A H f B Q I r h;obtain⟨a,bs,rfl,O,q⟩:=h;obtain⟨u,rfl,m⟩:=U9 r;cases m;obtain⟨j,L,p,C⟩:=I.list O;have P:=I.ok.hd l;have w:j.length=bs.length:=by rw[<-L.length,X5]
 have g:∀(i:Nat)(v:Value),j.toArray[i]?=some v->v=.bool (bs.getD i true):=λi v R=>by
  have y:j[i]?=some v:=by simpa using R
  have z:i<bs.length:=by rw[<-w];exact(Xz.mp y).1
  obtain⟨u,N,m⟩:=L.get (i:=i) (x:=V.bl bs[i]) (by simp[z])
  rw[y]at N;cases N;rw[show v=.bool bs[i]from m];simp[W9,z]
 have d:a<s.heap.objs.size:=by obtain⟨o,n,e,_⟩:=p;exact Xq e
 refine PySem.call_all_walk (AJ p.isList ⟨_,_,_,_,_,_,λi=>bs.getD i true,rfl,Walks.list (by simp[P]) _ a (XN d) j.toArray,⟨⟨_,Y1 _ rfl,rfl,rfl⟩,p.isList.push _⟩,?_,λD T U=>?_⟩)
 .intro i v s Q E W Y;rw[g i v W];exact ZA Y
 .have c:j.toArray.size=bs.length:=by simp[w]
  rw[c,T1];refine⟨.bl _,H,I.kept (t':=T) λb o e=>?_,rfl,q⟩;exact U b o (by simp only[U0];exact XN (Xq e)) (XD _ e)
end
noncomputable def Its(x:Str):It:=⟨λi _=>i<x.cps.size,λi H v j=>j=H/\∃c,x.cps[i]?=some c/\v=.str ⟨#[c]⟩,λi _=>x.cps.size<=i⟩
theorem T3{K:X1}(l:Addr)(x:Str)(t:Tok):Turn P w K tg (Its x) [l] l (fun i h=>h.IsStrIter l "str_ascii_iterator" x t i)where
 mem:=by simp
 obj:=λi h st b u=>by
  have e:b=l:=by simpa using u
  subst e;obtain⟨o,e,c,d⟩:=st;exact⟨o,e,λv z=>by rw[d]at z;cases z⟩
 keep:=λi h m st k=>by
  obtain⟨o,e,c,d⟩:=st;exact⟨o,k l (by simp) o e,c,d⟩
 item:=by
  intro X f q p L i N s O H E I g st j;subst f q p;have j:i<x.cps.size:=j;obtain⟨f0,f1,f2,f3,f4,f5⟩:=g l (by simp)
  refine wpAny_pyNext_ascii_item st (c:=x.cps[i]) (by simp[j]) λm y R=>?_
  have T:Inv X N O H {s with heap:=m,toks:=s.toks+1}:=I.turned (λb o u e=>(R.2 b u).trans e) f0 f1 f3 f4 f5;obtain⟨o,e,c,d⟩:=id y;exact⟨_,rfl,Wm (s:={s with heap:=m,toks:=s.toks+1}) e c d (by decide) ⟨.str ⟨#[x.cps[i]]⟩,H,T,⟨_,rfl⟩,⟨rfl,_,by simp[j],rfl⟩,y,λb u=>(g b u).1⟩⟩
 done:=by
  intro X f q p L i N s O H E I g st j;subst f q p;have j:x.cps.size<=i:=j;obtain⟨f0,f1,f2,f3,f4,f5⟩:=g l (by simp)
  exact wpAny_pyNext_ascii_end (I.ok.hd L) st (by simp[j]) λm U=>⟨rfl,I.turned (g:=s.toks) (λb o u e=>U b o u e) f0 f1 f3 f4 f5⟩
 self:=λ_ _ _ _ _ st h=>wpAny_pyIter_striter_ascii st h
theorem T4{K:X1}(l:Addr)(x:Str)(t:Tok):Turn P w K tg (Its x) [l] l (fun i h=>h.IsStrIter l "str_iterator" x t i)where
 mem:=by simp
 obj:=λi h st b u=>by
  have e:b=l:=by simpa using u
  subst e;obtain⟨o,e,c,d⟩:=st;exact⟨o,e,λv z=>by rw[d]at z;cases z⟩
 keep:=λi h m st k=>by
  obtain⟨o,e,c,d⟩:=st;exact⟨o,k l (by simp) o e,c,d⟩
 item:=by
  intro X f q p L i N s O H E I g st j;subst f q p;have j:i<x.cps.size:=j;obtain⟨f0,f1,f2,f3,f4,f5⟩:=g l (by simp)
  refine wpAny_pyNext_wide_item st (c:=x.cps[i]) (by simp[j]) λm y R=>?_
  have T:Inv X N O H {s with heap:=m,toks:=s.toks+1}:=I.turned (λb o u e=>(R.2 b u).trans e) f0 f1 f3 f4 f5;obtain⟨o,e,c,d⟩:=id y;exact⟨_,rfl,Wm (s:={s with heap:=m,toks:=s.toks+1}) e c d (by decide) ⟨.str ⟨#[x.cps[i]]⟩,H,T,⟨_,rfl⟩,⟨rfl,_,by simp[j],rfl⟩,y,λb u=>(g b u).1⟩⟩
 done:=by
  intro X f q p L i N s O H E I g st j;subst f q p;have j:x.cps.size<=i:=j;obtain⟨f0,f1,f2,f3,f4,f5⟩:=g l (by simp)
  exact wpAny_pyNext_wide_end (I.ok.hd L) st (by simp[j]) λm U=>⟨rfl,I.turned (g:=s.toks) (λb o u e=>U b o u e) f0 f1 f3 f4 f5⟩
 self:=λ_ _ _ _ _ st h=>wpAny_pyIter_striter_wide st h
section
variable{X:Cx}{pz:List (Addr×Obj)}{σ:St}{H:Hp}{s:X0}
theorem T5{t:Tok}(I:Inv X pz σ H s)(q:R (Its x) H):X3 (X4 X.prog X.w) X.A (pyIter (.str x t)) (PIE X pz σ tg R) E s:=by
 have j:∀b∈ [s.heap.objs.size],FpOk X pz H b:=λb u=>by
  have e:b=s.heap.objs.size:=by simpa using u
  subst e;exact I.fpOk (Xf _) (I.hok.fresh (Xf _))
 cases l:x.cps.all (·<128)
 .exact wpAny_pyIter_wide l ⟨s.heap.objs.size,[s.heap.objs.size],_,_,H,rfl,I.kept (t':=s.toks) λb o e=>XD _ e,T4 _ x t,⟨_,Y1 _ rfl,rfl,rfl⟩,j,q⟩
 .exact wpAny_pyIter_ascii l ⟨s.heap.objs.size,[s.heap.objs.size],_,_,H,rfl,I.kept (t':=s.toks) λb o e=>XD _ e,T3 _ x t,⟨_,Y1 _ rfl,rfl,rfl⟩,j,q⟩
def T6(X:Cx)(u:TE):TI:=λσ H R=>u σ H λx j=>(∃a,x=.ref a/\((∃l,SqL X.K j a l/\R (Itl X.K a) j)\/(∃l,SqT X.K j a l/\R (Itt X.K a) j)\/False))\/
 ∃z,x=.str z/\R (Its z) j
theorem T7{f l:Expr}{g:TE}(L:PE X l g):PI X f l (T6 X g):=by
 intro pz s σ H R I h;refine thn (L pz s σ H _ I h) λv j ⟨x,d,u,c,N⟩=>?_;rcases N with⟨a,e,q⟩|⟨z,e,q⟩
 .subst e;cases c;rcases q with⟨O,y,q⟩|⟨O,y,q⟩|q
  .obtain⟨w,P,p,T⟩:=u.list y;refine AJ p.isList ?_;refine⟨j.heap.objs.size,[j.heap.objs.size],_,_,d,rfl,u.kept (t':=j.toks) λb o e=>XD _ e,QI a _,⟨_,Y1 _ rfl,rfl,rfl⟩,λb m=>?_,q⟩;have e:b=j.heap.objs.size:=by simpa using m
   subst e;exact u.fpOk (Xf _) (u.hok.fresh (Xf _))
  .obtain⟨w,P,p,T⟩:=u.tuple y;refine wpAny_pyIter_tuple (show j.heap.IsTuple a w.toArray from p) ?_;refine⟨j.heap.objs.size,[j.heap.objs.size],_,_,d,rfl,u.kept (t':=j.toks) λb o e=>XD _ e,QJ a _,⟨_,Y1 _ rfl,rfl,rfl⟩,λb m=>?_,q⟩;have e:b=j.heap.objs.size:=by simpa using m
   subst e;exact u.fpOk (Xf _) (u.hok.fresh (Xf _))
  .exact q.elim
 .subst e;obtain⟨t,rfl⟩:=c;exact T5 u q
theorem T8(j:∀i,v≠.builtin i)(h:Q (.bool (v==.bool b)) s):X3 M A (Y4 .Is v (.bool b)) Q E s:=by
 cases v<;>first|exact Xa h|exact absurd rfl (j _)
theorem T9(j:∀i,v≠.builtin i)(h:Q (.bool (!(v==.bool b))) s):X3 M A (Y4 .IsNot v (.bool b)) Q E s:=by
 cases v<;>first|exact Xa h|exact absurd rfl (j _)
theorem HV(r:RelV x v):∀i,v≠.builtin i:=λi e=>by
 subst e;cases x<;>first|(cases r;done)|(obtain⟨t,e⟩:=r;cases e)
set_option tactic.hygienic true in
theorem HW(r:RelV x v):decide (x=.bl b)=(v==UT b):=by
 cases x<;>first
  |(cases r;rename_i c;cases b<;>cases c<;>rfl)
  |(cases r;rfl)
  |(obtain⟨t,rfl⟩:=r;rfl)
theorem Ta:OpR X (Y4 .Is) (λx y H Q=>∃b,y=.bl b/\Q (.bl (decide (x=.bl b))) H):=by
 intro pz s σ H x y v u Q I j l h;obtain⟨b,rfl,q⟩:=h;cases l;exact T8 (HV j) (XJ I q (HW j))
theorem Tb:OpR X (Y4 .IsNot) (λx y H Q=>∃b,y=.bl b/\Q (.bl (!decide (x=.bl b))) H):=by
 intro pz s σ H x y v u Q I j l h;obtain⟨b,rfl,q⟩:=h;cases l;exact T9 (HV j) (XJ I q (by rw[HW j]))
theorem Tc{t:Value}(I:Inv X pz σ H s)(w:RelV x u)(ty:TyOf X.K H x t)(e:U6 X.K t c=some b)(R:U6 X.K t d=some b')
  (j:s.heap.get? tp=some ⟨.type "tuple",dd,.seq [c,d].toArray n,sl⟩)(h:∀T,Q (.bool (b||b')) {s with toks:=T}):X3 (X4 X.prog X.w) A (call (.builtin "isinstance") [u,.ref tp]) Q E s:=by
 have m:AV X.K t [c,d]=some (b||b'):=by
  unfold AV;rw[e];cases b with
  |true=>rfl
  |false=>
   show AV X.K t [d]=some b';unfold AV;rw[R];cases b'<;>rfl
 cases ty with
 |non=>cases(show u=US from w);exact Zv PySem.W.kitx_none I.kIn Zk j m (λz=>nomatch z) h
 |bl y=>cases(show u=UT y from w);exact Zv PySem.W.kitx_bool I.kIn Zk j m (λz=>nomatch z) h
 |int i=>obtain⟨t,q⟩:=(show∃t,u=Wh i t from w);cases q;exact Zv PySem.W.kitx_int I.kIn Zk j m (λz=>nomatch z) h
 |str y=>obtain⟨t,q⟩:=(show∃t,u=Yv y t from w);cases q;exact Zv PySem.W.kitx_str I.kIn Zk j m (λz=>nomatch z) h
 |flt y=>obtain⟨t,q⟩:=(show∃t,u=Value.float y t from w);cases q;exact Zv PySem.W.kitx_float I.kIn Zk j m (λz=>nomatch z) h
 | @lst a L l=>
  cases(show u=XE a from w);obtain⟨_,_,n,_,g⟩:=(show ObjOk X.prog X.w H s.heap a (.lst L)from I.hok a _ l);exact Zv AT I.kIn ⟨_,g,rfl⟩ j m (λz=>nomatch z) h
 | @frz a U L l=>
  cases(show u=XE a from w);obtain⟨_,_,_,n,_,g⟩:=(show ObjOk X.prog X.w H s.heap a (.frz U (.lst L))from I.hok a _ l);exact Zv AT I.kIn ⟨_,g,rfl⟩ j m (λz=>nomatch z) h
 | @tup a L l=>
  cases(show u=XE a from w);obtain⟨_,_,_,p⟩:=(show ObjOk X.prog X.w H s.heap a (.tup L)from I.hok a _ l);obtain⟨o,g,N,_⟩:=p.1;exact Zv PySem.W.kitx_tuple I.kIn ⟨o,g,N⟩ j m (λz=>nomatch z) h
 | @dK a f l=>
  cases(show u=XE a from w);obtain⟨_,_,F,_,p⟩:=(show ObjOk X.prog X.w H s.heap a (.dK f)from I.hok a _ l);obtain⟨o,W,Y,g,N,_⟩:=p;exact Zv AU I.kIn ⟨o,g,N.1⟩ j m (λz=>nomatch z) h
 | @dT a f l=>
  cases(show u=XE a from w);obtain⟨_,_,L,_,o,W,Y,g,N,_⟩:=(show ObjOk X.prog X.w H s.heap a (.dT f)from I.hok a _ l);exact Zv AU I.kIn ⟨o,g,N.1⟩ j m (λz=>nomatch z) h
 | @ins a C G fs l cl Z B P D=>
  cases(show u=XE a from w);obtain⟨M,O,_⟩:=GT I.hok l;obtain⟨S,J,_⟩:=O.look;exact Zv (PySem.W.kitx_own (cl.get _) cl.hd Z B P D) I.kIn J j m (λz=>nomatch z) h
theorem Td:YI X (.builtin "isinstance") (fun w H Q=>∃x a c d t b j,w=[x,.ref a]/\H a=some (.tup [.ty c,.ty d])/\TyOf X.K H x t/\U6 X.K t (.type c)=some b/\U6 X.K t (.type d)=some j/\Q (.bl (b||j)) H):=by
 intro pz s σ H w A Q I r h;obtain⟨x,a,c,d,t,b,j,rfl,g,ty,e,f,q⟩:=h;obtain⟨u,B,rfl,L,l⟩:=Wo r;cases l;obtain⟨N,O,p,_⟩:=I.tuple (SqT.of (K:=X.K) g);obtain⟨⟨P,C,y,D⟩,R,z,n,m⟩:=id p;simp only at z m;subst z m;cases O with
 |cons T U=>
  cases U with
  |cons W Y=>
   cases Y;cases T;cases W;exact Tc I L ty e f R λZ=>⟨.bl (b||j),H,I.tok Z,rfl,q⟩
end
section
variable{X:Cx}
end
end L2
namespace L2
end L2
namespace L2
open PySem PySem.Spec PyProof.Rows
noncomputable def cutS(x:Str)(lo j:Option Int):Str:=⟨((x.cps.toList.drop (HT.sIx x.cps.toList.length 0 lo)).take (HT.sIx x.cps.toList.length x.cps.toList.length j - HT.sIx x.cps.toList.length 0 lo)).toArray⟩
theorem Te(x:Str)(lo j:Option Int):(cutS x lo j).length<=x.length:=by
 unfold cutS B8;simp only[XW,XQ,YN,Yn];lia
theorem Tf(x:Str)(lo j:Option Int):((B7 lo j 1 x.length).filterMap (x.cps[·]?)).toArray=(cutS x lo j).cps:=by
 obtain⟨l,u,w⟩:=D7 lo j x.length;have e:B7 lo j 1 x.length=sliceRange (Z5 lo j none x.length).1 (Z5 lo j none x.length).2.1 (Z5 lo j none x.length).2.2:=rfl;have y:x.cps.toList.length=x.length:=by simp[B8]
 rw[e,l,u,w,sliceRange_one,pick_run];unfold cutS;rw[y]
theorem Tg{lo:Option Int}(h:(B7 lo hi 1 x.length).length=x.length):cutS x lo hi=x:=by
 obtain⟨l,u,w⟩:=D7 lo hi x.length;have e:B7 lo hi 1 x.length=sliceRange (Z5 lo hi none x.length).1 (Z5 lo hi none x.length).2.1 (Z5 lo hi none x.length).2.2:=rfl;have y:x.cps.toList.length=x.length:=by simp[B8]
 rw[e,l,u,w,sliceRange_one,X5,YF]at h;unfold cutS;rw[y];have m:HT.sIx x.length x.length hi<=x.length:=by
  unfold HT.sIx;cases hi with
  |none=>exact Xf _
  |some i=>dsimp only;split<;>lia
 obtain⟨j⟩:=x;congr 1;have g:∀(n a b:Nat),b<=n->b - a=n->n=0\/a=0:=by lia
 rcases g _ _ _ m h with z|z
 .have:j.toList=[]:=by
   rw[<-Cm];rw[Yn];exact z
  simp[this];have:j=#[]:=by apply Array.toList_inj.mp;simpa using this
  rw[this]
 .rw[h,z,Cv,ZE (by rw[Yn];exact Xf _)]
section
variable{X:Cx}
def rSlS:V->Option Int->Option Int->Hp->VK->Prop:=λx lo j H Q=>∃z:Str,x=.str z/\z.length<=sizeLine/\Q (.str (cutS z lo j)) H
theorem HX(h:IsPart v o):∃l:Option (Int×Tok),v=partValue l/\l.map (·.1)=o:=by
 cases h with
 |none=>exact⟨none,rfl,rfl⟩
 |int i t=>exact⟨some (i,t),rfl,rfl⟩
theorem Th:SlR X rSlS:=by
 intro d s c H x v f p lo L N Q I j w y m h;obtain⟨z,rfl,g,q⟩:=h;obtain⟨t,rfl⟩:=j;obtain⟨l,rfl,rfl⟩:=HX y;obtain⟨u,rfl,rfl⟩:=HX m;refine⟨"str",_,slot_str_getitem.lookup,typeIs_str s z t,?_⟩;refine wpAny_getItem_str_slice (l:=l) (u:=u) (st:=none) w rfl ?_;unfold sliceMade;by_cases hc:(((none:Option (Int×Tok)).map (·.1)).getD 1==1&&(slicePicked z l u none).length==z.length)=true
 .rw[if_pos hc];have e:cutS z (l.map (·.1)) (u.map (·.1))=z:=by
   refine Tg ?_;rw[XM]at hc;exact eq_of_beq hc.2
  rw[e]at q;exact⟨.str z,H,I,⟨_,rfl⟩,q⟩
 .rw[if_neg hc];have e:(⟨((slicePicked z l u none).filterMap (z.cps[·]?)).toArray⟩:Str)=cutS z (l.map (·.1)) (u.map (·.1)):=by
   have:=Tf z (l.map (·.1)) (u.map (·.1));unfold slicePicked;rw[show((none:Option (Int×Tok)).map (·.1)).getD 1=(1:Int)from rfl,this]
  rw[e];exact⟨Y7 (Te _ _ _) g,.str _,H,I.tok _,⟨_,rfl⟩,q⟩
end
theorem HY:∀{l:List V} {u:List Value},l.length=u.length->(∀(j:Nat)x v,l[j]?=some x->u[j]?=some v->RelV x v)->Vals l u
 |[],[],_,_=>.nil
 |[],_::_,h,_=>by cases h
 |_::_,[],h,_=>by cases h
 |x::l,v::u,h,r=>.cons (r 0 x v rfl rfl) (HY (by simpa using h) λj a b w y=>r (j+1) a b (by simpa using w) (by simpa using y))
theorem Ti(h:ItemsOf (λi v=>∃t,v=.int (0+i*1) t) acc n):Vals ((XI n).map λi=>V.int (i:Nat)) acc.toList:=by
 refine HY (by rw[X5,YF,Yn];exact h.1.symm) λj x v l u=>?_
 obtain⟨t,rfl⟩:=h.2 j v (by simpa using u)
 rw[Xj]at l;cases e:(XI n)[j]? with
 |none=>rw[e]at l;cases l
 |some k=>
  rw[e]at l;have w:k=j:=by
   have:=Xz.mp e;obtain⟨_,z⟩:=this
   simpa using z.symm
  subst w;cases l;exact⟨t,by rw[Int.zero_add,Int.mul_one]⟩
section
variable{X:Cx}{tg:Expr}
theorem Tj(j:X.calm=true):Ww X (.type "list") (.type "range") (fun x H Q=>∃n:Nat,x=.int n/\n<=1000000/\∀p,H p=none->Q (.ref p) (upd H p (.lst ((XI n).map fun i=>V.int (i:Nat))))):=by
 intro O s P H x u Q I y h;obtain⟨n,rfl,z,q⟩:=h;obtain⟨t,rfl⟩:=y;refine call_range_1 ?_;have m:((XI n).map λi=>V.int (i:Nat)).length<=sizeLine:=by rw[X5,YF];exact Y7 z (by decide)
 have g:=I.ok.hd j;refine call_list_range (n:=n) g (IsRange.new ..) ?_ ?_ (by lia) λd c l f L e N=>?_
 .exact small_one (by decide) (by decide) (by lia) (by lia)
 .rw[rangeSize_one];split<;>lia
 have w:=I.kept (h':=s.heap.push {cls:=.type "range",data:=.fields #[.int 0 s.toks,.int (n:Int) t,.int 1 (s.toks+1)]}) (t':=s.toks+1+1) fun b o e=>XD _ e;exact⟨.ref _,_,w.laid (t':=c) L (Xf _) (show ObjOk X.prog X.w _ d _ (.lst ((XI n).map λi=>V.int (i:Nat)))from⟨m,l.toList,f,Ti N,by simpa using e⟩),rfl,q _ (w.hok.fresh (Xf _))⟩
theorem Tk{x y:Str}{id T:String}{r:V->Hp->VK->Prop}{e:Expr}{t:TE}{p L l j:Pos}(P:Ww X (.type id) (.type T) r)
  (R:Gl X x)(U:X.mg x=none)(W:Yu x=some (.type id))(m:Gl X y)(g:X.mg y=none)(d:Yu y=some (.type T))(Y:PE X e t)
  (Z:x≠"__name__")(c:(x==("__debug__":Str))=false)(f:y≠"__name__")(w:(y==("__debug__":Str))=false)
  (N:Xs [e] X.env=(false,eval e X.env)::Xs [] X.env):
  PE X (.Call (.Name x p) [.Call (.Name y L) [e] [] j] [] l) (λz H Q=>t z H λv q=>r v q Q):=by
 intro O s z H Q I h;refine Uk (_N I R U W ?_ Z c);refine Vu ?_ rfl rfl;show X3 _ _ (spliced ((false,eval (.Call (.Name y L) [e] [] j) X.env)::Yl l (Xs [] X.env))) _ _ s;refine Wi ?_;refine Uk (_N I m g d ?_ f w);refine Vu ?_ N rfl;rw[N];show X3 _ _ (spliced ((false,eval e X.env)::Yl j (Xs [] X.env))) _ _ s;refine Wi (thn (Y O s z H _ I h) λu A ⟨v,q,B,C,D⟩=>?_);refine Wj ?_;exact thn (P O A z q v u Q B C D) λF G E=>Wj E
end
section
variable{prog:Xh}{w:Xd}{A:Xn}{R:Result->X0->Prop}{I:Addr}{fp wr:List Addr}{n:Nat}{P:Nat->Value->Prop}{St:Nat->Heap->Prop}
end
section
variable{prog:Xh}{w:Xd}{A:Xn}{E:Value->X0->Prop}{s:X0}
end
section
variable{X:Cx}{x k:Str}{p pos kp:Pos}{e e0:Expr}{te:TE}
end
end L2
namespace HT
open PySem PySem.Spec PyProof.Rows
section
variable{prog:Xh}{w:Xd}{A:Xn}{E:Value->X0->Prop}{s:X0}
theorem tup_whole{t:Addr}{items:Array Value}{lo:Option Int}(z:IsTup s.heap t items)(m:s.heap.IsSliceOf sl vl vu .none)(pl:IsPart vl lo)(g:IsPart vu hi)
  (d:sIx items.size 0 lo=0)(h1:sIx items.size items.size hi=items.size)(h:Q (.ref t) s):X3 (X4 prog w) A (getItem (.ref t) (.ref sl)) Q E s:=by
 obtain⟨os,l,u,c⟩:=id m;have y:s.TypeIs (.ref sl) "slice":=⟨os,l,u⟩;have j:=z.typeIs;unfold getItem
 try with_reducible refine Zf ?_
 first|refine X2 (Xa ?_)|skip
 refine X2 (wpAny_sequenceKey j (by decide) ?_)
 refine X2 (AG (name:=YQ "__getitem__") j Vt (Zg Vt j entry_tuple_getitem ?_ (args_tuple_getitem _ _)));show X3 _ _ (Gd (.ref t)>>= _) _ _ s;refine X2 (tupleItemsOf_ z ?_);refine X2 (UJ y ?_);rw[if_pos (by decide)]
 refine X2 (Hf m pl g ?_);rw[d,h1];show X3 _ _ (if(((0:Nat):Int)==0&&(1:Int)==1&&(items.size - 0)==items.size)=true then _ else _) _ _ s;rw[if_pos (by simp)]
 refine X2 ?_;show X3 _ _ (Ge (.ref t)) _ _ s;unfold Ge;refine X2 (UJ j (Xa ?_));rw[if_pos (by decide)]
 exact X2 (Vd (Xa ⟨_,rfl,Xa h⟩))
end
end HT
namespace L2
open PySem PySem.Spec PyProof.Rows
section
variable{X:Cx}
def rSlW(K:X1):V->Option Int->Option Int->Hp->VK->Prop:=λx lo l H Q=>∃a j,x=.ref a/\SqT K H a j/\HT.sIx j.length 0 lo=0/\HT.sIx j.length j.length l=j.length/\Q (.ref a) H
theorem Tl:SlR X (rSlW X.K):=by
 intro p s e H x v L N lo O P Q I w y z m h;obtain⟨a,g,rfl,d,c,f,q⟩:=h;cases w;obtain⟨l,r,u,R⟩:=I.tuple d;have j:l.toArray.size=g.length:=by rw[XW];exact r.length.symm
 refine⟨"tuple",_,Vt.lookup,u.typeIs,?_⟩;exact HT.tup_whole u y z m (by rw[j];exact c) (by rw[j];exact f) ⟨.ref a,H,I,rfl,q⟩
end
noncomputable def st3{j:Type}(l:List j):List j:=(XI ((l.length+2)/3)).filterMap λk=>l[3*k]?
section
variable{X:Cx}{e e3:Expr}{te:TE}{p2 pos:Pos}
end
section
variable{X:Cx}
end
open AutoSeq1 (wpAny_loadPart')
open MeetsSeq MeetsSeq2 MeetsSeq3 SeqRoads2
section
variable{A:Xn}{s:X0}{a b:Addr}
theorem Tn{x y:Str}{t u:Tok}{N O:List Value}(R:s.heap.IsTuple a (Yv x t::N).toArray)(T:s.heap.IsTuple b (Yv y u::O).toArray)(ne:x≠y)(U:A.units<cLine):Bi A s (.ref a) (.ref b) false:=by
 by_cases e:a=b
 .subst e;obtain⟨g,d,W,Y,c⟩:=R;obtain⟨f,l,Z,B,j⟩:=T;rw[d]at l;cases l;rw[c]at j;injection j with j _;injection j with j;injection j with j _;injection j with j _;exact absurd j ne
 refine Gy e λP w E Q q=>?_;obtain⟨⟨W,M,S,X⟩,g,d,Y,c⟩:=id R;obtain⟨⟨Z,H,v,o⟩,f,l,B,j⟩:=id T;dsimp only at d c l j;subst d c l j;refine UK (op:=.Eq) ⟨_,g,rfl⟩ ⟨_,f,rfl⟩ Be (Zg Be ⟨_,g,rfl⟩ F.entry_tuple_eq ?_ (F.args_tuple_eq_2 _ _)) U;obtain⟨C,D,G,I,os⟩:=s;have f2:=CT
 wp_walk using Yh g,Yh f,AH _ (λrest r L=>r.1=none/\L=⟨C,D,G,I,os⟩/\rest=(Yv x t,Yv y u)::N.zip O) _
 case turn=>
  rintro⟨p,i⟩ rest r L ⟨J,rfl,m⟩;injection m with m _;injection m with m1 m2;subst m1 m2;refine X2 (Gb ?_);have:(x==y)=false:=by simpa using ne
  rw[this]
  wp_walk
  exact⟨_,rfl,(λz=>nomatch z),q⟩
 case fin=>
  rintro⟨n,r2⟩ L ⟨J,rfl,m⟩;cases m
 case h=>exact⟨rfl,rfl,rfl⟩
end
section
variable{X:Cx}
noncomputable def UZ(p:Addr):Value->Bool
 |.ref q=>q==p
 |_=>false
theorem HZ:∀{l:List Addr} {j:List Value},Vals (l.map V.ref) j->j=l.map XE
 |[],_,r=>by rw[Y6]at r;cases r;rfl
 |a::l,_,r=>by
  rw[Xp]at r;cases r with
  |cons u w=>
   cases u;rw[HZ w];rfl
theorem I0:∀{r:List V} {j l:List Value},(∀v∈r,∃p,v=V.ref p)->Vals r j->Vals r l->j=l
 |[],_,_,_,r1,r2=>by cases r1;cases r2;rfl
 |v::r,_,_,h,r1,r2=>by
  obtain⟨p,rfl⟩:=h v (XY ..);cases r1 with
  |cons u w=>cases r2 with
   |cons y z=>
    cases u;cases y;rw[I0 (λv m=>h v (XU _ m)) w z]
noncomputable def rIdx:V->List V->Hp->VK->Prop:=λx m H Q=>∃(l b:Addr) (u:List Addr) (z:Str) (r:List V) (j:Nat) (w:Addr),x=.ref l/\m=[.ref b]/\H l=some (.lst (u.map V.ref))/\H b=some (.tup (.str z::r))/\(∀v∈r,∃p,v=.ref p)/\u[j]?=some w/\H w=some (.tup (.str z::r))/\(∀(i:Nat)p,u[i]?=some p->i≠j->∃y g,H p=some (.tup (.str y::g))/\y≠z)/\Q (.int j) H
theorem To(C:X.A.units+1<cLine):MtM X "list.index" rIdx:=by
 intro pz s σ H x vs v us Q I M S h;obtain⟨l,b,L,z,r,j,N,rfl,rfl,o,a,hr,D,O,G,q⟩:=h;cases M;obtain⟨u,rfl,ru⟩:=S.one;cases ru;obtain⟨sz,its,n,rs,hlz,e⟩:=I.lstM o;have es:=HZ rs;subst es;obtain⟨ib,rb,J,_⟩:=I.tuple (SqT.of (K:=X.K) a);obtain⟨ij,rj,tj,_⟩:=I.tuple (SqT.of (K:=X.K) O);cases rb with
 |cons b1 b2=>cases rj with
  |cons c1 c2=>
   obtain⟨tb',rfl⟩:=b1;obtain⟨tj',rfl⟩:=c1;have e2:=I0 hr b2 c2;subst e2;have U:j<L.length:=(Xz.mp D).1;have W:L[j]=N:=(Xz.mp D).2;have lz:L.length<=sizeLine:=by simpa using sz
   have f:∀i (R:i<L.length),i≠j->L[i]≠N:=λi R n e=>by
    obtain⟨z',r',g,T⟩:=G i _ (X6 R) n;rw[e,O]at g;injection g with g;injection g with g;injection g with g _;injection g with g;exact T g.symm
   refine call_meets F.slot_list_index ⟨_,e,rfl⟩ F.entry_list_index (F.args_list_index_2 _ _)
    (SeqAt.list_indexAt l (L.map XE).toArray n none #[] (.ref b) (UZ N) j (by simpa using U) (by unfold sizeLine at lz;lia) ?_ (λm hm hlt=>?_)) ⟨e,λy Y=>?_,?_⟩
   .simp[UZ,W]
   .have Z:m<L.length:=by simpa using hm
    simpa [UZ]using f m Z (by lia)
   .have Y:y∈L.map XE:=by simpa using Y
    obtain⟨p,hp,rfl⟩:=Xt.mp Y;obtain⟨i,R,rfl⟩:=Y3 hp;by_cases c:i=j
    .subst c;have B:UZ N (.ref L[i])=true:=by simp[UZ,W]
     rw[B,W];by_cases d:N=b
     .subst d;exact Bf _
     .refine Gy d ?_;have:=SeqAt.RcAt.tuples (A:=X.A.in1) (s:=s) (e:=λ_=>true) tj J C λk g T=>?_
      .have e3:∀n:Nat,((XI n).all λ_=>true)=true:=λn=>Uo.mpr λ_ _=>rfl
       simpa [e3]using this
      .cases k with
       |zero=>
        intro P w E Q q;refine Gb ?_;rw[beq_self_eq_true];exact q
       |succ k=>exact Bf _
    .have B:UZ N (.ref L[i])=false:=by simpa [UZ]using f i R c
     rw[B];obtain⟨z',r',g,T⟩:=G i _ (X6 R) c;obtain⟨ii,ri,ti,_⟩:=I.tuple (SqT.of (K:=X.K) g);cases ri with
     |cons d1 d2=>
      obtain⟨ti',rfl⟩:=d1;exact Tn ti J T C
   .exact⟨.int j,H,I.tok _,⟨_,rfl⟩,q⟩
end
end L2
namespace L2
open PySem PySem.Spec PyProof.Rows
inductive Ty7 where|int|bool|str|list|tuple|dict|none
  deriving DecidableEq
noncomputable def Ty7.name:Ty7->String
 |.int=>"int"|.bool=>"bool"|.str=>"str"|.list=>"list"|.tuple=>"tuple"|.dict=>"dict"|.none=>"NoneType"
inductive MV where
 |non|bl (b:Bool)|int (i:Int)|str (x:Str)|tup (xs:List MV)|frl (xs:List MV)|ref (a:Addr)|ty (n:Ty7)
noncomputable def Ia:HO->Bool
 |.tup _=>true
 |.frz _ (.lst _)=>true
 |_=>false
def Kp(H j:Hp):Prop:=∀a o,H a=some o->Ia o=true->j a=some o
theorem Kp.refl(H:Hp):Kp H H:=λ_ _ h _=>h
theorem Kp.trans(a:Kp H H1)(b:Kp H1 H2):Kp H H2:=λc o h f=>b c o (a c o h f) f
theorem Kp.new{H:Hp}{p:Addr}(h:H p=none)(o:HO):Kp H (upd H p o):=λa u e _=>by rw[XX (UX e h)];exact e
theorem Kp.upd{H:Hp}{p:Addr}{o:HO}(h:H p=some o)(f:Ia o=false)(j:HO):Kp H (upd H p j):=λa u e g=>by
 rw[XX (Qn e h (by intro z;rw[z,f]at g;cases g))];exact e
def FrL(K:X1)(H:Hp)(a:Addr)(l:List V):Prop:=(∃o,H a=some (.frz o (.lst l)))\/
 ∃(o:Obj) (j:Array Value) (n:Nat),K.lookup a=some o/\o.cls=.type "list"/\o.dict=none/\o.data=.seq j n/\j.size<=sizeLine/\Vals l j.toList
theorem FrL.sq{K:X1}(h:FrL K H a vs):SqL K H a vs:=by
 rcases h with⟨o,h⟩|h
 .exact .inl (.inr ⟨o,h⟩)
 .exact .inr h
mutual
inductive RM (K:X1)(H:Hp):MV->V->Prop
 |non:RM K H .non .non
 |bl (b:Bool):RM K H (.bl b) (.bl b)
 |int (i:Int):RM K H (.int i) (.int i)
 |str (x:Str):RM K H (.str x) (.str x)
 |ref (a:Addr):RM K H (.ref a) (.ref a)
 |ty (n:Ty7):RM K H (.ty n) (.ty n.name)
 |tup {a:Addr} {xs:List MV} {vs:List V}:H a=some (.tup vs)->RMs K H xs vs->RM K H (.tup xs) (.ref a)
 |frl {a:Addr} {xs:List MV} {vs:List V}:FrL K H a vs->RMs K H xs vs->RM K H (.frl xs) (.ref a)
inductive RMs (K:X1)(H:Hp):List MV->List V->Prop
 |nil:RMs K H [] []
 |cons {x:MV} {v:V} {xs:List MV} {vs:List V}:RM K H x v->RMs K H xs vs->RMs K H (x::xs) (v::vs)
end
mutual
theorem RM.mono{K:X1}(k:Kp H H'):∀{m:MV} {v:V},RM K H m v->RM K H' m v
 |_,_,.non=>.non
 |_,_,.bl b=>.bl b
 |_,_,.int i=>.int i
 |_,_,.str x=>.str x
 |_,_,.ref a=>.ref a
 |_,_,.ty n=>.ty n
 |_,_,.tup h r=>.tup (k _ _ h rfl) (RMs.mono k r)
 |_,_,.frl h r=>.frl (by
   rcases h with⟨o,h⟩|h
   .exact .inl ⟨o,k _ _ h rfl⟩
   .exact .inr h) (RMs.mono k r)
theorem RMs.mono{K:X1}(k:Kp H H'):∀{m:List MV} {v:List V},RMs K H m v->RMs K H' m v
 |_,_,.nil=>.nil
 |_,_,.cons a b=>.cons (RM.mono k a) (RMs.mono k b)
end
def Tp(K:X1)(H:Hp)(v:V):MV->Prop
 |.non=>v=.non
 |.bl b=>v=.bl b
 |.int i=>v=.int i
 |.str x=>v=.str x
 |.tup xs=>∃a j,v=.ref a/\H a=some (.tup j)/\RMs K H xs j
 |.frl xs=>∃a j,v=.ref a/\FrL K H a j/\RMs K H xs j
 |.ref a=>v=.ref a
 |.ty n=>v=.ty n.name
theorem RM.inv{K:X1}{H:Hp}{m:MV}{v:V}(r:RM K H m v):Tp K H v m:=by
 cases r with
 |tup h q=>exact⟨_,_,rfl,h,q⟩
 |frl h q=>exact⟨_,_,rfl,h,q⟩
 |_=>rfl
def Tq(K:X1)(H:Hp)(j:List V):List MV->Prop
 |[]=>j=[]
 |x::xs=>∃v l,j=v::l/\RM K H x v/\RMs K H xs l
theorem RMs.inv{K:X1}{H:Hp}{m:List MV}{v:List V}(r:RMs K H m v):Tq K H v m:=by
 cases r with
 |nil=>rfl
 |cons a b=>exact⟨_,_,rfl,a,b⟩
theorem RMs.length{K:X1}:∀{m:List MV} {v:List V},RMs K H m v->m.length=v.length
 |_,_,.nil=>rfl
 |_,_,.cons _ b=>by rw[Y0,Y0,b.length]
theorem RMs.get{K:X1}:∀{m:List MV} {v:List V} {i:Nat} {x:MV},RMs K H m v->m[i]?=some x->∃u,v[i]?=some u/\RM K H x u
 |_,_,_,_,.nil,e=>by simp at e
 |_,_,0,_,.cons r _,e=>by simp at e;subst e;exact⟨_,rfl,r⟩
 |_,_,i+1,x,.cons _ t,e=>by
  obtain⟨u,j,l⟩:=RMs.get (i:=i) (x:=x) t (by simpa using e)
  exact⟨u,by simpa using j,l⟩
theorem RMs.get'{K:X1}:∀{m:List MV} {v:List V} {i:Nat} {u:V},RMs K H m v->v[i]?=some u->∃x,m[i]?=some x/\RM K H x u
 |_,_,_,_,.nil,e=>by simp at e
 |_,_,0,_,.cons r _,e=>by simp at e;subst e;exact⟨_,rfl,r⟩
 |_,_,i+1,x,.cons _ t,e=>by
  obtain⟨u,j,l⟩:=RMs.get' (i:=i) (u:=x) t (by simpa using e)
  exact⟨u,by simpa using j,l⟩
theorem RMs.append{K:X1}:∀{m j:List MV} {v l:List V},RMs K H m v->RMs K H j l->RMs K H (m++j) (v++l)
 |_,_,_,_,.nil,s=>s
 |_,_,_,_,.cons r t,s=>.cons r (t.append s)
theorem RMs.take{K:X1}:∀{m:List MV} {v:List V} (n:Nat),RMs K H m v->RMs K H (m.take n) (v.take n)
 |_,_,0,_=>.nil
 |_,_,_+1,.nil=>.nil
 |_,_,n+1,.cons r t=>.cons r (t.take n)
theorem RMs.drop{K:X1}:∀{m:List MV} {v:List V} (n:Nat),RMs K H m v->RMs K H (m.drop n) (v.drop n)
 |_,_,0,r=>r
 |_,_,_+1,.nil=>.nil
 |_,_,n+1,.cons _ t=>t.drop n
theorem RMs.ints{K:X1}:∀j:List Int,RMs K H (j.map MV.int) (j.map V.int)
 |[]=>.nil
 |n::r=>.cons (.int n) (RMs.ints r)
theorem RMs.map_of{K:X1}{H:Hp}{u:Type}{f:u->MV}{g:u->V}(w:∀a v,RM K H (f a) v->v=g a):∀{l:List u} {j:List V},RMs K H (l.map f) j->j=l.map g:=by
 intro l
 induction l with
 |nil=>intro j h;cases h;rfl
 |cons n r y=>
  intro j h;have h:RMs K H (f n::r.map f) j:=h;cases h with
  |cons x t=>rw[y t,w _ _ x];rfl
inductive MO where
 |lst (xs:List MV)|dic (kvs:List (Key×MV))|ins (c:Str)(fs:List (Str×MV))
 |fdic (o:Obj)(kvs:List (Key×MV))
noncomputable abbrev MH:=Addr->Option MO
noncomputable def updM(M:MH)(a:Addr)(o:MO):MH:=λb=>if b=a then some o else M b
theorem Xb:updM M a o a=some o:=by unfold updM;rw[if_pos rfl]
theorem _l(h:b≠a):updM M a o b=M b:=by unfold updM;rw[if_neg h]
theorem Ib:updM (updM M a o) a u=updM M a u:=by funext b;unfold updM;split<;>rfl
inductive RKs {κ:Type} (K:X1)(H:Hp):List (κ×MV)->List (κ×V)->Prop
 |nil:RKs K H [] []
 |cons {k:κ} {x:MV} {v:V} {xs:List (κ×MV)} {vs:List (κ×V)}:RM K H x v->RKs K H xs vs->RKs K H ((k,x)::xs) ((k,v)::vs)
theorem RKs.mono{j:Type}{K:X1}(k:Kp H H'):∀{m:List (j×MV)} {v:List (j×V)},RKs K H m v->RKs K H' m v
 |_,_,.nil=>.nil
 |_,_,.cons a b=>.cons (a.mono k) (b.mono k)
theorem RKs.length{j:Type}{K:X1}:∀{m:List (j×MV)} {v:List (j×V)},RKs K H m v->m.length=v.length
 |_,_,.nil=>rfl
 |_,_,.cons _ b=>by rw[Y0,Y0,b.length]
section
variable{κ:Type} [DecidableEq κ]
noncomputable def valM(l:List (κ×MV))(k:κ):Option MV:=match l with
 |[]=>none
 |(j,v)::r=>if j=k then some v else valM r k
noncomputable def putM(l:List (κ×MV))(k:κ)(v:MV):List (κ×MV):=match l with
 |[]=>[(k,v)]
 |(j,u)::r=>if j=k then(j,v)::r else(j,u)::putM r k v
end
def RO(K:X1)(H:Hp):MO->HO->Prop
 |.lst xs,.lst vs=>RMs K H xs vs
 |.dic kvs,.dK vs=>RKs K H kvs vs/\(kvs.map (·.1)).Nodup
 |.ins c fs,.ins C _ vs=>XA K Xl c=some (some (.ref C))/\RKs K H fs vs
 |.fdic o kvs,.frz o' (.dK vs)=>o=o'/\RKs K H kvs vs/\(kvs.map (·.1)).Nodup
 |_,_=>False
theorem RO.mono{K:X1}(k:Kp H H')(h:RO K H o u):RO K H' o u:=by
 cases o with
 |lst l=>cases u<;>first|exact RMs.mono k h|exact h.elim
 |dic j=>cases u<;>first|exact⟨h.1.mono k,h.2⟩|exact h.elim
 |ins c fs=>cases u<;>first|exact⟨h.1,h.2.mono k⟩|exact h.elim
 |fdic w j=>
  cases u with
  |frz y u=>cases u<;>first|exact⟨h.1,h.2.1.mono k,h.2.2⟩|exact h.elim
  |_=>exact h.elim
def RH(K:X1)(M:MH)(H:Hp):Prop:=∀a o,M a=some o->∃u,H a=some u/\RO K H o u
theorem RH.free{K:X1}(r:RH K M H)(h:H p=none):M p=none:=by
 cases e:M p with
 |none=>rfl
 |some o=>obtain⟨u,j,_⟩:=r p o e;rw[j]at h;cases h
theorem RH.lst{K:X1}(r:RH K M H)(h:M p=some (.lst xs)):∃vs,H p=some (.lst vs)/\RMs K H xs vs:=by
 obtain⟨u,l,j⟩:=r p _ h;cases u<;>try exact j.elim
 exact⟨_,l,j⟩
theorem RH.dic{K:X1}(r:RH K M H)(h:M p=some (.dic xs)):∃l,H p=some (.dK l)/\RKs K H xs l/\(xs.map (·.1)).Nodup:=by
 obtain⟨u,w,j⟩:=r p _ h;cases u<;>try exact j.elim
 exact⟨_,w,j.1,j.2⟩
theorem RH.fdic{K:X1}(r:RH K M H)(h:M p=some (.fdic o xs)):∃l,H p=some (.frz o (.dK l))/\RKs K H xs l/\(xs.map (·.1)).Nodup:=by
 obtain⟨u,w,j⟩:=r p _ h;cases u with
 |frz m u=>
  cases u<;>try exact j.elim
  obtain⟨rfl,y,z⟩:=j;exact⟨_,w,y,z⟩
 |_=>exact j.elim
theorem RH.put{K:X1}(r:RH K M H)(k:Kp H (upd H p u))(j:RO K (upd H p u) o u):RH K (updM M p o) (upd H p u):=by
 intro a l e;by_cases h:a=p
 .subst h;rw[Xb]at e;cases e;exact⟨u,Uu,j⟩
 .rw[_l h]at e;obtain⟨v,w,y⟩:=r a l e;exact⟨v,by rw[XX h];exact w,y.mono k⟩
theorem RH.kept{K:X1}{M:MH}{H:Hp}(r:RH K M H){p:Addr}(j:H p=none)(u:HO):RH K M (upd H p u):=by
 intro a w e;obtain⟨v,l,y⟩:=r a w e;exact⟨v,by rw[XX (UX l j)];exact l,y.mono (Kp.new j u)⟩
noncomputable abbrev Sm:=List (Option MV)
abbrev QM:=MV->MH->Prop
abbrev TEm:=Sm->MH->QM->Prop
abbrev TAm:=Sm->MH->(List MV->MH->Prop)->Prop
noncomputable def RS(K:X1)(H:Hp)(j:Sm)(l:St):Prop:=j.length=l.length/\∀(i:Nat)(m:MV),j[i]?=some (some m)->∃v,l[i]?=some (some v)/\RM K H m v
theorem RS.mono{K:X1}(k:Kp H H')(h:RS K H σm σ):RS K H' σm σ:=⟨h.1,λi m e=>by
 obtain⟨v,j,r⟩:=h.2 i m e;exact⟨v,j,r.mono k⟩⟩
theorem RS.set{K:X1}(h:RS K H σm σ)(r:RM K H m v)(i:Nat):RS K H (σm.set i (some m)) (σ.set i (some v)):=by
 refine⟨by simp[h.1],λj x e=>?_⟩
 rw[Zi]at e;by_cases hij:i=j
 .subst hij;rw[if_pos rfl]at e;split at e
  .cases e;exact⟨v,by rw[Zi,if_pos rfl,if_pos (by rw[<-h.1];assumption)],r⟩
  .cases e
 .rw[if_neg hij]at e;obtain⟨u,l,w⟩:=h.2 j x e;exact⟨u,by rw[Zi,if_neg hij];exact l,w⟩
def Dn(K:X1)(H:Hp)(Q:VK):QM:=λm M=>∀v j,Kp H j->RM K j m v->RH K M j->Q v j
theorem Dn.on{K:X1}(k:Kp H H1)(h:Dn K H Q m M):Dn K H1 Q m M:=λv j l r u=>h v j (k.trans l) r u
def liE(K:X1)(t:TEm):TE:=λl H Q=>∃j M,RS K H j l/\RH K M H/\t j M (Dn K H Q)
def liA(K:X1)(t:TAm):TA:=λw H Q=>∃j M,RS K H j w/\RH K M H/\t j M (λy z=>∀u l,Kp H l->RMs K l y u->RH K z l->Q u l)
def MonE(t:TEm):Prop:=∀{j M} {Q l:QM},(∀m u,Q m u->l m u)->t j M Q->t j M l
def MonA(t:TAm):Prop:=∀{j M} {Q l:List MV->MH->Prop},(∀m u,Q m u->l m u)->t j M Q->t j M l
abbrev W1:=MV->MH->QM->Prop
abbrev W2:=MV->MV->MH->QM->Prop
abbrev WA:=List MV->MH->QM->Prop
def Mon1(w:W1):Prop:=∀{x M} {Q j:QM},(∀m l,Q m l->j m l)->w x M Q->w x M j
def Mon2(w:W2):Prop:=∀{x y M} {Q j:QM},(∀m l,Q m l->j m l)->w x y M Q->w x y M j
def MonW(w:WA):Prop:=∀{j M} {Q l:QM},(∀m u,Q m u->l m u)->w j M Q->w j M l
def li1(K:X1)(w:W1):V->Hp->VK->Prop:=λx H Q=>∃j M,RM K H j x/\RH K M H/\w j M (Dn K H Q)
def li2(K:X1)(w:W2):R2:=λx y H Q=>∃j l M,RM K H j x/\RM K H l y/\RH K M H/\w j l M (Dn K H Q)
def liW(K:X1)(w:WA):List V->Hp->VK->Prop:=λl H Q=>∃j M,RMs K H j l/\RH K M H/\w j M (Dn K H Q)
section
variable{K:X1}
theorem Dg{z tb:TEm}{w:W2}(p:MonE z)(e:MonE tb)(L:Mon2 w){j:St}{H:Hp}{Q:VK}
  (h:liE K (λj M Q=>z j M λx M1=>tb j M1 λy M2=>w x y M2 Q) j H Q):tOp (li2 K w) (liE K z) (liE K tb) j H Q:=by
 obtain⟨l,M,c,N,h⟩:=h;refine⟨l,M,c,N,p (λx M1 O=>?_) h⟩;intro v W f P g;refine⟨l,M1,c.mono f,g,e (λy M2 R=>?_) O⟩;intro u Y q T d;exact⟨x,y,M2,P.mono q,T,d,L (λm Z U=>U.on (f.trans q)) R⟩
end
theorem PE.weak{t:TE}(h:PE X e t)(i:∀j H Q,t' j H Q->t j H Q):PE X e t':=λl s j H Q I q=>h l s j H Q I (i _ _ _ q)
theorem PT.weak{t:TT}(h:PT X e t)(i:∀j H Q,t' j H Q->t j H Q):PT X e t':=λl s j H Q I q=>h l s j H Q I (i _ _ _ q)
theorem PW.weak{t:TT}(h:PW X e t)(i:∀j H Q,t' j H Q->t j H Q):PW X e t':=λl u s j H Q I q=>h l u s j H Q I (i _ _ _ q)
theorem PA.weak{t:TA}(h:PA X e t)(i:∀j H Q,t' j H Q->t j H Q):PA X e t':=λl u s j H Q I q=>h l u s j H Q I (i _ _ _ q)
theorem PS.weak{t:TS}(h:PS X e t)(i:∀D j H,t' D j H->t D j H):PS X e t':=λl s j H D I q=>h l s j H D I (i _ _ _ q)
theorem PSs.weak{t:TS}(h:PSs X e t)(i:∀D j H,t' D j H->t D j H):PSs X e t':=λl s j H D I q=>h l s j H D I (i _ _ _ q)
noncomputable def intsM(k:Int->Int->Prop)(x y:MV):Prop:=match x,y with
 |.int i,.int j=>k i j
 |_,_=>False
theorem intsM.of{k:Int->Int->Prop}{x y:MV}(h:intsM k x y):∃i j,x=.int i/\y=.int j/\k i j:=by
 unfold intsM at h;split at h
 .exact⟨_,_,rfl,rfl,h⟩
 .exact h.elim
def addM(x y:MV)(M:MH)(Q:QM):Prop:=match x,y with
 |.int i,.int j=>Q (.int (i+j)) M
 |.str i,.str j=>i.length+j.length<=sizeLine/\Q (.str (i++j)) M
 |.tup l,.tup u=>l≠ []/\l.length+u.length<=sizeLine/\Q (.tup (l++u)) M
 |.ref a,.ref b=>∃l u,M a=some (.lst l)/\M b=some (.lst u)/\l.length+u.length<=sizeLine/\∀p,M p=none->Q (.ref p) (updM M p (.lst (l++u)))
 |_,_=>False
def mulM(x y:MV)(M:MH)(Q:QM):Prop:=match x,y with
 |.int i,.int j=>CMul i j/\Q (.int (i*j)) M
 |.str z,.int i=>z.length<=16/\ -1000<=i/\i<=1000/\Q (.str (Txt.mul z i)) M
 |_,_=>False
def wBin(l:Uj)(x y:MV)(M:MH)(Q:QM):Prop:=match l with
 |.Add=>addM x y M Q
 |.Mult=>mulM x y M Q
 |.Sub=>intsM (λi j=>Q (.int (i - j)) M) x y
 |.FloorDiv=>intsM (λi j=>Wt i j/\Q (.int (i/j)) M) x y
 |.Mod=>intsM (λi j=>0<j/\Q (.int (i%j)) M) x y
 |.Pow=>intsM (λi j=>CPow i j/\Q (.int (i^j.toNat)) M) x y
 |.LShift=>intsM (λi j=>CPow i j/\Q (.int (i*2^j.toNat)) M) x y
 |_=>False
theorem Tr:Mon2 addM:=by
 intro x y M Q c j h;unfold addM at h ⊢;split at h
 all_goals first
  |exact j _ _ h
  |exact h.elim
  |exact⟨h.1,j _ _ h.2⟩
  |exact⟨h.1,h.2.1,j _ _ h.2.2⟩
  |(obtain⟨g,l,d,u,w,z⟩:=h
    exact⟨g,l,d,u,w,λp m=>j _ _ (z p m)⟩)
  |(obtain⟨l,u,w,z⟩:=h
    exact⟨l,u,w,λp m=>j _ _ (z p m)⟩)
theorem Ts:Mon2 mulM:=by
 intro x y M Q c j h;unfold mulM at h ⊢;split at h
 all_goals first
  |exact h.elim
  |exact⟨h.1,j _ _ h.2⟩
  |exact⟨h.1,h.2.1,h.2.2.1,j _ _ h.2.2.2⟩
  |(obtain⟨l,u,w,z,m,g⟩:=h
    exact⟨l,u,w,z,m,λp d=>j _ _ (g p d)⟩)
theorem Ic(u:Uj):Mon2 (wBin u):=by
 intro x y M Q w l h;cases u
 all_goals first
  |exact XS h
  |exact Tr l h
  |exact Ts l h
  |(obtain⟨i,j,rfl,rfl,h⟩:=intsM.of h
    exact l _ _ h)
  |(obtain⟨i,j,rfl,rfl,h⟩:=intsM.of h
    exact⟨h.1,l _ _ h.2⟩)
section
variable{X:Cx}
set_option tactic.hygienic true in
theorem Tt:OpR X (YE .Add) (li2 X.K addM):=by
 intro c s f H x y v u Q I q e h;obtain⟨B,C,M,L,N,j,h⟩:=h;unfold addM at h;split at h
 .obtain rfl:=L.inv;obtain rfl:=N.inv;exact QT c s f H _ _ v u Q I q e ⟨_,_,rfl,rfl,h _ _ (Kp.refl _) (.int _) j⟩
 .obtain rfl:=L.inv;obtain rfl:=N.inv;exact Rf c s f H _ _ v u Q I q e ⟨_,_,rfl,rfl,h.1,h.2 _ _ (Kp.refl _) (.str _) j⟩
 .rename_i W Y
  obtain⟨_,_,rfl,O,l⟩:=L.inv
  rename_i a m
  cases N with
  |tup P w=>
   rename_i b g
   obtain⟨R,T,U⟩:=h;refine RB c s f H _ _ v u Q I q e ⟨_,_,m,g,rfl,rfl,SqT.of O,SqT.of P,λz=>R ?_,by rw[<-l.length,<-w.length];exact T,λz=>?_,λz p d=>?_⟩
   .subst z;cases l;rfl
   .subst z;cases w;rw[U4]at U;exact U _ _ (Kp.refl _) (.tup O l) j
   .have k:=Kp.new d (.tup (m++g));exact U _ _ k (.tup Uu ((l.append w).mono k)) (j.kept d _)
 .obtain rfl:=L.inv;obtain rfl:=N.inv;obtain⟨W,Y,O,P,R,T⟩:=h;obtain⟨m,Z,l⟩:=j.lst O;obtain⟨g,A,w⟩:=j.lst P;refine RV c s f H _ _ v u Q I q e ⟨_,_,m,g,rfl,rfl,Z,A,by rw[<-l.length,<-w.length];exact R,λp d=>?_⟩
  have k:=Kp.new d (.lst (m++g));exact T p (j.free d) _ _ k (.ref p) (j.put k ((l.append w).mono k))
 .exact h.elim
theorem Tu:OpR X (YE .Mult) (li2 X.K mulM):=by
 intro j s l H x y v u Q I w z h;obtain⟨c,f,M,m,g,d,h⟩:=h;unfold mulM at h;split at h
 .obtain rfl:=m.inv;obtain rfl:=g.inv;exact QV j s l H _ _ v u Q I w z ⟨_,_,rfl,rfl,h.1,h.2 _ _ (Kp.refl _) (.int _) d⟩
 .obtain rfl:=m.inv;obtain rfl:=g.inv;exact Si j s l H _ _ v u Q I w z ⟨_,_,rfl,rfl,h.1,h.2.1,h.2.2.1,h.2.2.2 _ _ (Kp.refl _) (.str _) d⟩
 .exact h.elim
theorem Tv(p:Uj):OpR X (YE p) (li2 X.K (wBin p)):=by
 cases p with
 |Add=>exact Tt
 |Mult=>exact Tu
 |Sub=>
  intro l s w H x y v u Q I z m h;obtain⟨f,q,M,g,d,c,h⟩:=h;obtain⟨i,j,rfl,rfl,h⟩:=intsM.of h;obtain rfl:=g.inv;obtain rfl:=d.inv;exact QU l s w H _ _ v u Q I z m ⟨_,_,rfl,rfl,h _ _ (Kp.refl _) (.int _) c⟩
 |FloorDiv=>
  intro l s w H x y v u Q I z m h;obtain⟨f,q,M,g,d,c,h⟩:=h;obtain⟨i,j,rfl,rfl,h⟩:=intsM.of h;obtain rfl:=g.inv;obtain rfl:=d.inv;exact Sb l s w H _ _ v u Q I z m ⟨_,_,rfl,rfl,h.1,h.2 _ _ (Kp.refl _) (.int _) c⟩
 |Mod=>
  intro l s w H x y v u Q I z m h;obtain⟨f,q,M,g,d,c,h⟩:=h;obtain⟨i,j,rfl,rfl,h⟩:=intsM.of h;obtain rfl:=g.inv;obtain rfl:=d.inv;exact QW l s w H _ _ v u Q I z m ⟨_,_,rfl,rfl,h.1,h.2 _ _ (Kp.refl _) (.int _) c⟩
 |Pow=>
  intro l s w H x y v u Q I z m h;obtain⟨f,q,M,g,d,c,h⟩:=h;obtain⟨i,j,rfl,rfl,h⟩:=intsM.of h;obtain rfl:=g.inv;obtain rfl:=d.inv;exact QX l s w H _ _ v u Q I z m ⟨_,_,rfl,rfl,h.1,h.2 _ _ (Kp.refl _) (.int _) c⟩
 |LShift=>
  intro l s w H x y v u Q I z m h;obtain⟨f,q,M,g,d,c,h⟩:=h;obtain⟨i,j,rfl,rfl,h⟩:=intsM.of h;obtain rfl:=g.inv;obtain rfl:=d.inv;exact QY l s w H _ _ v u Q I z m ⟨_,_,rfl,rfl,h.1,h.2 _ _ (Kp.refl _) (.int _) c⟩
 |_=>
  intro l s w H x y v u Q I z m h;obtain⟨_,_,_,_,_,_,h⟩:=h;exact XS h
end
noncomputable def eqS(x y:MV):Option Bool:=match x with
 |.int i=>(match y with|.int j=>some (decide (i=j))|.non=>some false|.str _=>some false|_=>none)
 |.str i=>(match y with|.str j=>some (decide (i=j))|.non=>some false|.int _=>some false|.bl _=>some false|_=>none)
 |.bl i=>(match y with|.bl j=>some (decide (i=j))|.non=>some false|.str _=>some false|_=>none)
 |.non=>(match y with|.non=>some true|.int _=>some false|.bl _=>some false|.str _=>some false|_=>none)
 |_=>none
theorem Ie{K:X1}(h:eqS x y=some b)(r:RM K H x u)(q:RM K H y v):scal u v=true/\decide (u=v)=b:=by
 cases r
 all_goals first
  |exact nomatch (show none=some b from h)
  |skip
 all_goals
  cases q
  all_goals first
   |exact nomatch (show none=some b from h)
   |(obtain rfl:=Yo (show some false=some b from h);exact⟨rfl,rfl⟩)
   |(obtain rfl:=Yo (show some true=some b from h);exact⟨rfl,rfl⟩)
   |(obtain rfl:=Yo h;exact⟨rfl,decide_eq_decide.mpr ⟨V.int.inj,λe=>by rw[e]⟩⟩)
   |(obtain rfl:=Yo h;exact⟨rfl,decide_eq_decide.mpr ⟨V.str.inj,λe=>by rw[e]⟩⟩)
   |(obtain rfl:=Yo h;exact⟨rfl,decide_eq_decide.mpr ⟨V.bl.inj,λe=>by rw[e]⟩⟩)
noncomputable def LstM(M:MH)(x:MV)(j:List MV):Prop:=x=.frl j\/∃a,x=.ref a/\M a=some (.lst j)
noncomputable def YB:MV->Bool
 |.non=>true|.bl _=>true|.int _=>true|.str _=>true|_=>false
def Alike(M:MH):Nat->MV->MV->Prop
 |0,x,y=>YB x=true/\x=y
 |n+1,x,y=>(YB x=true/\x=y)\/(∃j l,x=.tup j/\y=.tup l/\j.length=l.length/\∀(i:Nat)u v,j[i]?=some u->l[i]?=some v->Alike M n u v)\/
  (∃j l,LstM M x j/\LstM M y l/\j.length=l.length/\∀(i:Nat)u v,j[i]?=some u->l[i]?=some v->Alike M n u v)\/
  ∃a b w z,x=.ref a/\y=.ref b/\M a=some (.dic w)/\M b=some (.dic z)/\w.length=z.length/\∀k u,(k,u)∈w->∃v,valM z k=some v/\Alike M n u v
noncomputable def toV:MV->V
 |.non=>.non|.bl b=>.bl b|.int i=>.int i|.str x=>.str x|_=>.non
def wEq(x y:MV)(M:MH)(k:Bool->Prop):Prop:=match eqS x y with
 |some b=>k b
 |none=>False\/(∃n≤60,Alike M n x y/\k true)\/(∃a b j,x=.ref a/\y=.ref b/\M a=some (.lst j)/\M b=some (.lst [])/\k j.isEmpty)\/False\/False
theorem Ub{K:X1}(f:YB m=true)(r:RM K H m v):v=toV m/\ZO v=true:=by
 cases r<;>first|exact⟨rfl,rfl⟩|cases f
theorem V0{K:X1}:∀{m:List MV} {v:List V},m.all YB=true->RMs K H m v->v=m.map toV/\v.all ZO=true
 |_,_,_,.nil=>⟨rfl,rfl⟩
 |_,_,f,.cons r t=>by
  rw[UP,XM]at f;obtain⟨e,g⟩:=Ub f.1 r;obtain⟨j,l⟩:=V0 f.2 t;subst e j;exact⟨rfl,by rw[UP,g,l];rfl⟩
def keyM:MV->Option Key
 |.int i=>some (.inl i)
 |.str x=>some (.inr x)
 |_=>none
theorem Bu{K:X1}{k:Key}(e:keyM m=some k)(r:RM K H m v):v=kV k:=by
 cases r<;>cases e<;>rfl
theorem VF{K:X1}{k:Key}:∀{m:List (Key×MV)} {v:List (Key×V)},RKs K H m v->(valM m k=none/\valV v k=none)\/∃x u,valM m k=some x/\valV v k=some u/\RM K H x u
 |_,_,.nil=>.inl ⟨rfl,rfl⟩
 |_,_,.cons (k:=j) (x:=x) (v:=u) r t=>by
  by_cases e:j=k
  .refine .inr ⟨x,u,?_,Db (p:=(j,u)) e,r⟩;unfold valM;rw[if_pos e]
  .have:=VF (k:=k) t;unfold valM;rw[if_neg e,Dc (p:=(j,u)) e];exact this
theorem Ig{K:X1}{k:Key}:∀{m:List (Key×MV)} {v:List (Key×V)},RKs K H m v->(v.any λj=>decide (j.1=k))=(m.any λj=>decide (j.1=k))
 |_,_,.nil=>rfl
 |_,_,.cons r t=>by rw[U5,U5,Ig t]
theorem Dh{K:X1}{k:Key}(r:RM K H x u):∀{m:List (Key×MV)} {v:List (Key×V)},RKs K H m v->
  RKs K H (m.map λl=>if l.1=k then(l.1,x)else l) (v.map λl=>if l.1=k then(l.1,u)else l)
 |_,_,.nil=>.nil
 |_,_,.cons (k:=j) q t=>by
  rw[Xp,Xp];by_cases e:j=k
  .rw[if_pos e,if_pos e];exact .cons r (Dh r t)
  .rw[if_neg e,if_neg e];exact .cons q (Dh r t)
theorem Ih{j:Type}{K:X1}:∀{m l:List (j×MV)} {v u:List (j×V)},RKs K H m v->RKs K H l u->RKs K H (m++l) (v++u)
 |_,_,_,_,.nil,s=>s
 |_,_,_,_,.cons r t,s=>.cons r (Ih t s)
theorem Ii{l:Type} [DecidableEq l] {k:l}:∀{m:List (l×MV)},¬k∈m.map (·.1)->(m.map λu=>if u.1=k then(u.1,x)else u)=m
 |[],_=>rfl
 |(j,y)::r,h=>by
  rw[Xp,if_neg (λe=>h (by simp[show j=k from e])),Ii (λe=>h (by simp[e]))]
theorem Ij{u:Type} [DecidableEq u] {k:u}:∀{m:List (u×MV)},(m.map (·.1)).Nodup->putM m k x=if(m.any λl=>decide (l.1=k))=true then m.map (λl=>if l.1=k then(l.1,x)else l)else m++[(k,x)]
 |[],_=>rfl
 |(j,y)::r,h=>by
  rw[Xp,ZH]at h;unfold putM;rw[U5];by_cases e:j=k
  .subst e;rw[if_pos rfl,if_pos (by simp),Xp,if_pos rfl,Ii h.1]
  .rw[if_neg e,Ij h.2,show decide ((j,y).1=k)=false from decide_eq_false e,Bool.false_or,Xp,if_neg (show¬(j,y).1=k from e)];split<;>rfl
theorem Ik{l:Type} [DecidableEq l] {k:l}:∀(m:List (l×MV)),((putM m k x).map (·.1))=if k∈m.map (·.1)then m.map (·.1)else m.map (·.1)++[k]
 |[]=>rfl
 |(j,y)::r=>by
  unfold putM;by_cases e:j=k
  .subst e;simp
  .rw[if_neg e,Xp,Ik r,Xp];have u:k≠j:=λz=>e z.symm;by_cases m:k∈r.map (·.1)
   .rw[if_pos m,if_pos (Xm.mpr (.inr m))]
   .rw[if_neg m,if_neg (λz=>(Xm.mp z).elim u m)];rfl
theorem Tw{K:X1}{k:Key}(r:RM K H x u)(j:(m.map (·.1)).Nodup)(h:RKs K H m v):
  RKs K H (putM m k x) (putK v k u)/\((putM m k x).map (·.1)).Nodup:=by
 refine⟨?_,?_⟩
 .rw[Ij j];unfold putK;rw[Ig h];split
  .exact Dh r h
  .exact Ih h (.cons r .nil)
 .rw[Ik];split
  .exact j
  .exact Hv j (by assumption)
def wIn(x y:MV)(M:MH)(k:Bool->Prop):Prop:=match y with
 |.tup j=>YB x=true/\j.all YB=true/\k (inV (toV x) (j.map toV))
 |.frl j=>YB x=true/\j.all YB=true/\k (inV (toV x) (j.map toV))
 |.ref a=>(∃j,M a=some (.lst j)/\YB x=true/\j.all YB=true/\k (inV (toV x) (j.map toV)))\/∃l u,M a=some (.dic l)/\keyM x=some u/\k (valM l u).isSome
 |_=>False
noncomputable def Di:MV->Bool
 |.non=>true|_=>false
noncomputable def isBl(b:Bool):MV->Bool
 |.bl c=>decide (c=b)
 |_=>false
def wCmp(l:CmpOp)(x y:MV)(M:MH)(Q:QM):Prop:=match l with
 |.Lt=>∃i j,x=.int i/\y=.int j/\Q (.bl (decide (i<j))) M
 |.LtE=>(∃i j,x=.int i/\y=.int j/\Q (.bl (decide (i<=j))) M)\/∃i j,x=.str i/\y=.str j/\Q (.bl (!decide (j.cps.toList<i.cps.toList))) M
 |.Gt=>∃i j,x=.int i/\y=.int j/\Q (.bl (decide (j<i))) M
 |.GtE=>∃i j,x=.int i/\y=.int j/\Q (.bl (decide (j<=i))) M
 |.Eq=>wEq x y M λb=>Q (.bl b) M
 |.NotEq=>wEq x y M λb=>Q (.bl (!b)) M
 |.In=>wIn x y M λb=>Q (.bl b) M
 |.NotIn=>wIn x y M λb=>Q (.bl (!b)) M
 |.Is=>(y=.non/\Q (.bl (Di x)) M)\/∃b,y=.bl b/\Q (.bl (isBl b x)) M
 |.IsNot=>(y=.non/\Q (.bl (!Di x)) M)\/∃b,y=.bl b/\Q (.bl (!isBl b x)) M
set_option tactic.hygienic true in
theorem Il{k:Bool->Prop}(j:∀b,k b->k' b)(h:wEq x y M k):wEq x y M k':=by
 unfold wEq at h ⊢;split
 .rename_i b e;rw[e]at h;exact j _ h
 .rename_i e;rw[e]at h;refine h.imp id λh=>?_;rcases h with⟨n,l,u,w⟩|⟨a,b,z,l,u,w,m,g⟩|h|h
  .exact .inl ⟨n,l,u,j _ w⟩
  .exact .inr (.inl ⟨a,b,z,l,u,w,m,j _ g⟩)
  .exact h.elim
  .exact h.elim
theorem Im{k:Bool->Prop}(j:∀b,k b->k' b)(h:wIn x y M k):wIn x y M k':=by
 unfold wIn at h ⊢;split at h
 .exact⟨h.1,h.2.1,j _ h.2.2⟩
 .exact⟨h.1,h.2.1,j _ h.2.2⟩
 .rcases h with⟨m,l,u,w,g⟩|⟨z,d,l,u,w⟩
  .exact .inl ⟨m,l,u,w,j _ g⟩
  .exact .inr ⟨z,d,l,u,j _ w⟩
 .exact h.elim
theorem VG(g:CmpOp):Mon2 (wCmp g):=by
 intro x y M Q m l h;cases g
 .exact Il (k:=λb=>Q (.bl b) M) (k':=λb=>m (.bl b) M) (λb h=>l _ _ h) h
 .exact Il (k:=λb=>Q (.bl (!b)) M) (k':=λb=>m (.bl (!b)) M) (λb h=>l _ _ h) h
 .obtain⟨i,j,u,w,z⟩:=h;exact⟨i,j,u,w,l _ _ z⟩
 .rcases h with⟨i,j,u,w,z⟩|⟨i,j,u,w,z⟩
  .exact .inl ⟨i,j,u,w,l _ _ z⟩
  .exact .inr ⟨i,j,u,w,l _ _ z⟩
 .obtain⟨i,j,u,w,z⟩:=h;exact⟨i,j,u,w,l _ _ z⟩
 .obtain⟨i,j,u,w,z⟩:=h;exact⟨i,j,u,w,l _ _ z⟩
 .rcases h with h|⟨b,e,h⟩
  .exact .inl ⟨h.1,l _ _ h.2⟩
  .exact .inr ⟨b,e,l _ _ h⟩
 .rcases h with h|⟨b,e,h⟩
  .exact .inl ⟨h.1,l _ _ h.2⟩
  .exact .inr ⟨b,e,l _ _ h⟩
 .exact Im (k:=λb=>Q (.bl b) M) (k':=λb=>m (.bl b) M) (λb h=>l _ _ h) h
 .exact Im (k:=λb=>Q (.bl (!b)) M) (k':=λb=>m (.bl (!b)) M) (λb h=>l _ _ h) h
section
variable{X:Cx}
set_option tactic.hygienic true in
theorem Io{K:X1}(r:RM K H m v):decide (v=.bl b)=isBl b m:=by
 cases r<;>first|rfl|(rename_i c;cases b<;>cases c<;>rfl)
theorem Ip{K:X1}(r:RM K H m v):decide (v=.non)=Di m:=by cases r<;>rfl
theorem Tx{k:Key}(r:KV kvs vs)(h:valV kvs k=some v):∃u,Z6 vs k=some u/\RelV v u:=by
 have q:=r.val k;rw[h]at q;exact RelO.some_of q
theorem LstM.sq(j:RH X.K M H)(h:LstM M x xs)(r:RM X.K H x u):∃a vs,u=.ref a/\SqL X.K H a vs/\RMs X.K H xs vs:=by
 rcases h with rfl|⟨a,rfl,h⟩
 .obtain⟨_,_,rfl,l,w⟩:=r.inv;exact⟨_,_,rfl,l.sq,w⟩
 .obtain rfl:=r.inv;obtain⟨vs,e,q⟩:=j.lst h;exact⟨a,vs,rfl,SqL.of e,q⟩
theorem Bv{j:List V}{l:List Value}(r:Vals j l){i:Nat}{u:Value}(h:l[i]?=some u):∃x,j[i]?=some x/\RelV x u:=by
 induction r generalizing i with
 |nil=>cases h
 |cons q _ w=>
  cases i with
  |zero=>cases h;exact⟨_,rfl,q⟩
  |succ i=>exact w (i:=i) h
theorem Tz(r:KV kvs vs){k:Key}(h:(k,u)∈vs):∃x,(k,x)∈kvs/\RelV x u:=by
 induction r with
 |nil=>cases h
 | @cons p j _ _ q _ l=>
  obtain⟨w,y⟩:=p;obtain⟨d,c⟩:=j;rcases Xm.mp h with e|h
  .cases e;have z:w=k:=q.1;subst z;exact⟨y,XY,q.2⟩
  .obtain⟨x,m,g⟩:=l h;exact⟨x,XU _ m,g⟩
theorem Iq{K:X1}{k:Key}:∀{m:List (Key×MV)} {j:List (Key×V)},RKs K H m j->(k,v)∈j->∃x,(k,x)∈m/\RM K H x v
 |_,_,.nil,h=>by cases h
 |_,_,.cons r t,h=>by
  rcases Xm.mp h with e|h
  .cases e;exact⟨_,XY,r⟩
  .obtain⟨x,m,q⟩:=Iq t h;exact⟨x,XU _ m,q⟩
set_option tactic.hygienic true in
theorem Alike.inn{pz:List (Addr×Obj)}{s:X0}{σ:St}{H:Hp}{M:MH}(I:Inv X pz σ H s)(D:RH X.K M H){n:Nat}{A:Xn}(c:A.units<cLine)
  (J:∀{x y:MV} {u v:V} {l w:Value},Alike M n x y->RM X.K H x u->RM X.K H y v->RelV u l->RelV v w->AliP X.prog X.w A.in1 s l w)
  {x y:MV} {u v:V} {l w:Value} (h:Alike M (n+1) x y)(Q:RM X.K H x u)(S:RM X.K H y v)(o:RelV u l)(q2:RelV v w):
  (YB x=true/\x=y)\/∃a b,l=.ref a/\w=.ref b/\RcP X.prog X.w A s (.ref a) (.ref b)/\RnP X.prog X.w A s (.ref a) (.ref b):=by
 rw[Alike]at h;rcases h with h|⟨xs,ys,rfl,rfl,e,h⟩|⟨xs,ys,E,F,e,h⟩|⟨a,b,ka,kb,rfl,rfl,E,F,e,h⟩
 .exact .inl h
 .obtain⟨_,_,rfl,g1,q⟩:=Q.inv;cases S with
  |tup g2 L=>
   rename_i a vs b us
   obtain rfl:l=XE a:=o;obtain rfl:w=XE b:=q2;obtain⟨m,N,O,_⟩:=I.tuple (SqT.of g1);obtain⟨g,P,R,_⟩:=I.tuple (SqT.of g2);have z:m.toArray.size=g.toArray.size:=by rw[XW,XW,<-N.length,<-P.length,<-q.length,<-L.length];exact e
   have d:∀p∈m.toArray.toList.zip g.toArray.toList,AliP X.prog X.w A.in1 s p.1 p.2:=by
    intro p hp;obtain⟨i,hi⟩:=List.mem_iff_getElem?.mp hp;rw[G1]at hi;obtain⟨x1,T,U⟩:=Bv N hi.1;obtain⟨x2,W,Y⟩:=Bv P hi.2;obtain⟨Z,f,d3⟩:=q.get' T;obtain⟨G,B,d4⟩:=L.get' W;exact J (h i Z G f B) d3 d4 U Y
   exact .inr ⟨_,_,rfl,rfl,Sl O R z c d,Sq O R z c d⟩
 .obtain⟨a,vs,rfl,g1,q⟩:=E.sq D Q;obtain⟨b,us,rfl,g2,L⟩:=F.sq D S;obtain rfl:l=XE a:=o;obtain rfl:w=XE b:=q2;obtain⟨m,N,⟨o1,n1,O,R,_,t3⟩,_⟩:=I.list g1;obtain⟨g,P,⟨o2,n2,t4,t5,_,t6⟩,_⟩:=I.list g2;have z:m.toArray.size=g.toArray.size:=by rw[XW,XW,<-N.length,<-P.length,<-q.length,<-L.length];exact e
  have d:∀j (E:j<m.toArray.size)(F:j<g.toArray.size),AliP X.prog X.w A.in1 s m.toArray[j] g.toArray[j]:=by
   intro i l1 l2;obtain⟨x1,T,U⟩:=Bv N (i:=i) (u:=m.toArray[i]) (by simp[X6 (show i<m.length by simpa using l1)])
   obtain⟨x2,W,Y⟩:=Bv P (i:=i) (u:=g.toArray[i]) (by simp[X6 (show i<g.length by simpa using l2)])
   obtain⟨Z,f,d3⟩:=q.get' T;obtain⟨G,B,d4⟩:=L.get' W;exact J (h i Z G f B) d3 d4 U Y
  exact .inr ⟨_,_,rfl,rfl,So ⟨o1,O,R,n1,t3⟩ ⟨o2,t4,t5,n2,t6⟩ z c d,Ss ⟨o1,O,R,n1,t3⟩ ⟨o2,t4,t5,n2,t6⟩ z c d⟩
 .obtain rfl:=Q.inv;obtain rfl:=S.inv;obtain rfl:l=XE a:=o;obtain rfl:w=XE b:=q2;obtain⟨va,ea,wa,_⟩:=D.dic E;obtain⟨vb,eb,wb,_⟩:=D.dic F;obtain⟨_,na,ua,pa,da⟩:=Hr I.hok ea;obtain⟨_,nb,ub,pb,db⟩:=Hr I.hok eb;have z:ua.length=ub.length:=by rw[<-Paired.length pa,<-wa.length,<-Paired.length pb,<-wb.length];exact e
  have d:∀p∈ua,∃y,Z6 ub p.1=some y/\AliP X.prog X.w A.in1 s p.2 y:=by
   rintro⟨k,u1⟩ hp;obtain⟨x1,T,U⟩:=Tz pa hp;obtain⟨Z,W,Y⟩:=Iq wa T;obtain⟨G,f,B⟩:=h k Z W;rcases VF (k:=k) wb with⟨C,z2⟩|⟨x',u2,C,z2,r3⟩
   .rw[f]at C;cases C
   .rw[f]at C;cases C;obtain⟨w',hw,rw'⟩:=Tx pb z2;exact⟨w',hw,J B Y r3 U rw'⟩
  exact .inr ⟨_,_,rfl,rfl,Su na nb da db c z d,Sv na nb da db c z d⟩
theorem Ir{K:X1}(f:YB x=true)(j:RM K H x u)(l:RM K H x v)(y:RelV u u')(z:RelV v v'):AliP P w A s u' v':=by
 obtain⟨rfl,f1⟩:=Ub f j;obtain⟨rfl,f2⟩:=Ub f l;have h:=Hj (A:=A) (s:=s) y z f1 f2;have e:eqV (toV x) (toV x)=true:=by cases x<;>first|(cases f;done)|simp[toV,eqV]
 rw[e]at h;exact .of_at h
theorem Alike.ok(I:Inv X pz σ H s)(d:RH X.K M H):∀(n:Nat){A:Xn} {x y:MV} {u v:V} {m g:Value},A.units+n<cLine->Alike M n x y->RM X.K H x u->RM X.K H y v->RelV u m->RelV v g->AliP X.prog X.w A s m g
 |0,A,x,y,u,v,m,g,hu,h,j,l,w,z=>by
  rw[Alike]at h;obtain⟨f,rfl⟩:=h;exact Ir f j l w z
 |n+1,A,x,y,u,v,m,g,hu,h,j,l,w,z=>by
  rcases Alike.inn I d (A:=A) (by lia) (λh j l w z=>Alike.ok I d n (show A.units+1+n<cLine by lia) h j l w z) h j l w z with⟨f,rfl⟩|⟨a,b,rfl,rfl,h,_⟩
  .exact Ir f j l w z
  .exact .refs h
theorem Alike.top(I:Inv X pz σ H s)(m:RH X.K M H)(h:Alike M n x y)(c:X.A.units+n<cLine)(ns:eqS x y=none)(j:RM X.K H x u)(l:RM X.K H y v)(w:RelV u u')(z:RelV v v'):
  RcP X.prog X.w X.A s u' v'/\RnP X.prog X.w X.A s u' v':=by
 have g:¬(YB x=true/\x=y):=by
  rintro⟨f,rfl⟩;cases x<;>first|(cases f;done)|(cases ns;done)
 cases n with
 |zero=>rw[Alike]at h;exact(g h).elim
 |succ n=>
  rcases Alike.inn I m (A:=X.A) (by lia) (λh j l w z=>Alike.ok I m n (show X.A.units+1+n<cLine by lia) h j l w z) h j l w z with f|⟨a,b,rfl,rfl,h,d⟩
  .exact(g f).elim
  .exact⟨h,d⟩
set_option tactic.hygienic true in
theorem VH(hu:X.A.units+70<cLine)(F:CmpOp):OpR X (Y4 F) (li2 X.K (wCmp F)):=by
 intro q s p H x y v u Q I w z h;obtain⟨D,E,M,m,g,N,h⟩:=h;have l:∀b,Dn X.K H Q (.bl b) M->Q (.bl b) H:=λb h=>h _ _ (Kp.refl _) (.bl b) N;have Z:X.A.units+1<cLine:=by lia
 have hu64:X.A.units+64<cLine:=by lia
 have huI:X.A.in1.units+64<cLine:=by show X.A.units+1+64<cLine;lia
 have A:X.A.units<cLine:=by lia
 cases F with
 |Lt=>obtain⟨i,j,rfl,rfl,h⟩:=h;obtain rfl:=m.inv;obtain rfl:=g.inv;exact R4 q s p H _ _ v u Q I w z ⟨_,_,rfl,rfl,l _ h⟩
 |LtE=>
  rcases h with⟨i,j,rfl,rfl,h⟩|⟨i,j,rfl,rfl,h⟩
  .obtain rfl:=m.inv;obtain rfl:=g.inv;exact R5 q s p H _ _ v u Q I w z ⟨_,_,rfl,rfl,l _ h⟩
  .obtain rfl:=m.inv;obtain rfl:=g.inv;obtain⟨t1,rfl⟩:=w;obtain⟨t2,rfl⟩:=z;exact PySem.P.le_str ⟨.bl _,H,I,rfl,l _ h⟩
 |Gt=>obtain⟨i,j,rfl,rfl,h⟩:=h;obtain rfl:=m.inv;obtain rfl:=g.inv;exact R6 q s p H _ _ v u Q I w z ⟨_,_,rfl,rfl,l _ h⟩
 |GtE=>obtain⟨i,j,rfl,rfl,h⟩:=h;obtain rfl:=m.inv;obtain rfl:=g.inv;exact R7 q s p H _ _ v u Q I w z ⟨_,_,rfl,rfl,l _ h⟩
 |Is=>
  rcases h with⟨rfl,h⟩|⟨b,rfl,h⟩
  .obtain rfl:=g.inv;exact R8 q s p H _ _ v u Q I w z ⟨rfl,by rw[Ip m];exact l _ h⟩
  .obtain rfl:=g.inv;exact Ta q s p H _ _ v u Q I w z ⟨b,rfl,by rw[Io m];exact l _ h⟩
 |IsNot=>
  rcases h with⟨rfl,h⟩|⟨b,rfl,h⟩
  .obtain rfl:=g.inv;exact R9 q s p H _ _ v u Q I w z ⟨rfl,by rw[Ip m];exact l _ h⟩
  .obtain rfl:=g.inv;exact Tb q s p H _ _ v u Q I w z ⟨b,rfl,by rw[Io m];exact l _ h⟩
 |Eq=>
  have h:wEq D E M λb=>Dn X.K H Q (.bl b) M:=h;unfold wEq at h;split at h
  .rename_i b e
   obtain⟨d,c⟩:=Ie e m g;exact R0 q s p H _ _ v u Q I w z ⟨d,by rw[c];exact l _ h⟩
  .rcases h with h|h
   .exact h.elim
   rcases h with⟨n,L,T,U⟩|⟨a,b,B,rfl,rfl,U,G,J⟩|h|h
   .exact(T.top I N (by lia) (by assumption) m g w z).1 _ _ ⟨.bl true,H,I,rfl,l _ U⟩
   .obtain rfl:=m.inv;obtain rfl:=g.inv;obtain⟨R,d,f⟩:=N.lst U;obtain⟨us,c,S⟩:=N.lst G;obtain rfl:=S.inv;refine Sj A q s p H _ _ v u Q I w z ⟨_,_,R,rfl,rfl,SqL.of d,SqL.of c,?_⟩;have:R.isEmpty=B.isEmpty:=by cases f<;>rfl
    rw[this];exact l _ J
   .exact h.elim
   .exact h.elim
 |NotEq=>
  have h:wEq D E M λb=>Dn X.K H Q (.bl (!b)) M:=h;unfold wEq at h;split at h
  .rename_i b e
   obtain⟨d,c⟩:=Ie e m g;exact R3 q s p H _ _ v u Q I w z ⟨d,by rw[c];exact l _ h⟩
  .rcases h with h|h
   .exact h.elim
   rcases h with⟨n,L,T,U⟩|⟨a,b,B,rfl,rfl,U,G,J⟩|h|h
   .exact(T.top I N (by lia) (by assumption) m g w z).2 _ _ ⟨.bl false,H,I,rfl,l _ U⟩
   .obtain rfl:=m.inv;obtain rfl:=g.inv;obtain⟨R,d,f⟩:=N.lst U;obtain⟨us,c,S⟩:=N.lst G;obtain rfl:=S.inv;refine Sk A q s p H _ _ v u Q I w z ⟨_,_,R,rfl,rfl,SqL.of d,SqL.of c,?_⟩;have:R.isEmpty=B.isEmpty:=by cases f<;>rfl
    rw[this];exact l _ J
   .exact h.elim
   .exact h.elim
 |In=>
  have h:wIn D E M λb=>Dn X.K H Q (.bl b) M:=h;unfold wIn at h;split at h
  .obtain⟨_,_,rfl,L,f⟩:=g.inv;obtain⟨f1,f2,h⟩:=h;obtain⟨d,O⟩:=Ub f1 m;obtain⟨c,P⟩:=V0 f2 f;exact D8 q s p H _ _ v u Q I w z ⟨_,_,rfl,.inr (SqT.of L),O,P,by rw[d,c];exact l _ h⟩
  .obtain⟨_,_,rfl,L,f⟩:=g.inv;obtain⟨f1,f2,h⟩:=h;obtain⟨d,O⟩:=Ub f1 m;obtain⟨c,P⟩:=V0 f2 f;exact D8 q s p H _ _ v u Q I w z ⟨_,_,rfl,.inl L.sq,O,P,by rw[d,c];exact l _ h⟩
  .obtain rfl:=g.inv;rcases h with⟨B,L,f1,f2,h⟩|⟨o,C,L,T,h⟩
   .obtain⟨R,e,f⟩:=N.lst L;obtain⟨d,O⟩:=Ub f1 m;obtain⟨c,P⟩:=V0 f2 f;exact D8 q s p H _ _ v u Q I w z ⟨_,_,rfl,.inl (SqL.of e),O,P,by rw[d,c];exact l _ h⟩
   .obtain⟨R,e,f,_⟩:=N.dic L;have:=Bu T m;subst this;obtain rfl:u=XE _:=z;refine d_in Z I (DGet.k (k:=C) e) w λs3 I3=>⟨.bl _,H,I3,rfl,?_⟩;rcases VF (k:=C) f with⟨W,Y⟩|⟨x',u',W,Y,_⟩
    .rw[Y];rw[W]at h;exact l _ h
    .rw[Y];rw[W]at h;exact l _ h
  .exact h.elim
 |NotIn=>
  have h:wIn D E M λb=>Dn X.K H Q (.bl (!b)) M:=h;unfold wIn at h;split at h
  .obtain⟨_,_,rfl,L,f⟩:=g.inv;obtain⟨f1,f2,h⟩:=h;obtain⟨d,O⟩:=Ub f1 m;obtain⟨c,P⟩:=V0 f2 f;exact D9 q s p H _ _ v u Q I w z ⟨_,_,rfl,.inr (SqT.of L),O,P,by rw[d,c];exact l _ h⟩
  .obtain⟨_,_,rfl,L,f⟩:=g.inv;obtain⟨f1,f2,h⟩:=h;obtain⟨d,O⟩:=Ub f1 m;obtain⟨c,P⟩:=V0 f2 f;exact D9 q s p H _ _ v u Q I w z ⟨_,_,rfl,.inl L.sq,O,P,by rw[d,c];exact l _ h⟩
  .obtain rfl:=g.inv;rcases h with⟨B,L,f1,f2,h⟩|⟨o,C,L,T,h⟩
   .obtain⟨R,e,f⟩:=N.lst L;obtain⟨d,O⟩:=Ub f1 m;obtain⟨c,P⟩:=V0 f2 f;exact D9 q s p H _ _ v u Q I w z ⟨_,_,rfl,.inl (SqL.of e),O,P,by rw[d,c];exact l _ h⟩
   .obtain⟨R,e,f,_⟩:=N.dic L;have:=Bu T m;subst this;obtain rfl:u=XE _:=z;refine RY Z I (DGet.k (k:=C) e) w λs3 I3=>⟨.bl _,H,I3,rfl,?_⟩;rcases VF (k:=C) f with⟨W,Y⟩|⟨x',u',W,Y,_⟩
    .rw[Y];rw[W]at h;exact l _ h
    .rw[Y];rw[W]at h;exact l _ h
  .exact h.elim
end
def wIx(x y:MV)(M:MH)(Q:QM):Prop:=match x with
 |.tup l=>∃i v,y=.int i/\atI l i=some v/\Q v M
 |.frl l=>∃i v,y=.int i/\atI l i=some v/\Q v M
 |.str z=>∃i c,y=.int i/\z.length<=sizeLine/\atI z.cps.toList i=some c/\Q (.str ⟨#[c]⟩) M
 |.ref a=>(∃l i v,M a=some (.lst l)/\y=.int i/\atI l i=some v/\Q v M)\/(∃j u v,M a=some (.dic j)/\keyM y=some u/\valM j u=some v/\Q v M)\/∃o j u v,M a=some (.fdic o j)/\keyM y=some u/\valM j u=some v/\Q v M
 |_=>False
theorem Iu:Mon2 wIx:=by
 intro x y M Q c m h;unfold wIx at h ⊢;split at h
 .obtain⟨i,v,j,l,u⟩:=h;exact⟨i,v,j,l,m _ _ u⟩
 .obtain⟨i,v,j,l,u⟩:=h;exact⟨i,v,j,l,m _ _ u⟩
 .obtain⟨i,v,j,l,u,w⟩:=h;exact⟨i,v,j,l,u,m _ _ w⟩
 .rcases h with⟨d,i,v,j,l,u,w⟩|⟨z,g,v,j,l,u,w⟩|⟨o,z,g,v,j,l,u,w⟩
  .exact .inl ⟨d,i,v,j,l,u,m _ _ w⟩
  .exact .inr (.inl ⟨z,g,v,j,l,u,m _ _ w⟩)
  .exact .inr (.inr ⟨o,z,g,v,j,l,u,m _ _ w⟩)
 .exact h.elim
theorem RMs.atI{K:X1}(r:RMs K H m v)(e:atI m i=some x):∃u,atI v i=some u/\RM K H x u:=by
 unfold L2.atI at e ⊢;rw[<-r.length];cases q:ixN m.length i with
 |none=>rw[q]at e;cases e
 |some j=>rw[q]at e;exact r.get e
section
variable{X:Cx}
theorem Iv(z:X.A.units+1<cLine):IxR X (λx y H Q=>∃a v,x=.ref a/\DGet H a y (some v)/\Q v H):=by
 intro j l e s L H x y v u Q I m d h c;obtain⟨a,f,rfl,g,q⟩:=h;obtain rfl:v=XE a:=m;exact tail_any (S0 I g) PySem.F.slot_dict_getitem.lookup (RX z I g d λN O p w=>⟨f,H,p,w,q⟩) c
theorem TB(F:X.A.units+1<cLine):IxR X (li2 X.K wIx):=by
 intro j l O s P H x y v u Q I R T h U;obtain⟨S,n,M,Z,W,z,h⟩:=h;unfold wIx at h;split at h
 .obtain⟨i,A,rfl,m,w⟩:=h;obtain rfl:=W.inv;obtain⟨_,_,rfl,d,f⟩:=Z.inv;obtain⟨q,e,r⟩:=f.atI m;exact RE j l O s P H _ _ v u Q I R T ⟨_,_,_,q,rfl,rfl,SqT.of d,e,w _ _ (Kp.refl _) r z⟩ U
 .obtain⟨i,A,rfl,m,w⟩:=h;obtain rfl:=W.inv;obtain⟨_,_,rfl,d,f⟩:=Z.inv;obtain⟨q,e,r⟩:=f.atI m;exact Hi j l O s P H _ _ v u Q I R T ⟨_,_,_,q,rfl,rfl,d.sq,e,w _ _ (Kp.refl _) r z⟩ U
 .obtain⟨i,c,rfl,m,w,p⟩:=h;obtain rfl:=Z.inv;obtain rfl:=W.inv;exact RF j l O s P H _ _ v u Q I R T ⟨_,_,c,rfl,rfl,m,w,p _ _ (Kp.refl _) (.str _) z⟩ U
 .obtain rfl:=Z.inv;rcases h with⟨b,i,A,d,rfl,w,p⟩|⟨C,L,A,d,m,w,p⟩|⟨o,C,L,A,d,m,w,p⟩
  .obtain rfl:=W.inv;obtain⟨B,e,f⟩:=z.lst d;obtain⟨q,G,r⟩:=f.atI w;exact Hi j l O s P H _ _ v u Q I R T ⟨_,_,_,q,rfl,rfl,SqL.of e,G,p _ _ (Kp.refl _) r z⟩ U
  .obtain⟨B,e,f,_⟩:=z.dic d;have D:=Bu m W;rcases VF (k:=L) f with⟨N,Y⟩|⟨J,q,N,Y,E⟩
   .rw[N]at w;cases w
   .rw[N]at w;cases w;have g:=DGet.k (k:=L) e;rw[Y]at g;subst D;exact Iv F j l O s P H _ _ v u Q I R T ⟨_,q,rfl,g,p _ _ (Kp.refl _) E z⟩ U
  .obtain⟨B,e,f,_⟩:=z.fdic d;have D:=Bu m W;rcases VF (k:=L) f with⟨N,Y⟩|⟨J,q,N,Y,E⟩
   .rw[N]at w;cases w
   .rw[N]at w;cases w;have g:DGet H _ (kV L) (valV B L):=.inl ⟨B,L,.inr ⟨o,e⟩,rfl,rfl⟩;rw[Y]at g;subst D;exact Iv F j l O s P H _ _ v u Q I R T ⟨_,q,rfl,g,p _ _ (Kp.refl _) E z⟩ U
 .exact h.elim
end
noncomputable def cutM(j:List MV)(lo l:Option Int):List MV:=(j.drop (HT.sIx j.length 0 lo)).take (HT.sIx j.length j.length l - HT.sIx j.length 0 lo)
theorem RMs.cut{K:X1}(r:RMs K H m v)(lo j:Option Int):RMs K H (cutM m lo j) (cutV v lo j):=by
 unfold cutM cutV;rw[<-r.length];exact(r.drop _).take _
abbrev WS:=MV->Option Int->Option Int->MH->QM->Prop
def wSl:WS:=λx lo l M Q=>match x with
 |.tup j=>Q (.tup (cutM j lo l)) M
 |.ref a=>∃j,M a=some (.lst j)/\∀p,M p=none->Q (.ref p) (updM M p (.lst (cutM j lo l)))
 |.str z=>z.length<=sizeLine/\Q (.str (cutS z lo l)) M
 |_=>False
theorem Iw{x:MV}{lo l:Option Int}{M:MH}{Q u:QM}(j:∀m w,Q m w->u m w)(h:wSl x lo l M Q):wSl x lo l M u:=by
 unfold wSl at h ⊢;split at h
 .exact j _ _ h
 .obtain⟨y,z,g⟩:=h;exact⟨y,z,λp d=>j _ _ (g p d)⟩
 .exact⟨h.1,j _ _ h.2⟩
 .exact h.elim
def liS(K:X1)(w:WS):V->Option Int->Option Int->Hp->VK->Prop:=λx lo l H Q=>∃j M,RM K H j x/\RH K M H/\w j lo l M (Dn K H Q)
section
variable{X:Cx}
set_option tactic.hygienic true in
theorem TC:SlR X (liS X.K wSl):=by
 intro m s g H x v d c lo j f Q I q L N O h;obtain⟨T,M,P,u,h⟩:=h;unfold wSl at h;split at h
 .rename_i w
  obtain⟨_,_,rfl,y,l⟩:=P.inv
  rename_i R
  by_cases hw:HT.sIx w.length 0 lo=0/\HT.sIx w.length w.length j=w.length
  .have e:cutM w lo j=w:=by unfold cutM;rw[hw.1,hw.2,Cv,Nat.sub_zero,List.take_length]
   rw[e]at h;refine Tl m s g H _ v d c lo j f Q I q L N O ⟨_,_,rfl,SqT.of y,by rw[<-l.length];exact hw.1,by rw[<-l.length];exact hw.2,?_⟩
   exact h _ _ (Kp.refl _) (.tup y l) u
  refine Rz m s g H _ v d c lo j f Q I q L N O ⟨_,_,rfl,SqT.of y,by rw[<-l.length];exact hw,λp z=>?_⟩
  have k:=Kp.new z (.tup (cutV R lo j));exact h _ _ k (.tup Uu ((l.cut lo j).mono k)) (u.kept z _)
 .obtain rfl:=P.inv;obtain⟨U,y,h⟩:=h;obtain⟨R,e,l⟩:=u.lst y;refine RI m s g H _ v d c lo j f Q I q L N O ⟨_,_,rfl,SqL.of e,λp z=>?_⟩;have k:=Kp.new z (.lst (cutV R lo j));exact h p (u.free z) _ _ k (.ref p) (u.put k ((l.cut lo j).mono k))
 .obtain rfl:=P.inv;exact Th m s g H _ v d c lo j f Q I q L N O ⟨_,rfl,h.1,h.2 _ _ (Kp.refl _) (.str _) u⟩
 .exact h.elim
end
def tyM(M:MH):MV->Option Ty7
 |.non=>some .none|.bl _=>some .bool|.int _=>some .int|.str _=>some .str|.tup _=>some .tuple
 |.ref a=>match M a with|some (.lst _)=>some .list|some (.dic _)=>some .dict|_=>none
 |_=>none
noncomputable def isTy:Ty7->Ty7->Bool
 |.bool,.int=>true
 |a,b=>decide (a=b)
theorem Dj(K:X1)(T c:Ty7)(j:c≠.none):U6 K (.type T.name) (.type c.name)=some (isTy T c):=by
 cases T<;>cases c<;>first|exact absurd rfl j|with_unfolding_all rfl
theorem Ix{K:X1}(j:RH K M H)(r:RM K H m v)(e:tyM M m=some T):TyOf K H v (.type T.name):=by
 cases r with
 |non=>cases e;exact .non
 |bl b=>cases e;exact .bl b
 |int i=>cases e;exact .int i
 |str x=>cases e;exact .str x
 |tup h _=>cases e;exact .tup h
 |frl _ _=>cases e
 |ty _=>cases e
 |ref a=>
  unfold tyM at e;dsimp only at e;cases q:M a with
  |none=>rw[q]at e;cases e
  |some o=>
   rw[q]at e;cases o with
   |lst w=>cases e;obtain⟨l,h,_⟩:=j.lst q;exact .lst h
   |dic u=>cases e;obtain⟨l,h,_⟩:=j.dic q;exact .dK h
   |ins _ _=>cases e
   |fdic _ _=>cases e
inductive BI where|len|isinst|max|min|sum|abs|int|list|tuple|dict|sorted|dictL|all
  deriving DecidableEq
noncomputable def bLen(u:List MV)(M:MH)(Q:QM):Prop:=match u with
 |[.tup j]=>Q (.int j.length) M
 |[.frl j]=>Q (.int j.length) M
 |[.str z]=>z.length<=sizeLine/\Q (.int z.length) M
 |[.ref a]=>(∃j,M a=some (.lst j)/\Q (.int j.length) M)\/∃l,M a=some (.dic l)/\Q (.int l.length) M
 |_=>False
def bIsi(j:List MV)(M:MH)(Q:QM):Prop:=match j with
 |[x,.ty c]=>∃T,tyM M x=some T/\c≠.none/\Q (.bl (isTy T c)) M
 |[x,.tup [.ty c,.ty d]]=>∃T,tyM M x=some T/\c≠.none/\d≠.none/\Q (.bl (isTy T c||isTy T d)) M
 |_=>False
noncomputable def bMax(l:List MV)(M:MH)(Q:QM):Prop:=match l with
 |[.int i,.int j]=>Q (.int (if j>i then j else i)) M
 |_=>False
noncomputable def bMin(l:List MV)(M:MH)(Q:QM):Prop:=match l with
 |[.int i,.int j]=>Q (.int (if j<i then j else i)) M
 |_=>False
noncomputable def bInt(j:List MV)(M:MH)(Q:QM):Prop:=match j with
 |_=>False
def bLst(l:List MV)(M:MH)(Q:QM):Prop:=match l with
 |[.tup j]=>∀p,M p=none->Q (.ref p) (updM M p (.lst j))
 |[.ref a]=>∃j,M a=some (.lst j)/\∀p,M p=none->Q (.ref p) (updM M p (.lst j))
 |_=>False
noncomputable def bTup(l:List MV)(M:MH)(Q:QM):Prop:=match l with
 |[.ref a]=>∃j,M a=some (.lst j)/\Q (.tup j) M
 |_=>False
noncomputable def prM(p:Key×MV):MV:=.tup [match p.1 with|.inl i=>.int i|.inr x=>.str x,p.2]
def Wx(j:List (Key×MV)):List (Key×MV):=j.foldl (λc z=>putM c z.1 z.2) []
def bDic(u:List MV)(M:MH)(Q:QM):Prop:=match u with
 |[.ref a]=>∃j,M a=some (.dic j)/\∀p,M p=none->Q (.ref p) (updM M p (.dic j))
 |[.tup xs]=>∃l:List (Key×MV),xs=l.map prM/\∀p,M p=none->Q (.ref p) (updM M p (.dic (Wx l)))
 |_=>False
def bDcl(l:List MV)(M:MH)(Q:QM):Prop:=match l with
 |[.ref a]=>∃j:List (Key×MV),M a=some (.lst (j.map prM))/\∀p,M p=none->Q (.ref p) (updM M p (.dic (Wx j)))
 |_=>False
set_option tactic.hygienic true in
theorem Iy{K:X1}:∀{w:List (Key×MV)} {l:List V},RMs K H (w.map prM) l->∃j:List (Key×V),HS H j l/\RKs K H w j:=by
 intro w
 induction w with
 |nil=>intro l h;cases h;exact⟨[],.nil,.nil⟩
 |cons p r y=>
  obtain⟨k,x⟩:=p;intro l h;have h:RMs K H (prM (k,x)::r.map prM) l:=h;cases h with
  |cons a u=>
   obtain⟨j,z,m⟩:=y u;obtain⟨_,_,rfl,e,t⟩:=a.inv;cases t with
   |cons g d=>
    cases d with
    |cons c f=>
     cases f
     rename_i L q
     refine⟨(k,q)::j,.cons ⟨_,rfl,?_⟩ z,.cons c m⟩;rw[e];cases k<;>cases g<;>rfl
theorem Dk{K:X1}:∀{l:List (Key×MV)} {j:List (Key×V)} {c:List (Key×MV)} {u:List (Key×V)},RKs K H l j->RKs K H c u->(c.map (·.1)).Nodup->
  RKs K H (l.foldl (λc z=>putM c z.1 z.2) c) (j.foldl (λc z=>putK c z.1 z.2) u)/\((l.foldl (λc z=>putM c z.1 z.2) c).map (·.1)).Nodup
 |_,_,_,_,.nil,h,nd=>⟨h,nd⟩
 |_,_,_,_,.cons r t,h,nd=>by
  obtain⟨a,b⟩:=Tw r nd h;have z:=Dk t a b;exact z
noncomputable def bAll(j:List MV)(M:MH)(Q:QM):Prop:=match j with
 |[.ref a]=>∃bs:List Bool,M a=some (.lst (bs.map MV.bl))/\Q (.bl (bs.all id)) M
 |_=>False
theorem RMs.bls_of{K:X1}{H:Hp}{bs:List Bool}{j:List V}(h:RMs K H (bs.map MV.bl) j):j=bs.map V.bl:=h.map_of λ_ _ x=>by cases x;rfl
def wBi(f:BI)(j:List MV)(M:MH)(Q:QM):Prop:=match f with
 |.len=>bLen j M Q
 |.isinst=>bIsi j M Q
 |.max=>bMax j M Q
 |.min=>bMin j M Q
 |.sum=>False
 |.abs=>False
 |.int=>bInt j M Q
 |.list=>bLst j M Q
 |.tuple=>bTup j M Q
 |.dict=>bDic j M Q
 |.sorted=>False
 |.dictL=>bDcl j M Q
 |.all=>bAll j M Q
theorem TD:MonW bLen:=by
 intro y M Q z j h;unfold bLen at h ⊢;split at h
 .exact j _ _ h
 .exact j _ _ h
 .exact⟨h.1,j _ _ h.2⟩
 .rcases h with⟨l,u,w⟩|⟨l,u,w⟩
  .exact .inl ⟨l,u,j _ _ w⟩
  .exact .inr ⟨l,u,j _ _ w⟩
 .exact h.elim
theorem Iz(f:BI):MonW (wBi f):=by
 intro j M Q y w h;cases f
 .exact TD w h
 .have h:bIsi j M Q:=h;show bIsi j M y;unfold bIsi at h ⊢;split at h
  .obtain⟨T,l,u,g⟩:=h;exact⟨T,l,u,w _ _ g⟩
  .obtain⟨T,l,u,g,d⟩:=h;exact⟨T,l,u,g,w _ _ d⟩
  .exact h.elim
 .have h:bMax j M Q:=h;show bMax j M y;unfold bMax at h ⊢;split at h
  .exact w _ _ h
  .exact h.elim
 .have h:bMin j M Q:=h;show bMin j M y;unfold bMin at h ⊢;split at h
  .exact w _ _ h
  .exact h.elim
 .exact XS h
 .exact XS h
 .have h:bInt j M Q:=h;show bInt j M y;unfold bInt at h ⊢;split at h
  .exact h.elim
 .have h:bLst j M Q:=h;show bLst j M y;unfold bLst at h ⊢;split at h
  .exact λp z=>w _ _ (h p z)
  .obtain⟨m,l,u⟩:=h;exact⟨m,l,λp z=>w _ _ (u p z)⟩
  .exact h.elim
 .have h:bTup j M Q:=h;show bTup j M y;unfold bTup at h ⊢;split at h
  .obtain⟨m,l,u⟩:=h;exact⟨m,l,w _ _ u⟩
  .exact h.elim
 .have h:bDic j M Q:=h;show bDic j M y;unfold bDic at h ⊢;split at h
  .obtain⟨m,l,u⟩:=h;exact⟨m,l,λp z=>w _ _ (u p z)⟩
  .obtain⟨m,l,u⟩:=h;exact⟨m,l,λp z=>w _ _ (u p z)⟩
  .exact h.elim
 .exact XS h
 .have h:bDcl j M Q:=h;show bDcl j M y;unfold bDcl at h ⊢;split at h
  .obtain⟨c,l,u⟩:=h;exact⟨c,l,λp z=>w _ _ (u p z)⟩
  .exact h.elim
 .have h:bAll j M Q:=h;show bAll j M y;unfold bAll at h ⊢;split at h
  .obtain⟨bs,l,u⟩:=h;exact⟨bs,l,w _ _ u⟩
  .exact h.elim
noncomputable def BI.val:BI->Value
 |.len=>.builtin "len"|.isinst=>.builtin "isinstance"|.max=>.builtin "max"|.min=>.builtin "min"|.sum=>.builtin "sum"|.abs=>.builtin "abs"
 |.int=>.type "int"|.list=>.type "list"|.tuple=>.type "tuple"|.dict=>.type "dict"|.sorted=>.builtin "sorted"|.dictL=>.type "dict"|.all=>.builtin "all"
section
variable{X:Cx}
theorem RMs.one{K:X1}(r:RMs K H [m] vs):∃v,vs=[v]/\RM K H m v:=by
 obtain⟨_,_,rfl,a,b⟩:=r.inv;cases b;exact⟨_,rfl,a⟩
theorem RMs.two{K:X1}(r:RMs K H [m,n] vs):∃v w,vs=[v,w]/\RM K H m v/\RM K H n w:=by
 obtain⟨_,_,rfl,a,b⟩:=r.inv;obtain⟨w,rfl,c⟩:=b.one;exact⟨_,_,rfl,a,c⟩
theorem TF:YI X (.type "dict") (fun l H Q=>∃a j,l=[.ref a]/\H a=some (.dK j)/\∀p,H p=none->Q (.ref p) (upd H p (.dK j))):=by
 intro g s d H l c Q I r h;obtain⟨a,j,rfl,w,q⟩:=h;obtain⟨u,rfl,y⟩:=U9 r;cases y;exact S3 I (.inl w) λp f z m=>⟨.ref p,_,m,rfl,q p z⟩
theorem TH(P:X.calm=true)(f:BI):YI X f.val (liW X.K (wBi f)):=by
 intro m s g H R d Q I r h;obtain⟨L,M,c,j,h⟩:=h;cases f with
 |len=>
  have h:bLen L M (Dn X.K H Q):=h;unfold bLen at h;split at h
  .obtain⟨v,rfl,a⟩:=c.one;obtain⟨_,_,rfl,l,u⟩:=a.inv;exact Da m s g H _ d Q I r ⟨_,_,rfl,.inr (SqT.of l),by rw[<-u.length];exact h _ _ (Kp.refl _) (.int _) j⟩
  .obtain⟨v,rfl,a⟩:=c.one;obtain⟨_,_,rfl,l,u⟩:=a.inv;exact Da m s g H _ d Q I r ⟨_,_,rfl,.inl l.sq,by rw[<-u.length];exact h _ _ (Kp.refl _) (.int _) j⟩
  .obtain⟨v,rfl,a⟩:=c.one;obtain rfl:=a.inv;exact RJ m s g H _ d Q I r ⟨_,rfl,h.1,h.2 _ _ (Kp.refl _) (.int _) j⟩
  .obtain⟨v,rfl,a⟩:=c.one;obtain rfl:=a.inv;rcases h with⟨R,l,h⟩|⟨U,l,h⟩
   .obtain⟨N,e,u⟩:=j.lst l;exact Da m s g H _ d Q I r ⟨_,_,rfl,.inl (SqL.of e),by rw[<-u.length];exact h _ _ (Kp.refl _) (.int _) j⟩
   .obtain⟨N,e,u,_⟩:=j.dic l;exact S9 m s g H _ d Q I r ⟨_,_,rfl,e,by rw[<-u.length];exact h _ _ (Kp.refl _) (.int _) j⟩
  .exact h.elim
 |isinst=>
  have h:bIsi L M (Dn X.K H Q):=h;unfold bIsi at h;split at h
  .obtain⟨v,w,rfl,a,b⟩:=c.two;obtain rfl:=b.inv;obtain⟨T,l,O,W⟩:=h;exact Sc m s g H _ d Q I r ⟨_,_,_,_,rfl,Ix j a l,Dj _ _ _ O,W _ _ (Kp.refl _) (.bl _) j⟩
  .obtain⟨v,w,rfl,a,b⟩:=c.two;obtain⟨T,l,O,W,B⟩:=h;obtain⟨_,_,rfl,C,D⟩:=b.inv;cases D with
   |cons u E=>
    cases E with
    |cons F G=>
     cases G;cases u;cases F;exact Td m s g H _ d Q I r ⟨_,_,_,_,_,_,_,rfl,C,Ix j a l,Dj _ _ _ O,Dj _ _ _ W,B _ _ (Kp.refl _) (.bl _) j⟩
  .exact h.elim
 |max=>
  have h:bMax L M (Dn X.K H Q):=h;unfold bMax at h;split at h
  .obtain⟨v,w,rfl,a,b⟩:=c.two;obtain rfl:=a.inv;obtain rfl:=b.inv;exact Rg P m s g H _ d Q I r ⟨_,_,rfl,h _ _ (Kp.refl _) (.int _) j⟩
  .exact h.elim
 |min=>
  have h:bMin L M (Dn X.K H Q):=h;unfold bMin at h;split at h
  .obtain⟨v,w,rfl,a,b⟩:=c.two;obtain rfl:=a.inv;obtain rfl:=b.inv;exact Rh P m s g H _ d Q I r ⟨_,_,rfl,h _ _ (Kp.refl _) (.int _) j⟩
  .exact h.elim
 |sum=>exact XS h
 |abs=>exact XS h
 |int=>
  have h:bInt L M (Dn X.K H Q):=h;unfold bInt at h;split at h
  .exact h.elim
 |list=>
  have h:bLst L M (Dn X.K H Q):=h;unfold bLst at h;split at h
  .obtain⟨v,rfl,a⟩:=c.one;obtain⟨_,_,rfl,l,u⟩:=a.inv;refine Hl m s g H _ d Q I r ⟨_,_,rfl,.inr (SqT.of l),λp y=>?_⟩;have k:=λz=>Kp.new y (.lst z);exact h p (j.free y) _ _ (k _) (.ref p) (j.put (k _) (u.mono (k _)))
  .obtain⟨v,rfl,a⟩:=c.one;obtain rfl:=a.inv;obtain⟨R,l,h⟩:=h;obtain⟨N,e,u⟩:=j.lst l;refine Hl m s g H _ d Q I r ⟨_,_,rfl,.inl (SqL.of e),λp y=>?_⟩;have k:=Kp.new y (.lst N);exact h p (j.free y) _ _ k (.ref p) (j.put k (u.mono k))
  .exact h.elim
 |tuple=>
  have h:bTup L M (Dn X.K H Q):=h;unfold bTup at h;split at h
  .obtain⟨v,rfl,a⟩:=c.one;obtain rfl:=a.inv;obtain⟨R,l,h⟩:=h;obtain⟨N,e,u⟩:=j.lst l;refine RK m s g H _ d Q I r ⟨_,_,rfl,.inl ⟨SqL.of e,λp y=>?_⟩⟩;have k:=Kp.new y (.tup N);exact h _ _ k (.tup Uu (u.mono k)) (j.kept y _)
  .exact h.elim
 |dict=>
  have h:bDic L M (Dn X.K H Q):=h;unfold bDic at h;split at h
  .obtain⟨v,rfl,a⟩:=c.one;obtain rfl:=a.inv;obtain⟨U,l,h⟩:=h;obtain⟨N,e,u,J⟩:=j.dic l;refine TF m s g H _ d Q I r ⟨_,_,rfl,e,λp y=>?_⟩;have k:=Kp.new y (.dK N);exact h p (j.free y) _ _ k (.ref p) (j.put k ⟨u.mono k,J⟩)
  .obtain⟨v,rfl,a⟩:=c.one;obtain⟨S,rfl,O⟩:=h;obtain⟨_,_,rfl,e,u⟩:=a.inv;obtain⟨q,pv,Y⟩:=Iy u;refine HU P m s g H _ d Q I r ⟨_,q,_,rfl,.inr e,pv,λp y=>?_⟩;have k:=Kp.new y (.dK (VE q));obtain⟨Z,A⟩:=Dk Y (.nil:RKs X.K H [] []) (by simp)
   exact O p (j.free y) _ _ k (.ref p) (j.put k ⟨Z.mono k,A⟩)
  .exact h.elim
 |sorted=>exact XS h
 |dictL=>
  have h:bDcl L M (Dn X.K H Q):=h;unfold bDcl at h;split at h
  .obtain⟨v,rfl,a⟩:=c.one;obtain rfl:=a.inv;obtain⟨S,l,O⟩:=h;obtain⟨N,e,u⟩:=j.lst l;obtain⟨q,pv,Y⟩:=Iy u;refine HU P m s g H _ d Q I r ⟨_,q,N,rfl,.inl e,pv,λp y=>?_⟩;have k:=Kp.new y (.dK (VE q));obtain⟨Z,A⟩:=Dk Y (.nil:RKs X.K H [] []) (by simp)
   exact O p (j.free y) _ _ k (.ref p) (j.put k ⟨Z.mono k,A⟩)
  .exact h.elim
 |all=>
  have h:bAll L M (Dn X.K H Q):=h;unfold bAll at h;split at h
  .obtain⟨v,rfl,a⟩:=c.one;obtain rfl:=a.inv;obtain⟨bs,l,O⟩:=h;obtain⟨N,e,u⟩:=j.lst l;have:=u.bls_of;subst this;exact T2 P m s g H _ d Q I r ⟨_,bs,rfl,SqL.of e,O _ _ (Kp.refl _) (.bl _) j⟩
  .exact h.elim
end
theorem RMs.strs{K:X1}:∀j:List Str,RMs K H (j.map MV.str) (j.map V.str)
 |[]=>.nil
 |n::r=>.cons (.str n) (RMs.strs r)
theorem RMs.strs_of{K:X1}{H:Hp}{j:List Str}{l:List V}(h:RMs K H (j.map MV.str) l):l=j.map V.str:=h.map_of λ_ _ x=>by cases x;rfl
theorem IA{K:X1}(f:Nat->Int):∀l:List Nat,RMs K H (l.map λi=>MV.int (f i)) (l.map λi=>V.int (f i))
 |[]=>.nil
 |_::r=>.cons (.int _) (IA f r)
theorem TJ{K:X1}(n:Nat):RMs K H ((XI n).map λi=>MV.int (i:Nat)) ((XI n).map λi=>V.int (i:Nat)):=IA (λi=>(i:Int)) _
inductive B2 where|ssrt|lset|tset|lrng
  deriving DecidableEq
noncomputable def B2.out:B2->String
 |.ssrt=>"sorted"
 |.lset=>"len"
 |.tset=>"len"
 |.lrng=>"list"
noncomputable def B2.inn:B2->String
 |.ssrt=>"set"
 |.lset=>"set"
 |.tset=>"set"
 |.lrng=>"range"
noncomputable def B2.outV:B2->Value
 |.ssrt=>.builtin "sorted"
 |.lset=>.builtin "len"
 |.tset=>.builtin "len"
 |.lrng=>.type "list"
def wB2(f:B2)(v:MV)(M:MH)(Q:QM):Prop:=match f with
 |.ssrt=>∃(a:Addr) (j N:List Str),v=.ref a/\M a=some (.lst (j.map MV.str))/\j.length+1<scanBound/\(∀z∈j,z∈N)/\N.length<64/\
   ∀p (l:List Str),M p=none->l.Nodup->(∀y,y∈l↔y∈j)->sortedS l=true->Q (.ref p) (updM M p (.lst (l.map MV.str)))
 |.lset=>False
 |.tset=>False
 |.lrng=>∃n:Nat,v=.int n/\n<=1000000/\∀p,M p=none->Q (.ref p) (updM M p (.lst ((XI n).map λi=>MV.int (i:Nat))))
theorem IB(f:B2):Mon1 (wB2 f):=by
 intro v M Q P w h;cases f with
 |ssrt=>
  obtain⟨a,y,N,j,l,u,z,m,g⟩:=h;exact⟨a,y,N,j,l,u,z,m,λp d c q e L=>w _ _ (g p d c q e L)⟩
 |lset=>exact XS h
 |tset=>exact XS h
 |lrng=>
  obtain⟨n,j,l,u⟩:=h;exact⟨n,j,l,λp O=>w _ _ (u p O)⟩
section
variable{X:Cx}
theorem TK(g:X.calm=true)(f:B2):Ww X f.outV (.type f.inn) (li1 X.K (wB2 f)):=by
 intro d s c H x u Q I r h;obtain⟨m,M,q,j,h⟩:=h;cases f with
 |ssrt=>
  obtain⟨a,L,N,rfl,w,y,O,P,R⟩:=h;obtain rfl:=q.inv;obtain⟨Z,e,T⟩:=j.lst w;have:=T.strs_of;subst this;refine SW g d s c H _ u Q I r ⟨_,L,N,rfl,SqL.of e,y,O,P,λp z l U W Y=>?_⟩;have k:=Kp.new l (.lst (z.map V.str));exact R p z (j.free l) U W Y _ _ k (.ref p) (j.put k (RMs.strs z))
 |lset=>exact XS h
 |tset=>exact XS h
 |lrng=>
  obtain⟨n,rfl,w,y⟩:=h;obtain rfl:=q.inv;refine Tj g d s c H _ u Q I r ⟨n,rfl,w,λp l=>?_⟩;have k:=Kp.new l (.lst ((XI n).map λi=>V.int (i:Nat)));exact y p (j.free l) _ _ k (.ref p) (j.put k (TJ n))
end
inductive MT where|append|extend|join|index
  deriving DecidableEq
def wMt(m:MT)(a:Addr)(g:List MV)(M:MH)(Q:QM):Prop:=∃l,M a=some (.lst l)/\match m,g with
 |.append,[y]=>l.length<sizeLine/\Q .non (updM M a (.lst (l++[y])))
 |.extend,[.ref b]=>∃u,M b=some (.lst u)/\l.length+u.length<=sizeLine/\Q .non (updM M a (.lst (l++u)))
 |.index,[.tup (.str z::r)]=>∃j:Nat,l[j]?=some (.tup (.str z::r))/\(∀y∈r,∃p,y=.ref p)/\(∀(i:Nat)y,l[i]?=some y->i≠j->∃w d,y=.tup (.str w::d)/\w≠z)/\Q (.int j) M
 |_,_=>False
def wMl(m:MT)(x:MV)(j:List MV)(M:MH)(Q:QM):Prop:=match x with
 |.ref a=>wMt m a j M Q
 |_=>False
noncomputable def wMd(m:MT)(x:MV)(u:List MV)(M:MH)(Q:QM):Prop:=match m with
 |.join=>∃j b l,x=.str j/\u=[.ref b]/\M b=some (.lst (l.map MV.str))/\l.toArray.foldl (λn z=>n+z.length+j.length) 0<=sizeLine/\(ZL j l).length<=sizeLine/\Q (.str (ZL j l)) M
 |_=>False
noncomputable def MT.isL:MT->Bool
 |.join=>false|_=>true
noncomputable def MT.ty:MT->String
 |.join=>"str"|_=>"list"
noncomputable def mtOk(m:MT)(x:MV)(M:MH):Prop:=match m with
 |.join=>∃z,x=.str z
 |_=>∃a j,x=.ref a/\M a=some (.lst j)
def wMts(m:MT)(x:MV)(j:List MV)(M:MH)(Q:QM):Prop:=match m with
 |.join=>wMd .join x j M Q
 |m=>wMl m x j M Q
theorem IC(h:m.isL=true):wMts m x vs M Q=wMl m x vs M Q:=by cases m<;>first|rfl|cases h
theorem ID(h:m.isL=false):wMts m x vs M Q=wMd m x vs M Q:=by cases m<;>first|rfl|cases h
theorem TL(l:∀m u,Q m u->Q' m u)(h:wMl m a vs M Q):wMl m a vs M Q':=by
 cases a<;>try exact h.elim
 obtain⟨w,y,h⟩:=h;refine⟨w,y,?_⟩;split at h
 .exact⟨h.1,l _ _ h.2⟩
 .obtain⟨z,a,b,c⟩:=h;exact⟨z,a,b,l _ _ c⟩
 .obtain⟨j,a,b,c,d⟩:=h;exact⟨j,a,b,c,l _ _ d⟩
 .exact h.elim
theorem TM(u:∀m l,Q m l->Q' m l)(h:wMd m x vs M Q):wMd m x vs M Q':=by
 cases m<;>try exact h.elim
 .obtain⟨j,b,w,y,z,g,d,c,f⟩:=h;exact⟨j,b,w,y,z,g,d,c,u _ _ f⟩
theorem Dl{m:MT}{a:MV}{j:List MV}{M:MH}{Q l:QM}(u:∀m w,Q m w->l m w)(h:wMts m a j M Q):wMts m a j M l:=by
 cases e:m.isL
 .rw[ID e]at h ⊢;exact TM u h
 .rw[IC e]at h ⊢;exact TL u h
noncomputable def MT.id:MT->String
 |.join=>"str.join"
 |.append=>"list.append"|.extend=>"list.extend"|.index=>"list.index"
def liM(K:X1)(w:MV->List MV->MH->QM->Prop):V->List V->Hp->VK->Prop:=λx u H Q=>∃j l M,RM K H j x/\RMs K H l u/\RH K M H/\w j l M (Dn K H Q)
section
variable{X:Cx}
theorem Dm{K:X1}{H:Hp}:∀{r:List MV} {v:List V},RMs K H r v->(∀y∈r,∃p,y=.ref p)->∃j:List Addr,r=j.map MV.ref/\v=j.map V.ref
 |[],_,.nil,_=>⟨[],rfl,rfl⟩
 |_::_,_,.cons a b,h=>by
  obtain⟨p,rfl⟩:=h _ (XY ..);obtain rfl:=a.inv;obtain⟨j,rfl,rfl⟩:=Dm b λy l=>h y (XU _ l);exact⟨p::j,rfl,rfl⟩
theorem IF{K:X1}{H:Hp}:∀{r:List MV} {v:List V},RMs K H r v->(∀y∈r,∃z s,y=.tup (.str z::s))->∃j:List Addr,v=j.map V.ref
 |[],_,.nil,_=>⟨[],rfl⟩
 |_::_,_,.cons a b,h=>by
  obtain⟨z,s,rfl⟩:=h _ (XY ..);obtain⟨j,rfl⟩:=IF b λy l=>h y (XU _ l);cases a with
  |tup _ _=>exact⟨_::j,rfl⟩
theorem TN(hu:X.A.units+1<cLine)(m:MT):MtR X m.id (liM X.K (wMl m)):=by
 intro W s Y H x xs v L Q I Z A h;obtain⟨mx,ms,M,r1,B,O,h⟩:=h;cases r1<;>try exact h.elim
 obtain⟨ys,C,h⟩:=h;obtain⟨n,e,l⟩:=O.lst C;have N:∀o,Kp H (upd H _ o):=λo=>Kp.upd e rfl o;split at h
 .obtain⟨w,rfl,D⟩:=B.one;exact Hn W s Y H _ _ v L Q I Z A ⟨_,n,w,rfl,rfl,e,by rw[<-l.length];exact h.1,h.2 _ _ (N _) .non (O.put (N _) ((l.append (.cons D .nil)).mono (N _)))⟩
 .obtain⟨w,rfl,D⟩:=B.one;obtain rfl:=D.inv;obtain⟨zs,a,b,c⟩:=h;obtain⟨ws,g,q2⟩:=O.lst a;exact RU W s Y H _ _ v L Q I Z A ⟨_,_,n,ws,rfl,rfl,e,g,by rw[<-l.length,<-q2.length];exact b,c _ _ (N _) .non (O.put (N _) ((l.append q2).mono (N _)))⟩
 .obtain⟨j,E,hr,hn,f⟩:=h;obtain⟨u,rfl,ru⟩:=B.one;obtain⟨as,rfl⟩:=IF l λy hy=>by
   obtain⟨i,P,rfl⟩:=Y3 hy;by_cases c:i=j
   .subst c;rw[X6 P]at E;exact⟨_,_,Yo E⟩
   .obtain⟨F,U,G,_⟩:=hn i _ (X6 P) c;exact⟨F,U,G⟩
  obtain⟨u',g,U⟩:=l.get E;have d:∀{z:Str} {r:List MV} {w:V},RM X.K H (.tup (.str z::r)) w->∃p L,w=.ref p/\H p=some (.tup (.str z::L))/\RMs X.K H r L:=λh=>by
   cases h with
   |tup C h2=>cases h2 with
    |cons h3 h4=>
     obtain rfl:=h3.inv;exact⟨_,_,rfl,C,h4⟩
  obtain⟨b,us1,rfl,hb,rb⟩:=d ru;obtain⟨pj,us2,rfl,hp,rp⟩:=d U;obtain⟨bs,rfl,rfl⟩:=Dm rb hr;obtain⟨cs,ec,rfl⟩:=Dm rp hr;obtain rfl:bs=cs:=(List.map_inj_right (λa b z=>by cases z;rfl)).mp ec
  refine To hu W s Y H _ _ v L Q I Z A ⟨_,b,as,_,_,j,pj,rfl,rfl,e,hb,λv hv=>by obtain⟨p,_,rfl⟩:=Xt.mp hv;exact⟨p,rfl⟩,?_,hp,λi p P ne=>?_,f _ _ (Kp.refl _) (.int _) O⟩
  .rw[Xj]at g;cases ea:as[j]? with
   |none=>rw[ea]at g;cases g
   |some q=>rw[ea]at g;cases g;rfl
  .have hl:=l.length;rw[X5]at hl;have R:i<ys.length:=by rw[hl];exact(Xz.mp P).1
   obtain⟨F,U,G,J⟩:=hn i _ (X6 R) ne;obtain⟨w',e3,T⟩:=l.get (X6 R);rw[G]at T;obtain⟨p',us3,rfl,S,_⟩:=d T;rw[Xj,P]at e3;cases e3;exact⟨F,us3,S,J⟩
 .exact h.elim
theorem IG{K:X1}{H:Hp}:∀{j:List Str} {l:List V},RMs K H (j.map MV.str) l->l=j.map V.str
 |[],_,.nil=>rfl
 |x::j,_,.cons r t=>by cases r;rw[IG t];rfl
theorem TQ(T:X.A.units+1<cLine)(m:MT):MtR X m.id (liM X.K (wMd m)):=by
 intro u s y H x U v z Q I g d h;obtain⟨W,Y,M,c,f,l,h⟩:=h;cases m<;>try exact h.elim
 .obtain⟨j,b,p,rfl,rfl,L,N,O,P⟩:=h;obtain rfl:=c.inv;obtain⟨w,rfl,R⟩:=f.one;obtain rfl:=R.inv;obtain⟨Z,e,q⟩:=l.lst L;have:=IG q;subst this;exact Sw u s y H _ _ v z Q I g d ⟨j,b,p,rfl,rfl,SqL.of e,N,O,P _ _ (Kp.refl _) (.str _) l⟩
theorem II(j:X.A.units+1<cLine)(m:MT):MtR X m.id (liM X.K (wMts m)):=by
 intro l s u H x w v y Q I z g h;obtain⟨d,c,M,f,q,p,h⟩:=h;cases e:m.isL
 .rw[ID e]at h;exact TQ j m l s u H x w v y Q I z g ⟨d,c,M,f,q,p,h⟩
 .rw[IC e]at h;exact TN j m l s u H x w v y Q I z g ⟨d,c,M,f,q,p,h⟩
end
def wPut(o i v:MV)(M:MH)(Q:MH->Prop):Prop:=match o with
 |.ref a=>(∃u k j,M a=some (.lst u)/\i=.int k/\ixN u.length k=some j/\Q (updM M a (.lst (u.set j v))))\/∃l w,M a=some (.dic l)/\keyM i=some w/\l.length<sizeLine/\Q (updM M a (.dic (putM l w v)))
 |_=>False
theorem TR{o i v:MV}{M:MH}{Q m:MH->Prop}(g:∀d,Q d->m d)(h:wPut o i v M Q):wPut o i v M m:=by
 cases o<;>try exact h.elim
 rcases h with⟨c,k,j,l,u,w,y⟩|⟨z,f,l,u,w,y⟩
 .exact .inl ⟨c,k,j,l,u,w,g _ y⟩
 .exact .inr ⟨z,f,l,u,w,g _ y⟩
section
variable{X:Cx}
end
end L2
namespace L2
set_option genInjectivity false
set_option genCtorIdx false
open PySem PySem.Spec PyProof.Rows
mutual
inductive ITg where|nm (i:Nat)|tup (ts:ITgs)
inductive ITgs where|nil|cons (t:ITg)(ts:ITgs)
end
mutual
inductive IE where
 |var (i:Nat)
 |int (i:Int)|str (x:Str)|bl (b:Bool)|non
 |glb (x:Str)(i:Int)
 |ty (c:Ty7)
 |bin (op:Uj)(a b:IE)
 |neg (a:IE)
 |not (a:IE)
 |cmp (op:CmpOp)(a b:IE)
 |chn (op op':CmpOp)(a b c:IE)
 |and (a b:IE)
 |or (a b:IE)
 |ife (c a b:IE)
 |tup (es:IEs)
 |lst (es:IEs)
 |dic
 |ix (a b:IE)
 |sl (a:IE)(lo hi:IO)
 |call (j:Nat)(e:IE)(es:IEs)
 |bi (f:BI)(e:IE)(es:IEs)
 |b2 (f:B2)(e:IE)
 |mt (m:MT)(o:IE)(es:IEs)
 |comp (own:List Str)(fr:List Nat)(src:ISr)(tg:ITg)(test:IO)(elt:IE)
 |fld (c:Str)(o:IE)(f:Str)
 |mcall (j:Nat)(c m:Str)(o:IE)(es:IEs)
 |make (j:Nat)(c:Str)(e:IE)(es:IEs)
 |disp (ps:IPs)
 |mxd (e:IE)
 |st3 (e:IE)
inductive IPs where|nil|cons (k v:IE)(r:IPs)
inductive IEs where|nil|cons (e:IE)(es:IEs)
inductive IO where|none|some (e:IE)
inductive ISr where|seq (e:IE)|rng (e:IE)|rng2 (a b:IE)
end
def wSt3(v:MV)(M:MH)(Q:QM):Prop:=∃(a:Addr) (j:List MV),v=.ref a/\M a=some (.lst j)/\∀p,M p=none->Q (.ref p) (updM M p (.lst (st3 j)))
theorem TU(j:∀v M,Q v M->Q' v M)(h:wSt3 v M Q):wSt3 v M Q':=by
 obtain⟨a,l,u,w,y⟩:=h;exact⟨a,l,u,w,λp z=>j _ _ (y p z)⟩
noncomputable def wMxd(v:MV)(M:MH)(Q:QM):Prop:=∃(a:Addr) (j:List Int),v=.ref a/\M a=some (.lst (j.map MV.int))/\∀m,(j=[]/\m=0\/m∈j/\∀i∈j,i<=m)->Q (.int m) M
theorem TV(j:∀v M,Q v M->Q' v M)(h:wMxd v M Q):wMxd v M Q':=by
 obtain⟨a,l,u,w,y⟩:=h;exact⟨a,l,u,w,λm z=>j _ _ (y m z)⟩
inductive Src where|tup (xs:List MV)|lst (a:Addr)(xs:List MV)|rng (lo:Int)(n:Nat)|str (x:Str)
noncomputable def Src.items:Src->List MV
 |.tup xs=>xs
 |.lst _ xs=>xs
 |.rng lo n=>(XI n).map λi=>.int (lo+(i:Nat))
 |.str x=>x.cps.toList.map λc=>.str ⟨#[c]⟩
def Src.ok(M:MH):Src->Prop
 |.lst a xs=>M a=some (.lst xs)
 |_=>True
def Src.okF(M:MH):Src->Prop
 |.lst a xs=>M a=some (.lst xs)
 |_=>True
def Src.okT(M:MH):Src->Prop
 |_=>True
def Src.thaw(M:MH):Src->MH
 |_=>M
noncomputable def Src.len:Src->Nat
 |.tup xs=>xs.length
 |.lst _ xs=>xs.length
 |.rng _ n=>n
 |.str x=>x.cps.size
theorem Src.items_len(S:Src):S.items.length=S.len:=by cases S<;>simp[Src.items,Src.len]
abbrev SpM:=List MV->MH->QM->Prop
abbrev TSm:=Sm->MH->(Src->MH->Prop)->Prop
mutual
def wTg:ITg->MV->Sm->(Sm->Prop)->Prop
 |.nm i,v,σ,Q=>Q (σ.set i (some v))
 |.tup ts,v,σ,Q=>∃xs,v=.tup xs/\wTgs ts xs σ Q
def wTgs:ITgs->List MV->Sm->(Sm->Prop)->Prop
 |.nil,xs,σ,Q=>xs=[]/\Q σ
 |.cons t ts,xs,σ,Q=>∃v r,xs=v::r/\wTg t v σ λj=>wTgs ts r j Q
end
noncomputable def sCm(own:List Str)(j:List Nat)(l:Sm):Sm:=own.map (λ_=>none)++j.map (λi=>l.getD i none)
noncomputable def onV(o:Option (Option MV))(k:MV->Prop):Prop:=match o with
 |some (some v)=>k v
 |_=>False
theorem TW{k:MV->Prop}:onV o k=∃v,o=some (some v)/\k v:=by
 refine propext ⟨λh=>?_,fun⟨v,e,h⟩=>by subst e;exact h⟩
 match o,h with
 |some (some v),h=>exact⟨v,rfl,h⟩
noncomputable def onB(x:MV)(k:Bool->Prop):Prop:=match x with
 |.bl c=>k c
 |_=>False
theorem V1{k:Bool->Prop}:onB x k=∃c,x=.bl c/\k c:=by
 refine propext ⟨λh=>?_,fun⟨v,e,h⟩=>by subst e;exact h⟩
 cases x<;>first|exact⟨_,rfl,h⟩|exact h.elim
noncomputable def onF(o:Option (Str×SpM))(k:SpM->Prop):Prop:=match o with
 |some p=>k p.2
 |none=>False
theorem TY{k:SpM->Prop}:onF o k=∃f j,o=some (f,j)/\k j:=by
 refine propext ⟨λh=>?_,fun⟨f,v,e,h⟩=>by subst e;exact h⟩
 match o,h with
 |some (f,j),h=>exact⟨f,j,rfl,h⟩
mutual
def wE(Φ:List (Str×SpM)):IE->TEm
 |.var i,σ,M,Q=>onV σ[i]? λv=>Q v M
 |.int i,_,M,Q=>Q (.int i) M
 |.str x,_,M,Q=>Q (.str x) M
 |.bl b,_,M,Q=>Q (.bl b) M
 |.non,_,M,Q=>Q .non M
 |.glb _ i,_,M,Q=>Q (.int i) M
 |.ty c,_,M,Q=>Q (.ty c) M
 |.bin op a b,σ,M,Q=>wE Φ a σ M λx M1=>wE Φ b σ M1 λy M2=>wBin op x y M2 Q
 |.neg a,σ,M,Q=>wE Φ a σ M λx M1=>∃i,x=.int i/\Q (.int (-i)) M1
 |.not a,σ,M,Q=>wE Φ a σ M λx M1=>onB x λb=>Q (.bl (!b)) M1
 |.cmp op a b,σ,M,Q=>wE Φ a σ M λx M1=>wE Φ b σ M1 λy M2=>wCmp op x y M2 Q
 |.chn op op' a b c,σ,M,Q=>wE Φ a σ M λx M1=>wE Φ b σ M1 λy M2=>wCmp op x y M2 λz g=>onB z λk=>(if k=true then wE Φ c σ g λw q=>wCmp op' y w q Q else Q (.bl false) g)
 |.and a b,σ,M,Q=>wE Φ a σ M λx M1=>onB x λc=>(if c=true then wE Φ b σ M1 Q else Q (.bl false) M1)
 |.or a b,σ,M,Q=>wE Φ a σ M λx M1=>onB x λc=>(if c=true then Q (.bl true) M1 else wE Φ b σ M1 Q)
 |.ife c a b,σ,M,Q=>wE Φ c σ M λx M1=>onB x λk=>(if k=true then wE Φ a σ M1 Q else wE Φ b σ M1 Q)
 |.tup es,σ,M,Q=>wEs Φ es σ M λvs M1=>vs.length<=sizeLine/\Q (.tup vs) M1
 |.lst es,σ,M,Q=>wEs Φ es σ M λvs M1=>vs.length<=sizeLine/\∀p,M1 p=none->Q (.ref p) (updM M1 p (.lst vs))
 |.dic,_,M,Q=>∀p,M p=none->Q (.ref p) (updM M p (.dic []))
 |.ix a b,σ,M,Q=>wE Φ a σ M λx M1=>wE Φ b σ M1 λy M2=>wIx x y M2 Q
 |.sl a lo hi,σ,M,Q=>wE Φ a σ M λx M1=>wO Φ lo σ M1 λl M2=>wO Φ hi σ M2 λh g=>wSl x l h g Q
 |.call j e es,σ,M,Q=>wE Φ e σ M λv M1=>wEs Φ es σ M1 λvs M2=>onF Φ[j]? λsp=>sp (v::vs) M2 Q
 |.bi f e es,σ,M,Q=>wE Φ e σ M λv M1=>wEs Φ es σ M1 λvs M2=>wBi f (v::vs) M2 Q
 |.b2 f e,σ,M,Q=>wE Φ e σ M λv M1=>wB2 f v M1 Q
 |.mxd e,σ,M,Q=>wE Φ e σ M λv M1=>wMxd v M1 Q
 |.st3 e,σ,M,Q=>wE Φ e σ M λv M1=>wSt3 v M1 Q
 |.mt m o es,σ,M,Q=>wE Φ o σ M λx M1=>mtOk m x M1/\wEs Φ es σ M1 λvs M2=>wMts m x vs M2 Q
 |.comp own fr src tg test elt,σ,M,Q=>wSr Φ src σ M λS M1=>S.len<sizeLine/\∀D,M1 D=none->∃J:Nat->List MV->MH->Prop,J 0 [] (updM M1 D (.lst []))/\
   (∀i ys M2,J i ys M2->M2 D=some (.lst ys)/\ys.length<=i/\S.ok M2)/\
   (∀i x ys M2,S.items[i]?=some x->J i ys M2->wTg tg x (sCm own fr σ) λd=>wI Φ test d M2 λb q=>
    if b=true then wE Φ elt d q λy L=>L D=some (.lst ys)/\J (i+1) (ys++[y]) (updM L D (.lst (ys++[y])))else J (i+1) ys q)/\
   ∀ys M2,J S.len ys M2->Q (.ref D) (S.thaw M2)
 |.fld c o f,σ,M,Q=>wE Φ o σ M λx M1=>∃a fs v,x=.ref a/\M1 a=some (.ins c fs)/\valM fs f=some v/\Q v M1
 |.mcall j c m o es,σ,M,Q=>wE Φ o σ M λx M1=>∃a fs,x=.ref a/\M1 a=some (.ins c fs)/\valM fs m=none/\wEs Φ es σ M1 λvs M2=>∃f sp,Φ[j]?=some (f,sp)/\sp (.ref a::vs) M2 Q
 |.make j c e es,σ,M,Q=>wE Φ e σ M λv M1=>wEs Φ es σ M1 λvs M2=>∃f sp,Φ[j]?=some (f,sp)/\∀p,M2 p=none->sp (.ref p::v::vs) (updM M2 p (.ins c [])) λu g=>u=.non/\Q (.ref p) g
 |.disp ps,σ,M,Q=>∀p,M p=none->wPs Φ ps σ (updM M p (.dic [])) λl M2=>M2 p=some (.dic [])/\l.length<=15/\Q (.ref p) (updM M2 p (.dic (Wx l)))
def wPs(Φ:List (Str×SpM)):IPs->Sm->MH->(List (Key×MV)->MH->Prop)->Prop
 |.nil,_,M,Q=>Q [] M
 |.cons k v r,σ,M,Q=>wE Φ k σ M λx M1=>∃N,keyM x=some N/\wE Φ v σ M1 λy M2=>wPs Φ r σ M2 λl g=>Q ((N,y)::l) g
def wEs(Φ:List (Str×SpM)):IEs->TAm
 |.nil,_,M,Q=>Q [] M
 |.cons e es,σ,M,Q=>wE Φ e σ M λv M1=>wEs Φ es σ M1 λvs M2=>Q (v::vs) M2
def wO(Φ:List (Str×SpM)):IO->Sm->MH->(Option Int->MH->Prop)->Prop
 |.none,_,M,Q=>Q none M
 |.some e,σ,M,Q=>wE Φ e σ M λv M1=>∃i,v=.int i/\Q (some i) M1
def wI(Φ:List (Str×SpM)):IO->Sm->MH->(Bool->MH->Prop)->Prop
 |.none,_,M,Q=>Q true M
 |.some e,σ,M,Q=>wE Φ e σ M λv M1=>∃b,v=.bl b/\Q b M1
def wSr(Φ:List (Str×SpM)):ISr->TSm
 |.seq e,σ,M,Q=>wE Φ e σ M λv M1=>(∃xs,(v=.tup xs\/v=.frl xs)/\Q (.tup xs) M1)\/(∃a xs,v=.ref a/\M1 a=some (.lst xs)/\Q (.lst a xs) M1)\/False\/∃z,v=.str z/\Q (.str z) M1
 |.rng e,σ,M,Q=>wE Φ e σ M λv M1=>∃j,v=.int j/\ -(2^62)<=j/\j<2^62/\Q (.rng 0 j.toNat) M1
 |.rng2 a b,σ,M,Q=>wE Φ a σ M λx M1=>wE Φ b σ M1 λy M2=>∃i j,x=.int i/\y=.int j/\(-(2^62)<=i/\i<2^62/\ -(2^62)<=j/\j<2^62)/\Q (.rng i (j - i).toNat) M2
end
section
variable{Φ:List (Str×SpM)}{σ:Sm}{M:MH}{Q:QM}
theorem IJ{i:Nat}:wE Φ (.var i) σ M Q=∃v,σ[i]?=some (some v)/\Q v M:=TW
theorem Do{a:IE}:wE Φ (.not a) σ M Q=wE Φ a σ M λx M1=>∃b,x=.bl b/\Q (.bl (!b)) M1:=congrArg (wE Φ a σ M) (funext λ_=>funext λ_=>V1)
theorem IK:wE Φ (.chn op op' a b c) σ M Q=wE Φ a σ M λx M1=>wE Φ b σ M1 λy M2=>wCmp op x y M2 λz j=>∃k,z=.bl k/\(if k=true then wE Φ c σ j λw l=>wCmp op' y w l Q else Q (.bl false) j):=congrArg (wE Φ a σ M) (funext λ_=>funext λ_=>congrArg (wE Φ b σ _) (funext λ_=>funext λ_=>congrArg (wCmp op _ _ _) (funext λ_=>funext λ_=>V1)))
theorem Dp{a b:IE}:wE Φ (.and a b) σ M Q=wE Φ a σ M λx M1=>∃c,x=.bl c/\(if c=true then wE Φ b σ M1 Q else Q (.bl false) M1):=congrArg (wE Φ a σ M) (funext λ_=>funext λ_=>V1)
theorem x_or{a b:IE}:wE Φ (.or a b) σ M Q=wE Φ a σ M λx M1=>∃c,x=.bl c/\(if c=true then Q (.bl true) M1 else wE Φ b σ M1 Q):=congrArg (wE Φ a σ M) (funext λ_=>funext λ_=>V1)
theorem TZ{a b c:IE}:wE Φ (.ife c a b) σ M Q=wE Φ c σ M λx M1=>∃k,x=.bl k/\(if k=true then wE Φ a σ M1 Q else wE Φ b σ M1 Q):=congrArg (wE Φ c σ M) (funext λ_=>funext λ_=>V1)
theorem IL{j:Nat}{e:IE}{l:IEs}:wE Φ (.call j e l) σ M Q=wE Φ e σ M λv M1=>wEs Φ l σ M1 λw M2=>∃f u,Φ[j]?=some (f,u)/\u (v::w) M2 Q:=congrArg (wE Φ e σ M) (funext λ_=>funext λ_=>congrArg (wEs Φ l σ _) (funext λ_=>funext λ_=>TY))
end
mutual
theorem Uc:∀(t:ITg){v:MV} {j:Sm} {Q l:Sm->Prop},(∀j,Q j->l j)->wTg t v j Q->wTg t v j l
 |.nm i,v,j,Q,l,hq,h=>by exact hq _ h
 |.tup ts,v,j,Q,l,hq,h=>by
  obtain⟨xs,e,h⟩:=h;exact⟨xs,e,mon_tgs ts hq h⟩
theorem mon_tgs:∀(t:ITgs){v:List MV} {j:Sm} {Q l:Sm->Prop},(∀j,Q j->l j)->wTgs t v j Q->wTgs t v j l
 |.nil,v,j,Q,l,hq,h=>by exact⟨h.1,hq _ h.2⟩
 |.cons t ts,v,j,Q,l,hq,h=>by
  obtain⟨x,r,e,h⟩:=h;exact⟨x,r,e,Uc t (λu h'=>mon_tgs ts hq h') h⟩
end
theorem YS{c:Prop} [Decidable c] {A B j l:Prop}(u:A->j)(w:B->l)(h:if c then A else B):if c then j else l:=by
 split at h
 .rw[if_pos (by assumption)];exact u h
 .rw[if_neg (by assumption)];exact w h
mutual
theorem X7{Φ:List (Str×SpM)}(u:∀(j:Nat)f sp,Φ[j]?=some (f,sp)->MonW sp):∀e:IE,MonE (wE Φ e)
 |.var i,g,M,Q,d,hq,h=>by rw[IJ]at h ⊢;obtain⟨v,e,h⟩:=h;exact⟨v,e,hq _ _ h⟩
 |.int _,g,M,Q,d,hq,h=>by exact hq _ _ h
 |.str _,g,M,Q,d,hq,h=>by exact hq _ _ h
 |.bl _,g,M,Q,d,hq,h=>by exact hq _ _ h
 |.non,g,M,Q,d,hq,h=>by exact hq _ _ h
 |.glb _ _,g,M,Q,d,hq,h=>by exact hq _ _ h
 |.ty _,g,M,Q,d,hq,h=>by exact hq _ _ h
 |.bin op a b,g,M,Q,d,hq,h=>by
  exact X7 u a (λx M1 h1=>X7 u b (λy M2 h2=>Ic op hq h2) h1) h
 |.neg a,g,M,Q,d,hq,h=>by
  exact X7 u a (λx M1 ⟨i,e,h1⟩=>⟨i,e,hq _ _ h1⟩) h
 |.not a,g,M,Q,d,hq,h=>by
  rw[Do]at h ⊢;exact X7 u a (λx M1 ⟨i,e,h1⟩=>⟨i,e,hq _ _ h1⟩) h
 |.cmp op a b,g,M,Q,d,hq,h=>by
  exact X7 u a (λx M1 h1=>X7 u b (λy M2 h2=>VG op hq h2) h1) h
 |.chn op op' a b c,g,M,Q,d,hq,h=>by
  rw[IK]at h ⊢;exact X7 u a (λx M1 h1=>X7 u b (λy M2 h2=>VG op (λz P ⟨k,e,h3⟩=>⟨k,e,YS (X7 u c λw E h4=>VG op' hq h4) (hq _ _) h3⟩) h2) h1) h
 |.and a b,g,M,Q,d,hq,h=>by
  rw[Dp]at h ⊢;exact X7 u a (λx M1 ⟨c,e,h1⟩=>⟨c,e,YS (X7 u b hq) (hq _ _) h1⟩) h
 |.or a b,g,M,Q,d,hq,h=>by
  rw[x_or]at h ⊢;exact X7 u a (λx M1 ⟨c,e,h1⟩=>⟨c,e,YS (hq _ _) (X7 u b hq) h1⟩) h
 |.ife c a b,g,M,Q,d,hq,h=>by
  rw[TZ]at h ⊢;exact X7 u c (λx M1 ⟨k,e,h1⟩=>⟨k,e,YS (X7 u a hq) (X7 u b hq) h1⟩) h
 |.tup es,g,M,Q,d,hq,h=>by
  exact mon_es u es (λvs M1 ⟨e,h1⟩=>⟨e,hq _ _ h1⟩) h
 |.lst es,g,M,Q,d,hq,h=>by
  exact mon_es u es (λvs M1 ⟨e,h1⟩=>⟨e,λp N=>hq _ _ (h1 p N)⟩) h
 |.dic,g,M,Q,d,hq,h=>by
  exact λp N=>hq _ _ (h p N)
 |.ix a b,g,M,Q,d,hq,h=>by
  exact X7 u a (λx M1 h1=>X7 u b (λy M2 h2=>Iu hq h2) h1) h
 |.sl a lo hi,g,M,Q,d,hq,h=>by
  exact X7 u a (λx M1 h1=>mon_o u lo (λy M2 h2=>mon_o u hi (λz P h3=>Iw hq h3) h2) h1) h
 |.call j e es,g,M,Q,d,hq,h=>by
  rw[IL]at h ⊢;exact X7 u e (λx M1 h1=>mon_es u es (λy M2 ⟨f,sp,e,h2⟩=>⟨f,sp,e,u _ _ _ e hq h2⟩) h1) h
 |.bi f e es,g,M,Q,d,hq,h=>by
  exact X7 u e (λx M1 h1=>mon_es u es (λy M2 h2=>Iz f hq h2) h1) h
 |.b2 f e,g,M,Q,d,hq,h=>by
  exact X7 u e (λx M1 h1=>IB f hq h1) h
 |.mxd e,g,M,Q,d,hq,h=>by
  exact X7 u e (λx M1 h1=>TV hq h1) h
 |.st3 e,g,M,Q,d,hq,h=>by
  exact X7 u e (λx M1 h1=>TU hq h1) h
 |.mt m o es,g,M,Q,d,hq,h=>by
  exact X7 u o (λx M1 ⟨R,h1⟩=>⟨R,mon_es u es (λy M2 h2=>Dl hq h2) h1⟩) h
 |.comp own fr src tg test elt,g,M,Q,d,hq,h=>by
  exact mon_sr u src (λS M1 ⟨T,h1⟩=>⟨T,λD U=>by
   obtain⟨J,W,Y,Z,A⟩:=h1 D U;exact⟨J,W,Y,Z,λys M2 B=>hq _ _ (A ys M2 B)⟩⟩) h
 |.fld c o f,g,M,Q,d,hq,h=>by
  exact X7 u o (λx M1 ⟨a,fs,v,e,L,O,h1⟩=>⟨a,fs,v,e,L,O,hq _ _ h1⟩) h
 |.mcall j c m o es,g,M,Q,d,hq,h=>by
  exact X7 u o (λx M1 ⟨a,fs,e,L,O,h1⟩=>⟨a,fs,e,L,O,mon_es u es (λy M2 ⟨f,sp,e,h2⟩=>⟨f,sp,e,u _ _ _ e hq h2⟩) h1⟩) h
 |.make j c e es,g,M,Q,d,hq,h=>by
  exact X7 u e (λx M1 h1=>mon_es u es (λy M2 ⟨f,sp,e,h2⟩=>⟨f,sp,e,λp N=>u _ _ _ e (λm q z=>⟨z.1,hq _ _ z.2⟩) (h2 p N)⟩) h1) h
 |.disp ps,g,M,Q,d,hq,h=>by
  exact λp N=>mon_ps u ps (λl M2 ⟨e,L,h1⟩=>⟨e,L,hq _ _ h1⟩) (h p N)
theorem mon_ps(u:∀(j:Nat)f sp,Φ[j]?=some (f,sp)->MonW sp):∀(e:IPs){g M} {Q d:List (Key×MV)->MH->Prop},(∀m q,Q m q->d m q)->wPs Φ e g M Q->wPs Φ e g M d
 |.nil,g,M,Q,d,hq,h=>by exact hq _ _ h
 |.cons k v r,g,M,Q,d,hq,h=>by
  exact X7 u k (λx M1 ⟨C,e,h1⟩=>⟨C,e,X7 u v (λy M2 h2=>mon_ps u r (λl P h3=>hq _ _ h3) h2) h1⟩) h
theorem mon_es{Φ:List (Str×SpM)}(u:∀(j:Nat)f sp,Φ[j]?=some (f,sp)->MonW sp):∀e:IEs,MonA (wEs Φ e)
 |.nil,g,M,Q,d,hq,h=>by exact hq _ _ h
 |.cons e es,g,M,Q,d,hq,h=>by
  exact X7 u e (λx M1 h1=>mon_es u es (λy M2 h2=>hq _ _ h2) h1) h
theorem mon_o{Φ:List (Str×SpM)}(u:∀(j:Nat)f sp,Φ[j]?=some (f,sp)->MonW sp):∀(e:IO){g M} {Q d:Option Int->MH->Prop},(∀m q,Q m q->d m q)->wO Φ e g M Q->wO Φ e g M d
 |.none,g,M,Q,d,hq,h=>by exact hq _ _ h
 |.some e,g,M,Q,d,hq,h=>by
  exact X7 u e (λx M1 ⟨i,e,h1⟩=>⟨i,e,hq _ _ h1⟩) h
theorem mon_i(u:∀(j:Nat)f sp,Φ[j]?=some (f,sp)->MonW sp):∀(e:IO){g M} {Q d:Bool->MH->Prop},(∀m q,Q m q->d m q)->wI Φ e g M Q->wI Φ e g M d
 |.none,g,M,Q,d,hq,h=>by exact hq _ _ h
 |.some e,g,M,Q,d,hq,h=>by
  exact X7 u e (λx M1 ⟨i,e,h1⟩=>⟨i,e,hq _ _ h1⟩) h
theorem mon_sr{Φ:List (Str×SpM)}(u:∀(j:Nat)f sp,Φ[j]?=some (f,sp)->MonW sp):∀(e:ISr){g M} {Q d:Src->MH->Prop},(∀m q,Q m q->d m q)->wSr Φ e g M Q->wSr Φ e g M d
 |.seq e,g,M,Q,d,hq,h=>by
  exact X7 u e (λx M1 h1=>by
   rcases h1 with⟨xs,e,h1⟩|⟨a,xs,e,L,h1⟩|h1|⟨z,e,h1⟩
   .exact .inl ⟨xs,e,hq _ _ h1⟩
   .exact .inr (.inl ⟨a,xs,e,L,hq _ _ h1⟩)
   .exact h1.elim
   .exact .inr (.inr (.inr ⟨z,e,hq _ _ h1⟩))) h
 |.rng e,g,M,Q,d,hq,h=>by
  exact X7 u e (λx M1 ⟨j,e,a,b,h1⟩=>⟨j,e,a,b,hq _ _ h1⟩) h
 |.rng2 a b,g,M,Q,d,hq,h=>by
  exact X7 u a (λx M1 h1=>X7 u b (λy M2 ⟨i,j,e,L,c,h2⟩=>⟨i,j,e,L,c,hq _ _ h2⟩) h1) h
end
end L2
namespace L2
open PySem PySem.Spec PyProof.Rows
structure GI where
 bl:List Str
 gl:List (Str×Int)
 fns:List Str
 mts:List (Nat×Str×Str):=[]
 mks:List (Nat×Str):=[]
 cls:List (Str×Str):=[]
noncomputable def visB(j:Scope)(x:Str):Bool:=match j.names.lookup x with
 |some .local=>true|some .cell=>true|some .free=>true|_=>false
noncomputable def locB(j:Scope)(x:Str):Bool:=match j.names.lookup x with
 |some .local=>true|some .cell=>true|_=>false
noncomputable def glB(j:Scope)(x:Str):Bool:=decide (j.names.lookup x=some .globalImplicit)&& !(x==("__debug__":Str))&&decide (x≠"__name__")
noncomputable def VI(j l:Scope):Scope:={j with names:=j.names.map fun(n,k)=>if(k==.free&&l.kind==.function&&l.names.lookup n==some .cell)then(n,.cell)else(n,k)}
noncomputable def BI.name:BI->String
 |.len=>"len"|.isinst=>"isinstance"|.max=>"max"|.min=>"min"|.sum=>"sum"|.abs=>"abs"|.int=>"int"|.list=>"list"|.tuple=>"tuple"|.dict=>"dict"|.sorted=>"sorted"|.dictL=>"dict"|.all=>"all"
noncomputable def MT.name:MT->String
 |.join=>"join"
 |.append=>"append"|.extend=>"extend"|.index=>"index"
noncomputable def Dq:Expr->Bool
 |.Slice ..=>false|_=>true
noncomputable def VJ:Expr->Bool
 |.Set ..=>false|_=>true
noncomputable def tok:IE->Bool
 |.ife ..=>false
 |.not a=>tok a
 |.and a b=>tok a&&tok b
 |.or a b=>tok a&&tok b
 |_=>true
noncomputable def Yp:Expr->Option Str|.Name x _=>some x|_=>none
noncomputable def V2:Expr->Option Const|.Constant c _ _=>some c|_=>none
noncomputable def Bw:Expr->Option (Expr×Uj×Expr)|.BinOp l o r _=>some (l,o,r)|_=>none
noncomputable def asUn:Expr->Option (UnaryOp×Expr)|.UnaryOp o x _=>some (o,x)|_=>none
noncomputable def Wy:Expr->Option (Expr×List CmpOp×List Expr)|.Compare l o r _=>some (l,o,r)|_=>none
noncomputable def Wz:Expr->Option (BoolOp×List Expr×Pos)|.BoolOp o vs p=>some (o,vs,p)|_=>none
noncomputable def asIf:Expr->Option (Expr×Expr×Expr)|.IfExp t x y _=>some (t,x,y)|_=>none
noncomputable def VL:Expr->Option (List Expr)|.Tuple xs _ _=>some xs|_=>none
noncomputable def WB:Expr->Option (List Expr)|.List xs _=>some xs|_=>none
noncomputable def Dr:Expr->Option (List (Option Expr)×List Expr)|.Dict ks vs _=>some (ks,vs)|_=>none
noncomputable def WC:Expr->Option (Expr×Expr)|.Subscript x y _=>some (x,y)|_=>none
noncomputable def asSl:Expr->Option (Option Expr×Option Expr×Option Expr)|.Slice l u s _=>some (l,u,s)|_=>none
noncomputable def Zm:Expr->Option (Expr×List Expr×List ZC×Pos)|.Call f xs ks p=>some (f,xs,ks,p)|_=>none
noncomputable def Bx:Expr->Option (Expr×Str×Pos)|.Attribute o n p=>some (o,n,p)|_=>none
noncomputable def asLC:Expr->Option (Expr×List Comprehension×Scope)|.ListComp e gs sc _=>some (e,gs,sc)|_=>none
noncomputable def the1{j:Type}:List j->Option j|[x]=>some x|_=>none
noncomputable def the2{j:Type}:List j->Option (j×j)|[x,y]=>some (x,y)|_=>none
noncomputable def hd1{j:Type}:List j->Option (j×List j)|x::r=>some (x,r)|_=>none
noncomputable def hd2{j:Type}:List j->Option (j×j×List j)|x::y::r=>some (x,y,r)|_=>none
noncomputable def non0{j:Type}:List j->Bool|[]=>true|_=>false
theorem nos{j:Type}{x:j}{C:Prop}(h:none=some x):C:=nomatch h
theorem nob{C:Prop}(h:false=true):C:=nomatch h
theorem X9{j:Type}{o:Option j}{p:j->Bool}(h:o.any p=true):∃x,o=some x/\p x=true:=by
 cases o with
 |none=>cases h
 |some x=>exact⟨x,rfl,h⟩
section
variable{e:Expr}
theorem Yt{x:Str}(h:Yp e=some x):∃p,e=.Name x p:=by revert h;cases e<;>first|exact nos|(intro h;cases h;exact⟨_,rfl⟩)
theorem WD{x:Const}(h:V2 e=some x):∃k p,e=.Constant x k p:=by revert h;cases e<;>first|exact nos|(intro h;cases h;exact⟨_,_,rfl⟩)
theorem IM{x:Expr×Uj×Expr}(h:Bw e=some x):∃p,e=.BinOp x.1 x.2.1 x.2.2 p:=by revert h;cases e<;>first|exact nos|(intro h;cases h;exact⟨_,rfl⟩)
theorem Ds{x:UnaryOp×Expr}(h:asUn e=some x):∃p,e=.UnaryOp x.1 x.2 p:=by revert h;cases e<;>first|exact nos|(intro h;cases h;exact⟨_,rfl⟩)
theorem Dt{x:Expr×List CmpOp×List Expr}(h:Wy e=some x):∃p,e=.Compare x.1 x.2.1 x.2.2 p:=by revert h;cases e<;>first|exact nos|(intro h;cases h;exact⟨_,rfl⟩)
theorem Du{x:BoolOp×List Expr×Pos}(h:Wz e=some x):e=.BoolOp x.1 x.2.1 x.2.2:=by revert h;cases e<;>first|exact nos|(intro h;cases h;rfl)
theorem _kG{x:Expr×Expr×Expr}(h:asIf e=some x):∃p,e=.IfExp x.1 x.2.1 x.2.2 p:=by revert h;cases e<;>first|exact nos|(intro h;cases h;exact⟨_,rfl⟩)
theorem By{x:List Expr}(h:VL e=some x):∃k p,e=.Tuple x k p:=by revert h;cases e<;>first|exact nos|(intro h;cases h;exact⟨_,_,rfl⟩)
theorem Dv{x:List Expr}(h:WB e=some x):∃p,e=.List x p:=by revert h;cases e<;>first|exact nos|(intro h;cases h;exact⟨_,rfl⟩)
theorem _hY{x:List (Option Expr)×List Expr}(h:Dr e=some x):∃p,e=.Dict x.1 x.2 p:=by revert h;cases e<;>first|exact nos|(intro h;cases h;exact⟨_,rfl⟩)
theorem Dw{x:Expr×Expr}(h:WC e=some x):∃p,e=.Subscript x.1 x.2 p:=by revert h;cases e<;>first|exact nos|(intro h;cases h;exact⟨_,rfl⟩)
theorem _kE{x:Option Expr×Option Expr×Option Expr}(h:asSl e=some x):∃p,e=.Slice x.1 x.2.1 x.2.2 p:=by revert h;cases e<;>first|exact nos|(intro h;cases h;exact⟨_,rfl⟩)
theorem _Q{x:Expr×List Expr×List ZC×Pos}(h:Zm e=some x):e=.Call x.1 x.2.1 x.2.2.1 x.2.2.2:=by revert h;cases e<;>first|exact nos|(intro h;cases h;rfl)
theorem IN{x:Expr×Str×Pos}(h:Bx e=some x):e=.Attribute x.1 x.2.1 x.2.2:=by revert h;cases e<;>first|exact nos|(intro h;cases h;rfl)
theorem IP{x:Expr×List Comprehension×Scope}(h:asLC e=some x):∃p,e=.ListComp x.1 x.2.1 x.2.2 p:=by revert h;cases e<;>first|exact nos|(intro h;cases h;exact⟨_,rfl⟩)
theorem _n{j:Type}{l:List j}{x:j}(h:the1 l=some x):l=[x]:=by
 match l,h with
 |[_],h=>cases h;rfl
theorem Bz{j:Type}{l:List j}{x:j×j}(h:the2 l=some x):l=[x.1,x.2]:=by
 match l,h with
 |[_,_],h=>cases h;rfl
theorem _o{j:Type}{l:List j}{x:j×List j}(h:hd1 l=some x):l=x.1::x.2:=by
 match l,h with
 |_::_,h=>cases h;rfl
theorem IQ{j:Type}{l:List j}{x:j×j×List j}(h:hd2 l=some x):l=x.1::x.2.1::x.2.2:=by
 match l,h with
 |_::_::_,h=>cases h;rfl
theorem Yq{j:Type}{l:List j}(h:non0 l=true):l=[]:=by
 match l,h with
 |[],_=>rfl
end
def YC(e:Expr):Bool:=(Yp e).isSome||(V2 e).isSome||(Bw e).isSome||(asUn e).isSome||(Wy e).isSome||(Wz e).isSome||(asIf e).isSome||(VL e).isSome||(WB e).isSome||(Dr e).isSome||(WC e).isSome||(Zm e).isSome||(asLC e).isSome||(Bx e).isSome
mutual
def Za(j:Scope)(N:List Str)(lim:Nat)(all:Bool):ITg->Expr->Bool
 |.nm i,e=>(Yp e).any λx=>decide (N[i]?=some x)&&decide (i<lim)&&(if all then locB j x else decide (j.names.lookup x=some .local))
 |.tup ts,e=>(VL e).any λes=>chkTgs j N lim all ts es
def chkTgs(j:Scope)(N:List Str)(lim:Nat)(all:Bool):ITgs->List Expr->Bool
 |.nil,l=>non0 l
 |.cons t ts,l=>(hd1 l).any λq=>Za j N lim all t q.1&&chkTgs j N lim all ts q.2
end
mutual
def chkE(G:GI):IE->Scope->List Str->Expr->Bool
 |.var i,sc,N,e=>(Yp e).any fun x=>decide (N[i]?=some x)&&visB sc x&& !(x==("__debug__":Str))&& !(x==("__classdict__":Str))
 |.int i,_,_,e=>(V2 e).any λc=>decide (c=.int i)
 |.str x,_,_,e=>(V2 e).any λc=>decide (c=.str x)
 |.bl b,_,_,e=>(V2 e).any λc=>decide (c=.bool b)
 |.non,_,_,e=>(V2 e).any λc=>decide (c=.none)
 |.glb x i,sc,_,e=>(Yp e).any λy=>decide (x=y)&&decide (G.gl.lookup x=some i)&&glB sc x
 |.ty c,sc,_,e=>(Yp e).any λy=>decide (y=(c.name:Str))&&decide (c≠.none)&&G.bl.contains y&&glB sc y
 |.bin op a b,sc,N,e=>(Bw e).any λq=>decide (op=q.2.1)&&chkE G a sc N q.1&&chkE G b sc N q.2.2
 |.neg a,sc,N,e=>(asUn e).any λq=>decide (q.1=.USub)&&chkE G a sc N q.2
 |.not a,sc,N,e=>(asUn e).any λq=>decide (q.1=.Not)&&chkE G a sc N q.2
 |.cmp op a b,sc,N,e=>(Wy e).any λq=>(the1 q.2.1).any λo=>(the1 q.2.2).any λr=>decide (op=o)&&chkE G a sc N q.1&&chkE G b sc N r&& !behindInMarks op r
 |.chn op op' a b c,sc,N,e=>(Wy e).any λq=>(the2 q.2.1).any λo=>(the2 q.2.2).any λr=>decide (op=o.1)&&decide (op'=o.2)&&chkE G a sc N q.1&&chkE G b sc N r.1&&chkE G c sc N r.2&& !lastMarks [op,op'] [r.1,r.2]
 |.and a b,sc,N,e=>(Wz e).any λq=>(hd2 q.2.1).any λv=>decide (q.1=.And)&&chkE G a sc N v.1&&chkE G b sc N (if non0 v.2.2 then v.2.1 else .BoolOp .And (v.2.1::v.2.2) q.2.2)
 |.or a b,sc,N,e=>(Wz e).any λq=>(hd2 q.2.1).any λv=>decide (q.1=.Or)&&chkE G a sc N v.1&&chkE G b sc N (if non0 v.2.2 then v.2.1 else .BoolOp .Or (v.2.1::v.2.2) q.2.2)
 |.ife c a b,_,_,_=>false
 |.tup es,sc,N,e=>(VL e).any λxs=>chkEs G es sc N xs
 |.lst es,sc,N,e=>(WB e).any λxs=>chkEs G es sc N xs
 |.dic,_,_,_=>false
 |.ix a b,sc,N,e=>(WC e).any λq=>chkE G a sc N q.1&&chkE G b sc N q.2&&Dq q.2
 |.sl a lo hi,sc,N,e=>(WC e).any λq=>(asSl q.2).any λs=>chkE G a sc N q.1&&chkO G lo sc N s.1&&chkO G hi sc N s.2.1&& !s.2.2.isSome
 |.call j f es,sc,N,e=>(Zm e).any λq=>(Yp q.1).any λg=>(hd1 q.2.1).any λx=>non0 q.2.2.1&&decide (G.fns[j]?=some g)&&glB sc g&&chkE G f sc N x.1&&chkEs G es sc N x.2
 |.bi f a es,sc,N,e=>(Zm e).any λq=>(Yp q.1).any λg=>(hd1 q.2.1).any λx=>non0 q.2.2.1&&decide (g=(f.name:Str))&&G.bl.contains g&&glB sc g&&chkE G a sc N x.1&&chkEs G es sc N x.2
 |.b2 f a,sc,N,e=>(Zm e).any λq=>(Yp q.1).any λg=>(the1 q.2.1).any λy=>(Zm y).any λr=>(Yp r.1).any λk=>(the1 r.2.1).any λx=>non0 q.2.2.1&&non0 r.2.2.1&&decide (g=(f.out:Str))&&decide (k=(f.inn:Str))&&G.bl.contains g&&G.bl.contains k&&glB sc g&&glB sc k&&chkE G a sc N x
 |.st3 a,_,_,_=>false
 |.mxd a,_,_,_=>false
 |.mt m o es,sc,N,e=>(Zm e).any λq=>(Bx q.1).any λa=>non0 q.2.2.1&&decide (a.2.1=(m.name:Str))&&(a.2.2.endLine==q.2.2.2.line)&&chkE G o sc N a.1&&chkEs G es sc N q.2.1&&decide (q.2.1.length<20)
 |.comp own fr src tg test elt,sc,N,e=>(asLC e).any λq=>(the1 q.2.1).any λg=>VC sc q.2.2 N own fr&&VJ g.iter&&decide (nC own fr N).Nodup&&chkSr G src sc N g.iter&&Za (VI q.2.2 sc) (nC own fr N) own.length false tg g.target&&
   chkI G test (VI q.2.2 sc) (nC own fr N) g.ifs&&chkE G elt (VI q.2.2 sc) (nC own fr N) q.1&&decide (g.is_async=0)
 |.fld c o f,_,_,_=>false
 |.mcall j c m o es,_,_,_=>false
 |.make j c a es,_,_,_=>false
 |.disp ps,_,_,_=>false
def WE(G:GI):IPs->Scope->List Str->List (Option Expr)->List Expr->Bool
 |.nil,_,_,l,r=>non0 l&&non0 r
 |.cons k v ps,sc,N,l,r=>(hd1 l).any λq=>(hd1 r).any λs=>q.1.any λx=>chkE G k sc N x&&chkE G v sc N s.1&&WE G ps sc N q.2 s.2
def chkEs(G:GI):IEs->Scope->List Str->List Expr->Bool
 |.nil,_,_,l=>non0 l
 |.cons e es,sc,N,l=>(hd1 l).any λq=>chkE G e sc N q.1&&chkEs G es sc N q.2
def chkO(G:GI):IO->Scope->List Str->Option Expr->Bool
 |.none,_,_,o=>!o.isSome
 |.some e,sc,N,o=>o.any λx=>chkE G e sc N x
def chkI(G:GI):IO->Scope->List Str->List Expr->Bool
 |.none,_,_,l=>non0 l
 |.some e,sc,N,l=>(the1 l).any λx=>tok e&&chkE G e sc N x
def chkSr(G:GI):ISr->Scope->List Str->Expr->Bool
 |.seq a,sc,N,e=>chkE G a sc N e
 |.rng a,sc,N,e=>(Zm e).any fun q=>(Yp q.1).any fun f=>(the1 q.2.1).any fun x=>non0 q.2.2.1&&decide (f=("range":Str))&&G.bl.contains f&&glB sc f&&chkE G a sc N x
 |.rng2 a b,sc,N,e=>(Zm e).any fun q=>(Yp q.1).any fun f=>(the2 q.2.1).any fun x=>non0 q.2.2.1&&decide (f=("range":Str))&&G.bl.contains f&&glB sc f&&chkE G a sc N x.1&&chkE G b sc N x.2
end
def liSp(K:X1)(l:SpM):Sp:=λu H Q _=>∃j M,RMs K H j u/\RH K M H/\l j M (Dn K H Q)
structure Cok (X:Cx)(G:GI)(Φ:List (Str×SpM)):Prop where
 room:X.A.units+70<cLine
 calm:X.calm=true
 nox:X.xe=λ_ _=>False
 blk:X.env.blockKind=.function
 nd:X.N.Nodup
 bls:∀x,G.bl.contains x=true->X.mg x=none
 gls:∀x i,G.gl.lookup x=some i->∃tk,X.mg x=some (.int i tk)
 fnn:∀(j:Nat)f,G.fns[j]?=some f->∃sp,Φ[j]?=some (f,sp)
 mon:∀(j:Nat)f sp,Φ[j]?=some (f,sp)->MonW sp
 fns:∀(j:Nat)f sp,G.fns[j]?=some f->Φ[j]?=some (f,sp)->∃k fa fd ps,Room k X.A/\FnOk X.prog X.w X.K X.mg X.base CX0 k fa fd ps (liSp X.K sp)/\X.mg f=some (.ref fa)/\YV X.K (.ref fa)=true/\Binds X.K fd ps []
 mts:∀(j:Nat)c m,G.mts.contains (j,c,m)=true->∃f sp,Φ[j]?=some (f,sp)/\∃k C fa fd ps,Room k X.A/\FnOk X.prog X.w X.K X.mg X.base CX0 k fa fd ps (liSp X.K sp)/\XA X.K Xl c=some (some (.ref C))/\Cls X.K C/\Meth X.K C m fa/\Binds X.K fd ps []
 mks:∀(j:Nat)c,G.mks.contains (j,c)=true->∃f sp,Φ[j]?=some (f,sp)/\∃k C fa fd ps,Room (k+1) X.A/\FnOk X.prog X.w X.K X.mg X.base CX0 k fa fd ps (liSp X.K sp)/\XA X.K Xl c=some (some (.ref C))/\X.mg c=some (.ref C)/\Mk X.K C fa/\Binds X.K fd ps []
 cls:∀c f,G.cls.contains (c,f)=true->∃C,XA X.K Xl c=some (some (.ref C))/\Cls X.K C/\D0 X.K C f
section
variable{X:Cx}{G:GI}{Φ:List (Str×SpM)}
theorem IR{j:Scope}{x:Str}(h:visB j x=true):Vis j x:=by
 unfold visB at h;unfold Vis;cases e:j.names.lookup x with
 |none=>rw[e]at h;cases h
 |some k=>rw[e]at h;cases k<;>first|exact .inl rfl|exact .inr (.inl rfl)|exact .inr (.inr rfl)|cases h
theorem V3{j:Scope}{x:Str}(h:locB j x=true):Loc j x:=by
 unfold locB at h;unfold Loc;cases e:j.names.lookup x with
 |none=>rw[e]at h;cases h
 |some k=>rw[e]at h;cases k<;>first|exact .inl rfl|exact .inr rfl|cases h
theorem YT{x:Str}(h:glB X.env.scope x=true):Gl X x/\(x==("__debug__":Str))=false/\x≠"__name__":=by
 unfold glB at h;simp only[XM,decide_eq_true_eq,Wd]at h;exact⟨h.1.1,h.1.2,h.2⟩
theorem _kA(f:BI):Yu (f.name:Str)=some f.val:=by cases f<;>(show Yu _=some _;decide+kernel)
theorem _kz{c:Ty7}(h:c≠.none):Yu (c.name:Str)=some (.type c.name):=by cases c<;>first|exact absurd rfl h|decide+kernel
theorem boot_range:Yu ("range":Str)=some (.type "range"):=by decide+kernel
theorem _eU:∀{l:IE} {m:Scope} {N:List Str} {e:Expr},chkE G l m N e=true->YC e=true:=by
 intro l m N e h;have j:∀{d:Type} {o:Option d} {p:d->Bool},o.any p=true->(∀x,o=some x->YC e=true)->YC e=true:=λh g=>let⟨x,e,_⟩:=X9 h;g x e
 have c:∀x,Yp e=some x->YC e=true:=λx h=>by obtain⟨p,rfl⟩:=Yt h;rfl
 have f:∀x,V2 e=some x->YC e=true:=λx h=>by obtain⟨k,p,rfl⟩:=WD h;rfl
 have q:∀x,Bw e=some x->YC e=true:=λx h=>by obtain⟨p,rfl⟩:=IM h;rfl
 have L:∀x,asUn e=some x->YC e=true:=λx h=>by obtain⟨p,rfl⟩:=Ds h;rfl
 have O:∀x,Wy e=some x->YC e=true:=λx h=>by obtain⟨p,rfl⟩:=Dt h;rfl
 have P:∀x,Wz e=some x->YC e=true:=λx h=>by obtain rfl:=Du h;rfl
 have R:∀x,asIf e=some x->YC e=true:=λx h=>by obtain⟨p,rfl⟩:=_kG h;rfl
 have T:∀x,VL e=some x->YC e=true:=λx h=>by obtain⟨k,p,rfl⟩:=By h;rfl
 have U:∀x,WB e=some x->YC e=true:=λx h=>by obtain⟨p,rfl⟩:=Dv h;rfl
 have W:∀x,Dr e=some x->YC e=true:=λx h=>by obtain⟨p,rfl⟩:=_hY h;rfl
 have u:∀x,WC e=some x->YC e=true:=λx h=>by obtain⟨p,rfl⟩:=Dw h;rfl
 have w:∀x,Zm e=some x->YC e=true:=λx h=>by obtain rfl:=_Q h;rfl
 have y:∀x,asLC e=some x->YC e=true:=λx h=>by obtain⟨p,rfl⟩:=IP h;rfl
 have z:∀x,Bx e=some x->YC e=true:=λx h=>by obtain rfl:=IN h;rfl
 cases l<;>first|exact nob h|exact j h c|exact j h f|exact j h q|exact j h L|exact j h O|exact j h P|exact j h R|exact j h T|exact j h U|exact j h W|exact j h u|exact j h w|exact j h y|exact j h z
theorem Y8:∀{u:IE} {w:Scope} {N:List Str} {e:Expr} {l:List Expr} {j:Env},chkE G u w N e=true->Xs (e::l) j=(false,eval e j)::Xs l j:=by
 intro u w N e l j h;cases e<;>first|rfl|cases _eU h
theorem Uv:∀{w:IEs} {y:Scope} {N:List Str} {u:List Expr} {j:Env} {l:Pos},chkEs G w y N u=true->(Xs u j).all (λx=>!x.1)=true
 |.nil,y,N,u,_,_,h=>by
  cases Yq h
  rfl
 |.cons e u,y,N,xs,j,l,h=>by
  replace h:=X9 h;obtain⟨q,m,z⟩:=h;cases _o m;rw[XM]at z;rw[Y8 z.1,UP];exact Uv (l:=l) z.2
theorem _hp:∀{j:IE} {l:Scope} {N:List Str} {x:Str} {u p:Pos} {w:List ZC},chkE G j l N (.Call (.Name x u) [] w p)=true->False:=by
 intro j l N x u p w h;revert h;cases j<;>exact nob
set_option tactic.hygienic true in
theorem IU{u:IE}{w:Scope}{N:List Str}{o:Expr}{nm:Str}{j:Env}(h:chkE G u w N o=true):VY o nm j (eval o j)=eval o j:=by
 cases o<;>try rfl
 rename_i y l m z
 cases y<;>try rfl
 cases l with
 |cons a r=>rfl
 |nil=>exact(_hp h).elim
theorem V5{j:Pos}{l:List (Bool×Sem Value)}(h:l.all (λx=>!x.1)=true):(Yl j l).all (λx=>!x.1)=true/\(Yl j l).any (·.1)=false:=by
 induction l with
 |nil=>exact⟨rfl,rfl⟩
 |cons a r y=>
  rw[UP,XM]at h;obtain⟨u,w⟩:=y h.2;have e:a.1=false:=by simpa using h.1
  unfold Yl at u w ⊢;rw[Xp,UP,U5,u,w];obtain⟨b,t⟩:=a;cases e;exact⟨rfl,rfl⟩
end
def tCW2(own:List Str)(z:List Nat)(g:TG)(O:TT)(P:TE)(d:St)(R:Hp)(Q:VK)(J:It)(D:Addr):Prop:=∃W:Nat->Nat->List V->Hp->Prop,
 (∃m,W 0 m [] (upd R D (.lst [])))/\∀i m c l,W i m c l->
  ((J.stop i l/\Q (.ref D) l)\/(J.go i l/\∃N:List V->Hp->Prop,(∀u f,N u f->∃q,q<m/\W (i+1) q u f)/\∀x p,J.yld i l x p->g x (sC own z d) p λj T=>Keep (sC own z d) j/\O j T λb e=>
   if b=true then P j e λy L=>∃w,L D=some (.lst w)/\w.length<sizeLine/\N (w++[y]) (upd L D (.lst (w++[y])))else N c e))
def Dx(own:List Str)(u:List Nat)(w:TI)(g:TG)(y:TT)(z:TE):TE:=λj H Q=>w j H λJ l=>∀D,l D=none->tCW2 own u g y z j l Q J D
section
variable{X:Cx}{pz:List (Addr×Obj)}{σ:St}{H1:Hp}{s2:X0}{tg elt iter:Expr}{ifs:List Expr}{scope:Scope}{pos:Pos}{own:List Str}{fr:List Nat}{g:TG}{tt:TT}{te:TE}
theorem IV{J:It}{j:List Addr}{it:Addr}{S:Nat->Heap->Prop}{RR:Value->Addr->Result->X0->Prop}{Q:VK}{E:Value->X0->Prop}(hc:X.calm=true)(ok:CompOk X.env.scope scope X.N fr)
  (hg:∀C j f L,PG (cxC X scope own fr C j f L) tg g)(ht:∀C j f L,PTs (cxC X scope own fr C j f L) ifs tt)(he:∀C j f L,PE (cxC X scope own fr C j f L) elt te)
  (I2:Inv X pz σ H1 s2)(T:Turn X.prog X.w X.K tg J j it S)(st:S 0 s2.heap)(Z:∀b∈j,FpOk X pz H1 b)
  (h:∀D,H1 D=none->tCW2 own fr g tt te σ H1 Q J D)
  (hRR:∀D C w s',Inv X pz σ w s'->(∃m,s'.heap.Ns C m)->w C=none->C≠X.env.locals->X.s₀.heap.objs.size<=C->(∀x c,X.env.cells.lookup x=some c->c≠C)->(∀p∈X.pn++pz,p.1≠C)->Q (.ref D) w->RR (.ref D) C (.ok .next) s'):
  X3 (X4 X.prog X.w) X.A (newList []) (λacc f=>X3 (X4 X.prog X.w) X.A (newFunctionEnv scope X.env.globals (clOf X.env.cells scope.names []) [] X.env.qual none .none (some X.env)) (λB R=>
   Z4 (X4 X.prog X.w) X.A (.compStart (.ListComp elt [⟨tg,iter,ifs,0⟩] scope pos) 0 (.ref it) acc {B with scope:=relabel scope X.env}) (RR acc B.locals) R) E f) E s2:=by
 have hD:H1 s2.heap.objs.size=none:=I2.hok.fresh (Xf _);obtain⟨W,⟨m0,w0⟩,step⟩:=h _ hD;refine ZW (wpAny_newFunctionEnv ok.nocell (by intro y hy;simp at hy) (λh4 H s=>?_) ok.kind)
 dsimp only at H s ⊢;have a:Inv X pz σ (upd H1 s2.heap.objs.size (.lst [])) {s2 with heap:=s2.heap.push {cls:=.type "list",dict:=none,data:=.seq ([]:List Value).toArray},toks:=s2.toks}:=
  I2.laid (λb u e=>XD _ e) (Xf _) ⟨Zj _,[],0,.nil,Y1 _ rfl⟩
 have fpo:∀b∈j,∃o,s2.heap.get? b=some o:=λb l=>let⟨o,e,_⟩:=T.obj 0 _ st b l;⟨o,e⟩
 have fpD:∀b∈j,b≠s2.heap.objs.size:=λb l=>let⟨o,e⟩:=fpo b l;XN (Xq e)
 have hf3:∀b∈j,FpOk X pz (upd H1 s2.heap.objs.size (.lst [])) b:=λb l=>⟨by rw[XX (fpD b l)];exact(Z b l).1,(Z b l).2⟩
 generalize hs3:({s2 with heap:=s2.heap.push {cls:=.type "list",dict:=none,data:=.seq ([]:List Value).toArray},toks:=s2.toks}:X0)=s3 at*;have e3:s2.heap.push {cls:=.type "list",dict:=none,data:=.seq ([]:List Value).toArray}=s3.heap:=by rw[<-hs3]
 rw[e3]at H s ⊢;have kp:∀b o,s3.heap.get? b=some o->h4.get? b=some o:=λb o e=>(s.2 b (XN (Xq e))).trans (XD _ e);have F:∀b∈j,∃o,s3.heap.get? b=some o:=λb l=>let⟨o,e⟩:=fpo b l;⟨o,by rw[<-e3];exact XD _ e⟩
 have I4:=Sf (own:=own) (scope:=scope) (fr:=fr) (tk:=s2.toks+0) ok a rfl hf3 F H kp;have st4:S 0 h4:=T.keep _ _ _ st λb l o e=>kp b o (by rw[<-e3];exact XD _ e)
 have fpC:∀b∈j,b≠s3.heap.objs.size:=λb l=>let⟨o,e⟩:=F b l;XN (Xq e)
 have U:∀{w:Hp},(∀b∈j,w b=none)->∀b∈j,FpOk (cxC X scope own fr s3.heap.objs.size j s3 (upd H1 s2.heap.objs.size (.lst []))) pz w b:=λhn b l=>by
  refine⟨hn b l,fpC b l,λz=>?_,.inl l,λx c e=>?_,(Z b l).2.2.2.2.2⟩
  .rcases Xm.mp (a.stkSub b z)with z|z
   .exact(Z b l).2.1 z
   .exact(Z b l).2.2.1 z
  .exact(Z b l).2.2.2.2.1 x c ((Wu _ _ _ _ _ e).elim (λz=>by simp at z) id)
 have G:Z4 (X4 X.prog X.w) X.A (.compLoop (.ListComp elt [⟨tg,iter,ifs,0⟩] scope pos) 0 (.ref it) (.ref s2.heap.objs.size) (compEnvC scope (clOf X.env.cells scope.names []) s3.heap.objs.size X.env))
   (RR (.ref s2.heap.objs.size) s3.heap.objs.size) {s3 with heap:=h4,toks:=s2.toks+0}:=by
  refine Sd (λn s'=>∃i A w,Inv (cxC X scope own fr s3.heap.objs.size j s3 (upd H1 s2.heap.objs.size (.lst []))) pz (sC own fr σ) w s'/\S i s'.heap/\(∀b∈j,w b=none)/\W i n A w) ?_ m0
   ⟨0,[],_,I4,st4,λb l=>(hf3 b l).1,w0⟩
  rintro n s5 ⟨i,A,H5,I5,st5,fr5,w5⟩;have way:=step i n A H5 w5;rcases way with⟨stop,q⟩|⟨go,N,hN,turn⟩
  .refine thn (T.done (cxC X scope own fr s3.heap.objs.size j s3 (upd H1 s2.heap.objs.size (.lst []))) rfl rfl rfl hc i pz s5 _ H5 _ I5 (U fr5) st5 stop) λr s6 ⟨hr,I6⟩=>?_;subst hr;have J6:Inv X pz σ H5 s6:=a.call' I6.os I6.base I6.hok I6.bare λb l=>⟨(Z b l).2.2.2.1,(Z b l).2.1,(Z b l).2.2.2.2.1,(Z b l).2.2.2.2.2⟩;obtain⟨m6,ns6,_⟩:=I6.loc;refine hRR _ _ H5 s6 J6 ⟨m6,ns6⟩ I6.free (B1 a.lt) a.sz (λx c e=>?_) (λp hp=>?_) q
   .obtain⟨v,z⟩:=a.cell x c e;exact XN z.lt
   .exact XN (Xq (a.pin p hp).1)
  .refine thn (T.item (cxC X scope own fr s3.heap.objs.size j s3 (upd H1 s2.heap.objs.size (.lst []))) rfl rfl rfl hc i pz s5 _ H5 _ I5 (U fr5) st5 go) λr s6 ⟨u,hr,h6⟩=>?_;subst hr;refine thn h6 λ_ s7 ⟨x,H7,I7,r7,y7,st7,fr7⟩=>?_;have I7':=I7.pinned (U fr7) (T.obj _ _ st7);refine thn (hg _ _ _ _ _ s7 _ H7 x u _ I7' r7 (turn x H7 y7)) λ_ s8 ⟨O,H8,I8,kp8,q8⟩=>?_;have again:∀{Y:Hp} {P:X0},Inv (cxC X scope own fr s3.heap.objs.size j s3 (upd H1 s2.heap.objs.size (.lst []))) (pz++VA j s7.heap) O Y P->∀{ys'},(∃m',m'<n/\W (i+1) m' ys' Y)->
     ∃m,m<n/\∃i A w,Inv (cxC X scope own fr s3.heap.objs.size j s3 (upd H1 s2.heap.objs.size (.lst []))) pz (sC own fr σ) w P/\S i P.heap/\(∀b∈j,w b=none)/\W i m A w:=fun{Y P} I {ys'} ⟨m',hm,w9⟩=>by
    refine⟨m',hm,i+1,ys',Y,(I.unpinned).weak kp8.1 kp8.2,T.keep _ _ _ st7 λb l o e=>(I.pin (b,o) (Zs _ (Zs _ (Bo l e)))).1,λb l=>?_,w9⟩;obtain⟨o,e,d⟩:=T.obj _ _ st7 b l;exact(I.pin (b,o) (Zs _ (Zs _ (Bo l e)))).2.1
   have fin:∀{ok:Bool} {P:X0} {Y:Hp},Inv (cxC X scope own fr s3.heap.objs.size j s3 (upd H1 s2.heap.objs.size (.lst []))) (pz++VA j s7.heap) O Y P->
     (if ok=true then te O Y λy H6=>∃zs,H6 s2.heap.objs.size=some (.lst zs)/\zs.length<sizeLine/\N (zs++[y]) (upd H6 s2.heap.objs.size (.lst (zs++[y])))else N A Y)->
     (if ok=true then X3 (X4 X.prog X.w) X.A (eval elt (compEnvC scope (clOf X.env.cells scope.names []) s3.heap.objs.size X.env)) (λx R=>
      X3 (X4 X.prog X.w) X.A (call (.builtin "list.append") [.ref s2.heap.objs.size,x]) (fun _ M=>∃m,m<n/\∃i A w,Inv (cxC X scope own fr s3.heap.objs.size j s3 (upd H1 s2.heap.objs.size (.lst []))) pz (sC own fr σ) w M/\S i M.heap/\(∀b∈j,w b=none)/\W i m A w) (fun _ _=>False) R) (fun _ _=>False) P
      else∃m,m<n/\∃i A w,Inv (cxC X scope own fr s3.heap.objs.size j s3 (upd H1 s2.heap.objs.size (.lst []))) pz (sC own fr σ) w P/\S i P.heap/\(∀b∈j,w b=none)/\W i m A w):=fun{ok P Y} I q9=>by
    cases ok with
    |false=>
     rw[if_neg Xu]at q9 ⊢;exact again I (hN _ _ q9)
    |true=>
     rw[if_pos rfl]at q9 ⊢;refine thn (he _ _ _ _ _ P O Y _ I q9) λv s10 ⟨y,H10,I10,r10,zs,hl10,hz5,w10⟩=>?_;refine thn (Hn (X:=cxC X scope own fr s3.heap.objs.size j s3 (upd H1 s2.heap.objs.size (.lst []))) _ s10 O H10 (.ref s2.heap.objs.size) [y] (.ref s2.heap.objs.size) [v] (λ_ w=>w=upd H10 s2.heap.objs.size (.lst (zs++[y]))) I10 rfl (.cons r10 .nil) ⟨_,zs,y,rfl,rfl,hl10,hz5,rfl⟩) λ_ s11 ⟨_,H11,I11,_,e11⟩=>?_;subst e11;exact again I11 (hN _ _ w10)
   rcases ht s3.heap.objs.size j s3 (upd H1 s2.heap.objs.size (.lst []))with⟨e,et⟩|⟨c,e,hcT⟩
   .subst e et;exact wpAny_tests_nil (fin (ok:=true) I8 q8)
   .subst e;exact wpAny_tests_one (thn (hcT _ s8 O H8 _ I8 q8) λb P ⟨Y,I,q9⟩=>fin I q9)
 subst hs3;exact codeAny_compStart_list G (T.self _ 0 _ _ _ st4 G)
theorem _hh(own:List Str)(fr:List Nat){c:TI}(hx:∀e s,¬X.xe e s)(f:X.calm=true)(ok:VC X.env.scope scope X.N own fr=true)(p:PI X tg iter c)
  (L:∀C w j l,PG (cxC X scope own fr C w j l) tg g)(N:∀C w j l,PTs (cxC X scope own fr C w j l) ifs tt)(O:∀C w j l,PE (cxC X scope own fr C w j l) elt te)
  (P:∀x,AF iter X.env x=pure x:=by intro _;rfl):
  PE X (.ListComp elt [⟨tg,iter,ifs,0⟩] scope pos) (Dx own fr c g tt te):=by
 have u:=VD ok;intro pz s σ H Q I h;rw[eval_ListComp];refine wpAny_comprehension_free (use:=none) (cl:=clOf X.env.cells scope.names []) rfl P (Hx λy U W=>I.ok.has y.1 (u.has y U W)) u.kind u.names (thn (p pz s σ H _ I h) λv s1 Y=>thn Y λZ s2 A=>?_);obtain⟨it,w,tn,J,H2,e,B,T,z,f2,R⟩:=A;subst e;refine IV (RR:=λd C=>compPost (X4 X.prog X.w) X.A X.xe none (EP X pz σ Q) d C) (Q:=Q) f u L N O B T z f2 R ?_;rintro D C E F G ⟨m,M⟩ S i n a c5 q;refine⟨m,M,λh' sb=>⟨.ref D,E,?_,rfl,q⟩⟩;exact G.turned (g:=F.toks) (λb o hb e=>(sb.2 b hb).trans e) S i (.inr n) a c5
theorem _dg(own:List Str)(fr:List Nat){i:Nat}{y:Str}{c d:Pos}{G:TI}(n:X.N.Nodup)(hi:X.N[i]?=some y)(L:Loc X.env.scope y)(hx:∀e s,¬X.xe e s)(hc:X.calm=true)(ok:VC X.env.scope scope X.N own fr=true)(N:PI X tg iter G)
  (hg:∀C f j l,PG (cxC X scope own fr C f j l) tg g)(ht:∀C f j l,PTs (cxC X scope own fr C f j l) ifs tt)(he:∀C f j l,PE (cxC X scope own fr C f j l) elt te)
  (O:UI (.ListComp elt [⟨tg,iter,ifs,0⟩] scope pos) (some (.Name y c)) d.line X.env=pure true:=by rfl)(hs:∀x,AF iter X.env x=pure x:=by intro _;rfl)
  (hf:X.fn y=true\/X.env.scope.names.lookup y=some .local:=by first|exact .inl rfl|exact .inr rfl|assumption):
  PS X (.Assign [.Name y c] (.ListComp elt [⟨tg,iter,ifs,0⟩] scope pos) d) (tAsg (Dx own fr G g tt te) (Bm i)):=by
 have w:=VD ok;intro pz s σ H D I h;rw[exec_Assign_Name_used _ _ _ _ O];refine X2 (wpAny_standAt (X2 ?_));show X3 _ X.A (do let _<- comprehension (.ListComp elt [⟨tg,iter,ifs,0⟩] scope pos) scope X.env _ (newList []) false (eval iter X.env) (some (assign (.Name y c) X.env))) _ _ s
 refine X2 (Yg (wpAny_comprehension_free (use:=some (assign (.Name y c) X.env)) (cl:=clOf X.env.cells scope.names []) (Q:=λ_ p=>SP X pz D .next p) rfl hs (Hx λy L hk=>I.ok.has y.1 (w.has y L hk)) w.kind w.names
  (thn (N pz s σ H _ I h) λv s1 h1=>thn h1 λitv s2 h2=>?_)) (λ_ p hq=>Xa (Xa hq)) λ_ _ e=>e)
 obtain⟨it,f,tn,J,H2,e,I2,T,P,f2,R⟩:=h2;subst e;refine IV (RR:=λU C=>compPost (X4 X.prog X.w) X.A X.xe (some (assign (.Name y c) X.env)) (λ_ p=>SP X pz D .next p) U C) (Q:=λv W=>D.nx (σ.set i (some v)) W) hc w hg ht he I2 T P f2 R ?_;rintro E C W p I' ⟨m,ns⟩ c1 M c3 S c5 q;show X3 _ X.A (assign (.Name y c) X.env (.ref E)) _ _ _;refine wpAny_assign_Name (GC I' n hi L (v:=.ref E) (u:=.ref E) rfl (λY Z A=>?_) hf);obtain⟨a,A,ha⟩:=A;have B:C≠a:=by
  rcases ha with z|z
  .rw[z];exact M
  .exact λe=>S _ _ z e.symm
 refine⟨m,ns.sameBut A B,λh' F=>⟨_,W,?_,q⟩⟩;exact Z.turned (g:=Y.toks) (λb o hb e=>(F.2 b hb).trans e) c1 M (.inr c3) S c5
end
theorem hide{G:Prop}(h:∀j:Prop,(G->j)->j):G:=h G id
section
variable{G:GI}{sc:Scope}{N:List Str}{e:Expr}
theorem Xc{a b:Bool}(h:(a&&b)=true):a=true/\b=true:=by rwa [XM]at h
theorem Xr{p:Prop} [Decidable p] (h:decide p=true):p:=of_decide_eq_true h
theorem not_of{b:Bool}(h:(!b)=true):b=false:=by cases b with|false=>rfl|true=>cases h
theorem _k6{i:Nat}(h:chkE G (.var i) sc N e=true):∃x p,e=.Name x p/\N[i]?=some x/\visB sc x=true/\(x==("__debug__":Str))=false/\(x==("__classdict__":Str))=false:=by
 refine hide λ_ k=>?_;replace h:=X9 h;obtain⟨x,j,h⟩:=h;obtain⟨p,rfl⟩:=Yt j;replace h:=Xc h;obtain⟨h,l⟩:=h;replace h:=Xc h;obtain⟨h,u⟩:=h;replace h:=Xc h;obtain⟨w,y⟩:=h;exact k ⟨x,p,rfl,Xr w,y,not_of u,not_of l⟩
theorem _ke{i:Int}(h:chkE G (.int i) sc N e=true):∃k p,e=.Constant (.int i) k p:=by
 replace h:=X9 h;obtain⟨x,j,h⟩:=h;obtain⟨k,p,rfl⟩:=WD j;exact⟨k,p,by rw[Xr h]⟩
theorem _k8{i:Str}(h:chkE G (.str i) sc N e=true):∃k p,e=.Constant (.str i) k p:=by
 replace h:=X9 h;obtain⟨x,j,h⟩:=h;obtain⟨k,p,rfl⟩:=WD j;exact⟨k,p,by rw[Xr h]⟩
theorem _ml{i:Bool}(h:chkE G (.bl i) sc N e=true):∃k p,e=.Constant (.bool i) k p:=by
 replace h:=X9 h;obtain⟨x,j,h⟩:=h;obtain⟨k,p,rfl⟩:=WD j;exact⟨k,p,by rw[Xr h]⟩
theorem _kb(h:chkE G .non sc N e=true):∃k p,e=.Constant .none k p:=by
 replace h:=X9 h;obtain⟨x,j,h⟩:=h;obtain⟨k,p,rfl⟩:=WD j;exact⟨k,p,by rw[Xr h]⟩
theorem _kf{x:Str}{i:Int}(h:chkE G (.glb x i) sc N e=true):∃p,e=.Name x p/\G.gl.lookup x=some i/\glB sc x=true:=by
 refine hide λ_ k=>?_;replace h:=X9 h;obtain⟨y,j,h⟩:=h;obtain⟨p,rfl⟩:=Yt j;replace h:=Xc h;obtain⟨h,l⟩:=h;replace h:=Xc h;obtain⟨u,w⟩:=h;obtain rfl:=Xr u;exact k ⟨p,rfl,Xr w,l⟩
theorem _mg{c:Ty7}(h:chkE G (.ty c) sc N e=true):∃p,e=.Name (c.name:Str) p/\c≠.none/\G.bl.contains (c.name:Str)=true/\glB sc (c.name:Str)=true:=by
 refine hide λ_ k=>?_;replace h:=X9 h;obtain⟨y,j,h⟩:=h;obtain⟨p,rfl⟩:=Yt j;replace h:=Xc h;obtain⟨h,l⟩:=h;replace h:=Xc h;obtain⟨h,u⟩:=h;replace h:=Xc h;obtain⟨w,z⟩:=h;obtain rfl:=Xr w;exact k ⟨p,rfl,Xr z,u,l⟩
theorem _ki{j:Uj}{a b:IE}(h:chkE G (.bin j a b) sc N e=true):∃l r p,e=.BinOp l j r p/\chkE G a sc N l=true/\chkE G b sc N r=true:=by
 refine hide λ_ k=>?_;replace h:=X9 h;obtain⟨⟨l,o,r⟩,u,h⟩:=h;obtain⟨p,rfl⟩:=IM u;replace h:=Xc h;obtain⟨h,w⟩:=h;replace h:=Xc h;obtain⟨y,z⟩:=h;obtain rfl:=Xr y;exact k ⟨l,r,p,rfl,z,w⟩
theorem _kc{a:IE}(h:chkE G (.neg a) sc N e=true):∃l p,e=.UnaryOp .USub l p/\chkE G a sc N l=true:=by
 refine hide λ_ k=>?_;replace h:=X9 h;obtain⟨⟨o,l⟩,j,h⟩:=h;obtain⟨p,rfl⟩:=Ds j;replace h:=Xc h;obtain⟨u,w⟩:=h;obtain rfl:=Xr u;exact k ⟨l,p,rfl,w⟩
theorem _ka{a:IE}(h:chkE G (.not a) sc N e=true):∃l p,e=.UnaryOp .Not l p/\chkE G a sc N l=true:=by
 refine hide λ_ k=>?_;replace h:=X9 h;obtain⟨⟨o,l⟩,j,h⟩:=h;obtain⟨p,rfl⟩:=Ds j;replace h:=Xc h;obtain⟨u,w⟩:=h;obtain rfl:=Xr u;exact k ⟨l,p,rfl,w⟩
theorem _kg{j:CmpOp}{a b:IE}(h:chkE G (.cmp j a b) sc N e=true):∃l r p,e=.Compare l [j] [r] p/\chkE G a sc N l=true/\chkE G b sc N r=true/\behindInMarks j r=false:=by
 refine hide λ_ k=>?_;replace h:=X9 h;obtain⟨⟨l,os,c⟩,u,h⟩:=h;obtain⟨p,rfl⟩:=Dt u;replace h:=X9 h;obtain⟨o,w,h⟩:=h;replace h:=X9 h;obtain⟨r,y,h⟩:=h;obtain rfl:=_n w;obtain rfl:=_n y;replace h:=Xc h;obtain⟨h,z⟩:=h;replace h:=Xc h;obtain⟨h,m⟩:=h;replace h:=Xc h;obtain⟨g,d⟩:=h;obtain rfl:=Xr g;exact k ⟨l,r,p,rfl,d,m,not_of z⟩
theorem _kh{u j:CmpOp}{a b c:IE}(h:chkE G (.chn u j a b c) sc N e=true):∃l m r p,e=.Compare l [u,j] [m,r] p/\chkE G a sc N l=true/\chkE G b sc N m=true/\chkE G c sc N r=true/\lastMarks [u,j] [m,r]=false:=by
 refine hide λ_ k=>?_;replace h:=X9 h;obtain⟨⟨l,os,P⟩,w,h⟩:=h;obtain⟨p,rfl⟩:=Dt w;replace h:=X9 h;obtain⟨⟨o,R⟩,y,h⟩:=h;replace h:=X9 h;obtain⟨⟨m,r⟩,z,h⟩:=h;obtain rfl:=Bz y;obtain rfl:=Bz z;replace h:=Xc h;obtain⟨h,g⟩:=h;replace h:=Xc h;obtain⟨h,d⟩:=h;replace h:=Xc h;obtain⟨h,f⟩:=h;replace h:=Xc h;obtain⟨h,q⟩:=h;replace h:=Xc h;obtain⟨L,O⟩:=h;obtain rfl:=Xr L;obtain rfl:=Xr O;exact k ⟨l,m,r,p,rfl,q,f,d,not_of g⟩
theorem _kj{a b:IE}(h:chkE G (.and a b) sc N e=true):∃l r rest p,e=.BoolOp .And (l::r::rest) p/\chkE G a sc N l=true/\((rest=[]/\chkE G b sc N r=true)\/chkE G b sc N (.BoolOp .And (r::rest) p)=true):=by
 replace h:=X9 h;obtain⟨⟨o,z,p⟩,w,h⟩:=h;obtain rfl:=Du w;replace h:=X9 h;obtain⟨⟨l,r,rest⟩,j,h⟩:=h;obtain rfl:=IQ j;replace h:=Xc h;obtain⟨h,u⟩:=h;replace h:=Xc h;obtain⟨j,y⟩:=h;obtain rfl:=Xr j;refine⟨l,r,rest,p,rfl,y,?_⟩;cases rest with
 |nil=>exact .inl ⟨rfl,u⟩
 |cons _ _=>exact .inr u
theorem _mi{a b:IE}(h:chkE G (.or a b) sc N e=true):∃l r rest p,e=.BoolOp .Or (l::r::rest) p/\chkE G a sc N l=true/\((rest=[]/\chkE G b sc N r=true)\/chkE G b sc N (.BoolOp .Or (r::rest) p)=true):=by
 replace h:=X9 h;obtain⟨⟨o,z,p⟩,w,h⟩:=h;obtain rfl:=Du w;replace h:=X9 h;obtain⟨⟨l,r,rest⟩,j,h⟩:=h;obtain rfl:=IQ j;replace h:=Xc h;obtain⟨h,u⟩:=h;replace h:=Xc h;obtain⟨j,y⟩:=h;obtain rfl:=Xr j;refine⟨l,r,rest,p,rfl,y,?_⟩;cases rest with
 |nil=>exact .inl ⟨rfl,u⟩
 |cons _ _=>exact .inr u
theorem _k7{l:IEs}(h:chkE G (.tup l) sc N e=true):∃j k p,e=.Tuple j k p/\chkEs G l sc N j=true:=by
 replace h:=X9 h;obtain⟨j,u,h⟩:=h;obtain⟨k,p,rfl⟩:=By u;exact⟨j,k,p,rfl,h⟩
theorem _kd{l:IEs}(h:chkE G (.lst l) sc N e=true):∃j p,e=.List j p/\chkEs G l sc N j=true:=by
 replace h:=X9 h;obtain⟨j,u,h⟩:=h;obtain⟨p,rfl⟩:=Dv u;exact⟨j,p,rfl,h⟩
theorem _mk{a b:IE}(h:chkE G (.ix a b) sc N e=true):∃x y p,e=.Subscript x y p/\chkE G a sc N x=true/\chkE G b sc N y=true/\Dq y=true:=by
 refine hide λ_ k=>?_;replace h:=X9 h;obtain⟨⟨x,y⟩,j,h⟩:=h;obtain⟨p,rfl⟩:=Dw j;replace h:=Xc h;obtain⟨h,l⟩:=h;replace h:=Xc h;obtain⟨u,w⟩:=h;exact k ⟨x,y,p,rfl,u,w,l⟩
theorem _mh{a:IE}{lo w:IO}(h:chkE G (.sl a lo w) sc N e=true):∃x l u p j,e=.Subscript x (.Slice l u none j) p/\chkE G a sc N x=true/\chkO G lo sc N l=true/\chkO G w sc N u=true:=by
 replace h:=X9 h;obtain⟨⟨x,y⟩,z,h⟩:=h;obtain⟨p,rfl⟩:=Dw z;replace h:=X9 h;obtain⟨⟨l,u,st⟩,m,h⟩:=h;obtain⟨j,rfl⟩:=_kE m;replace h:=Xc h;obtain⟨h,g⟩:=h;replace h:=Xc h;obtain⟨h,d⟩:=h;replace h:=Xc h;obtain⟨c,f⟩:=h;cases st with
 |some _=>cases g
 |none=>exact⟨x,l,u,p,j,rfl,c,f,d⟩
theorem _hD{j:Nat}{a:IE}{y:IEs}(h:chkE G (.call j a y) sc N e=true):∃f p x u w,e=.Call (.Name f p) (x::u) [] w/\G.fns[j]?=some f/\glB sc f=true/\chkE G a sc N x=true/\chkEs G y sc N u=true:=by
 refine hide λ_ k=>?_;replace h:=X9 h;obtain⟨⟨f,l,R,w⟩,z,h⟩:=h;obtain rfl:=_Q z;replace h:=X9 h;obtain⟨g,m,h⟩:=h;obtain⟨p,rfl⟩:=Yt m;replace h:=X9 h;obtain⟨⟨x,u⟩,d,h⟩:=h;obtain rfl:=_o d;replace h:=Xc h;obtain⟨h,c⟩:=h;replace h:=Xc h;obtain⟨h,q⟩:=h;replace h:=Xc h;obtain⟨h,L⟩:=h;replace h:=Xc h;obtain⟨O,P⟩:=h;obtain rfl:=Yq O;exact k ⟨g,p,x,u,w,rfl,Xr P,L,q,c⟩
theorem _mm{f:BI}{a:IE}{w:IEs}(h:chkE G (.bi f a w) sc N e=true):∃p x j u,e=.Call (.Name (f.name:Str) p) (x::j) [] u/\G.bl.contains (f.name:Str)=true/\glB sc (f.name:Str)=true/\chkE G a sc N x=true/\chkEs G w sc N j=true:=by
 refine hide λ_ k=>?_;replace h:=X9 h;obtain⟨⟨R,l,T,u⟩,y,h⟩:=h;obtain rfl:=_Q y;replace h:=X9 h;obtain⟨g,z,h⟩:=h;obtain⟨p,rfl⟩:=Yt z;replace h:=X9 h;obtain⟨⟨x,j⟩,m,h⟩:=h;obtain rfl:=_o m;replace h:=Xc h;obtain⟨h,d⟩:=h;replace h:=Xc h;obtain⟨h,c⟩:=h;replace h:=Xc h;obtain⟨h,q⟩:=h;replace h:=Xc h;obtain⟨h,L⟩:=h;replace h:=Xc h;obtain⟨O,P⟩:=h;obtain rfl:=Yq O;obtain rfl:=Xr P;exact k ⟨p,x,j,u,rfl,L,q,c,d⟩
theorem _mn{f:B2}{a:IE}(h:chkE G (.b2 f a) sc N e=true):∃p u x w j,e=.Call (.Name (f.out:Str) p) [.Call (.Name (f.inn:Str) u) [x] [] j] [] w/\G.bl.contains (f.out:Str)=true/\G.bl.contains (f.inn:Str)=true/\glB sc (f.out:Str)=true/\glB sc (f.inn:Str)=true/\chkE G a sc N x=true:=by
 refine hide λ_ k=>?_;replace h:=X9 h;obtain⟨⟨D,l,E,w⟩,z,h⟩:=h;obtain rfl:=_Q z;replace h:=X9 h;obtain⟨g,m,h⟩:=h;obtain⟨p,rfl⟩:=Yt m;replace h:=X9 h;obtain⟨y,d,h⟩:=h;obtain rfl:=_n d;replace h:=X9 h;obtain⟨⟨c,F,q,j⟩,L,h⟩:=h;obtain rfl:=_Q L;replace h:=X9 h;obtain⟨k,O,h⟩:=h;obtain⟨u,rfl⟩:=Yt O;replace h:=X9 h;obtain⟨x,P,h⟩:=h;obtain rfl:=_n P;simp only[XM]at h;obtain⟨⟨⟨⟨⟨⟨⟨⟨R,T⟩,U⟩,W⟩,Y⟩,Z⟩,A⟩,B⟩,C⟩:=h;obtain rfl:=Yq R;obtain rfl:=Yq T;obtain rfl:=Xr U;obtain rfl:=Xr W;exact k ⟨p,u,x,w,j,rfl,Y,Z,A,B,C⟩
theorem _mj{m:MT}{o:IE}{y:IEs}(h:chkE G (.mt m o y) sc N e=true):∃l u j w,e=.Call (.Attribute l (m.name:Str) u) j [] w/\(u.endLine==w.line)=true/\chkE G o sc N l=true/\chkEs G y sc N j=true/\j.length<20:=by
 refine hide λ_ k=>?_;replace h:=X9 h;obtain⟨⟨O,j,P,w⟩,z,h⟩:=h;obtain rfl:=_Q z;replace h:=X9 h;obtain⟨⟨l,R,u⟩,g,h⟩:=h;obtain rfl:=IN g;replace h:=Xc h;obtain⟨h,d⟩:=h;replace h:=Xc h;obtain⟨h,c⟩:=h;replace h:=Xc h;obtain⟨h,f⟩:=h;replace h:=Xc h;obtain⟨h,q⟩:=h;replace h:=Xc h;obtain⟨p,L⟩:=h;obtain rfl:=Yq p;obtain rfl:=Xr L;exact k ⟨l,u,j,w,rfl,q,f,c,Xr d⟩
theorem IW{own:List Str}{w:List Nat}{y:ISr}{d:ITg}{u:IO}{z:IE}(h:chkE G (.comp own w y d u z) sc N e=true):∃x t m l j p,e=.ListComp x [⟨t,m,l,0⟩] j p/\VC sc j N own w=true/\VJ m=true/\
  (nC own w N).Nodup/\chkSr G y sc N m=true/\Za (VI j sc) (nC own w N) own.length false d t=true/\chkI G u (VI j sc) (nC own w N) l=true/\chkE G z (VI j sc) (nC own w N) x=true:=by
 replace h:=X9 h;obtain⟨⟨x,U,j⟩,c,h⟩:=h;obtain⟨p,rfl⟩:=IP c;replace h:=X9 h;obtain⟨⟨t,m,l,k⟩,g,h⟩:=h;obtain rfl:=_n g;replace h:=Xc h;obtain⟨h,f⟩:=h;replace h:=Xc h;obtain⟨h,q⟩:=h;replace h:=Xc h;obtain⟨h,L⟩:=h;replace h:=Xc h;obtain⟨h,O⟩:=h;replace h:=Xc h;obtain⟨h,P⟩:=h;replace h:=Xc h;obtain⟨h,R⟩:=h;replace h:=Xc h;obtain⟨g,T⟩:=h;obtain rfl:=Xr f;exact⟨x,t,m,l,j,p,rfl,g,T,Xr R,P,O,L,q⟩
theorem _eI{j:List (Option Expr)}{l:List Expr}(h:WE G .nil sc N j l=true):j=[]/\l=[]:=by
 replace h:=Xc h;exact⟨Yq h.1,Yq h.2⟩
theorem _dx{k v:IE}{u:IPs}{w:List (Option Expr)}{z:List Expr}(h:WE G (.cons k v u) sc N w z=true):∃x j y l,w=some x::j/\z=y::l/\chkE G k sc N x=true/\chkE G v sc N y=true/\WE G u sc N j l=true:=by
 refine hide λ_ k=>?_;replace h:=X9 h;obtain⟨⟨o,j⟩,g,h⟩:=h;replace h:=X9 h;obtain⟨⟨y,l⟩,d,h⟩:=h;replace h:=X9 h;obtain⟨x,m,h⟩:=h;replace h:=Xc h;obtain⟨h,c⟩:=h;replace h:=Xc h;obtain⟨f,q⟩:=h;dsimp only at m;subst m;exact k ⟨x,j,y,l,_o g,_o d,f,q,c⟩
theorem IY{l:List Expr}(h:chkEs G .nil sc N l=true):l=[]:=by
 exact Yq h
theorem IZ{a:IE}{u:IEs}{l:List Expr}(h:chkEs G (.cons a u) sc N l=true):∃x j,l=x::j/\chkE G a sc N x=true/\chkEs G u sc N j=true:=by
 replace h:=X9 h;obtain⟨⟨x,j⟩,w,h⟩:=h;exact⟨x,j,_o w,Xc h⟩
theorem _eK(h:chkO G .none sc N o=true):o=none:=by
 cases o with
 |none=>rfl
 |some _=>cases h
theorem _eJ{a:IE}{o:Option Expr}(h:chkO G (.some a) sc N o=true):∃x,o=some x/\chkE G a sc N x=true:=by
 exact X9 h
theorem _eM{l:List Expr}(h:chkI G .none sc N l=true):l=[]:=by
 exact Yq h
theorem _eL{a:IE}{l:List Expr}(h:chkI G (.some a) sc N l=true):∃x,l=[x]/\tok a=true/\chkE G a sc N x=true:=by
 replace h:=X9 h;obtain⟨x,j,h⟩:=h;exact⟨x,_n j,Xc h⟩
theorem _k9{a:IE}(h:chkSr G (.rng a) sc N e=true):∃p x j,e=.Call (.Name ("range":Str) p) [x] [] j/\G.bl.contains ("range":Str)=true/\glB sc ("range":Str)=true/\chkE G a sc N x=true:=by
 refine hide λ_ k=>?_;replace h:=X9 h;obtain⟨⟨q,l,L,j⟩,u,h⟩:=h;obtain rfl:=_Q u;replace h:=X9 h;obtain⟨g,w,h⟩:=h;obtain⟨p,rfl⟩:=Yt w;replace h:=X9 h;obtain⟨x,y,h⟩:=h;obtain rfl:=_n y;replace h:=Xc h;obtain⟨h,z⟩:=h;replace h:=Xc h;obtain⟨h,m⟩:=h;replace h:=Xc h;obtain⟨h,d⟩:=h;replace h:=Xc h;obtain⟨c,f⟩:=h;obtain rfl:=Yq c;obtain rfl:=Xr f;exact k ⟨p,x,j,rfl,d,m,z⟩
theorem _hC{a b:IE}(h:chkSr G (.rng2 a b) sc N e=true):∃p x y j,e=.Call (.Name ("range":Str) p) [x,y] [] j/\G.bl.contains ("range":Str)=true/\glB sc ("range":Str)=true/\chkE G a sc N x=true/\chkE G b sc N y=true:=by
 refine hide λ_ k=>?_;replace h:=X9 h;obtain⟨⟨O,l,P,j⟩,u,h⟩:=h;obtain rfl:=_Q u;replace h:=X9 h;obtain⟨g,w,h⟩:=h;obtain⟨p,rfl⟩:=Yt w;replace h:=X9 h;obtain⟨⟨x,y⟩,z,h⟩:=h;obtain rfl:=Bz z;replace h:=Xc h;obtain⟨h,m⟩:=h;replace h:=Xc h;obtain⟨h,d⟩:=h;replace h:=Xc h;obtain⟨h,c⟩:=h;replace h:=Xc h;obtain⟨h,f⟩:=h;replace h:=Xc h;obtain⟨q,L⟩:=h;obtain rfl:=Yq q;obtain rfl:=Xr L;exact k ⟨p,x,y,j,rfl,f,c,d,m⟩
theorem Dy{j:Nat}{all:Bool}{i:Nat}(h:Za sc N j all (.nm i) e=true):∃x p,e=.Name x p/\N[i]?=some x/\i<j/\(if all then locB sc x else decide (sc.names.lookup x=some .local))=true:=by
 refine hide λ_ k=>?_;replace h:=X9 h;obtain⟨x,l,h⟩:=h;obtain⟨p,rfl⟩:=Yt l;replace h:=Xc h;obtain⟨h,u⟩:=h;replace h:=Xc h;obtain⟨w,y⟩:=h;exact k ⟨x,p,rfl,Xr w,Xr y,u⟩
theorem Dz{j:Nat}{all:Bool}{u:ITgs}(h:Za sc N j all (.tup u) e=true):∃l k p,e=.Tuple l k p/\chkTgs sc N j all u l=true:=by
 replace h:=X9 h;obtain⟨l,w,h⟩:=h;obtain⟨k,p,rfl⟩:=By w;exact⟨l,k,p,rfl,h⟩
theorem _dw{j:Nat}{all:Bool}{l:List Expr}(h:chkTgs sc N j all .nil l=true):l=[]:=by
 exact Yq h
theorem J0{j:Nat}{all:Bool}{t:ITg}{w:ITgs}{l:List Expr}(h:chkTgs sc N j all (.cons t w) l=true):∃x u,l=x::u/\Za sc N j all t x=true/\chkTgs sc N j all w u=true:=by
 replace h:=X9 h;obtain⟨⟨x,u⟩,y,h⟩:=h;exact⟨x,u,_o y,Xc h⟩
end
def liT(K:X1)(t:TEm):TT:=λu H Q=>∃j M,RS K H j u/\RH K M H/\t j M (λm w=>∃b,m=.bl b/\∀l,Kp H l->RH K w l->Q b l)
def liO(K:X1)(t:Sm->MH->(Option Int->MH->Prop)->Prop):TO:=λu H Q=>∃j M,RS K H j u/\RH K M H/\t j M (λo w=>∀l,Kp H l->RH K w l->Q o l)
section
variable{K:X1}
theorem DA{t:TEm}(m:MonE t){u:St}{H:Hp}{Q:Bool->Hp->Prop}(h:liT K t u H Q):liE K t u H λx w=>∃c,x=.bl c/\Q c w:=by
 obtain⟨j,M,y,z,h⟩:=h;refine⟨j,M,y,z,m (λx M1 ⟨b,e,g⟩=>?_) h⟩;subst e;intro v d f q l;obtain rfl:=q.inv;exact⟨b,rfl,g d f l⟩
theorem J1{t:TEm}(m:MonE t){l:Sm}{M:MH}{H w:Hp}{Q:Bool->Hp->Prop}(k:Kp H w)(h:t l M λx u=>∃b,x=.bl b/\∀j,Kp H j->RH K u j->Q b j):
  t l M λx u=>∃b,x=.bl b/\∀j,Kp w j->RH K u j->Q b j:=
 m (λx u ⟨b,e,q⟩=>⟨b,e,λj y=>q j (k.trans y)⟩) h
theorem _k1{t:TAm}(d:MonE te)(mt:MonA t)(h:liA K (λl M Q=>te l M λv M1=>t l M1 λu M2=>Q (v::u) M2) l H Q):Ua (liE K te) (liA K t) l H Q:=by
 obtain⟨j,M,z,c,h⟩:=h;refine⟨j,M,z,c,d (λx M1 f=>?_) h⟩;intro v N m q w;refine⟨j,M1,z.mono m,w,mt (λO M2 p=>?_) f⟩;intro u e g L y;exact p (v::u) e (m.trans g) (.cons (q.mono g) L) y
end
def DB(X:Cx)(H:Hp):Src->It->Prop
 |.tup xs,J=>(∃a j,H a=some (.tup j)/\RMs X.K H xs j/\J=Itt X.K a)\/∃a j,FrL X.K H a j/\RMs X.K H xs j/\J=Itl X.K a
 |.lst a _,J=>J=Itl X.K a
 |.rng lo n,J=>J=Itr lo n
 |.str x,J=>J=Its x
theorem BA{X:Cx}{w H:Hp}{M:MH}{S:Src}{J:It}(s:DB X w S J)(j:RH X.K M H)(ok:S.okT M):∃l,Thw X H l/\Kp H l/\RH X.K (S.thaw M) l:=by
 cases S with
 |tup u=>exact⟨H,.inl rfl,Kp.refl _,j⟩
 |lst a u=>exact⟨H,.inl rfl,Kp.refl _,j⟩
 |rng a u=>exact⟨H,.inl rfl,Kp.refl _,j⟩
 |str x=>exact⟨H,.inl rfl,Kp.refl _,j⟩
theorem J3{M:MH}{S:Src}(ok:S.ok M):S.okT M:=by
 cases S<;>first|trivial|exact ok
theorem DC{X:Cx}{f H:Hp}{M:MH}{S:Src}{J:It}(s:DB X f S J)(k:Kp f H)(q:RH X.K M H)(ok:S.ok M):
  (∀i,i<S.len->J.go i H/\∀x u,J.yld i H x u->u=H/\∃m,S.items[i]?=some m/\RM X.K H m x)/\∀i,S.len<=i->J.stop i H:=by
 have w:∀{a:Addr} {g:List MV} {l:List V},SqL X.K H a l->RMs X.K H g l->(∀i,i<g.length->(Itl X.K a).go i H/\∀x u,(Itl X.K a).yld i H x u->u=H/\∃m,g[i]?=some m/\RM X.K H m x)/\∀i,g.length<=i->(Itl X.K a).stop i H:=by
  intro a g l d r;refine⟨λi j=>⟨⟨l,_,d,X6 (by rw[<-r.length];exact j)⟩,λx u y=>?_⟩,λi j=>⟨l,d,by rw[<-r.length];exact j⟩⟩
  exact⟨y.1,r.get' (y.2 l d)⟩
 cases S with
 |tup g=>
  rcases s with⟨a,l,h,r,rfl⟩|⟨a,l,h,r,rfl⟩
  .have h:=SqT.of (K:=X.K) (k _ _ h rfl);have r:=r.mono k;refine⟨λi j=>⟨⟨l,_,h,X6 (by rw[<-r.length];exact j)⟩,λx u y=>?_⟩,λi j=>⟨l,h,by rw[<-r.length];exact j⟩⟩
   exact⟨y.1,r.get' (y.2 l h)⟩
  .refine w (FrL.sq ?_) (r.mono k);rcases h with⟨o,h⟩|h
   .exact .inl ⟨o,k _ _ h rfl⟩
   .exact .inr h
 |lst a g=>
  cases s;obtain⟨l,h,r⟩:=q.lst ok;exact w (SqL.of h) r
 |rng lo n=>
  cases s;refine⟨λi j=>⟨j,λx u y=>⟨y.1,.int (lo+(i:Nat)),?_,?_⟩⟩,λi j=>j⟩
  .show((XI n).map _)[i]?=_;rw[Xj,X6 (by simpa using(show i<n from j))]
   simp
  .rw[y.2];exact .int _
 |str z=>
  cases s;refine⟨λi j=>⟨j,λx u y=>?_⟩,λi j=>j⟩;obtain⟨e,c,p,rfl⟩:=y;refine⟨e,.str ⟨#[c]⟩,?_,.str _⟩;show(z.cps.toList.map _)[i]?=_;rw[Xj,G9,p]
  rfl
def liSr(X:Cx)(t:TSm):TI:=λu H R=>∃j M,RS X.K H j u/\RH X.K M H/\t j M (λS w=>∀J l,Kp H l->RH X.K w l->DB X l S J->R J l)
section
variable{X:Cx}{tg:Expr}
theorem PI.weak{t:TI}(h:PI X tg e t)(i:∀j H R,t' j H R->t j H R):PI X tg e t':=λl s j H R I q=>h l s j H R I (i _ _ _ q)
end
mutual
def gOf(K:X1):ITg->TG
 |.nm i=>Bm i
 |.tup ts=>gTup K (ITgs.len ts) (gsOf K ts)
def gsOf(K:X1):ITgs->TGs
 |.nil=>gNil
 |.cons t ts=>GK (gOf K t) (gsOf K ts)
def ITgs.len:ITgs->Nat
 |.nil=>0
 |.cons _ ts=>ts.len+1
end
mutual
theorem sTg{X:Cx}{lim:Nat}{all:Bool}(u:X.calm=true)(j:X.N.Nodup)(w:all=true->∀x,X.fn x=true):∀(t:ITg){e:Expr},Za X.env.scope X.N lim all t e=true->PG X e (gOf X.K t)
 |.nm i,e,h=>by
  obtain⟨x,p,rfl,h1,h2,h3⟩:=Dy h;cases all with
  |true=>
   rw[if_pos rfl]at h3;exact GJ j h1 (V3 h3) (.inl (w rfl _))
  |false=>
   rw[if_neg Xu,decide_eq_true_eq]at h3;exact GJ j h1 (.inl h3) (.inr h3)
 |.tup y,e,h=>by
  obtain⟨es,k,p,rfl,h⟩:=Dz h;obtain⟨h1,h2,h3⟩:=sTgs u j w y h;exact QG u h1 h2 h3
theorem sTgs{all:Bool}(u:X.calm=true)(j:X.N.Nodup)(w:all=true->∀x,X.fn x=true):∀(t:ITgs){es:List Expr},chkTgs X.env.scope X.N lim all t es=true->PGs X es (gsOf X.K t)/\(ZB es X.env).length=t.len/\(ZB es X.env).findIdx? (·.1)=none
 |.nil,l,h=>by
  cases _dw h;rw[gsOf,ITgs.len];exact⟨QE,rfl,rfl⟩
 |.cons t y,l,h=>by
  obtain⟨e,es,rfl,z,g⟩:=J0 h;obtain⟨h1,h2,h3⟩:=sTgs u j w y g;have h4:=sTg u j w t z;have m:ZB (e::es) X.env=(false,assign e X.env)::ZB es X.env:=by
   cases t with
   |nm i=>obtain⟨x,p,rfl,_⟩:=Dy z;rfl
   |tup y=>obtain⟨x,k,p,rfl,_⟩:=Dz z;rfl
  rw[gsOf,ITgs.len];refine⟨QF h4 h1 (by rw[m];rfl),by rw[m,Y0,h2],?_⟩
  rw[m,List.findIdx?_cons,if_neg Xu,h3]
  rfl
end
theorem RMs.len_tgs{K:X1}:∀{u:ITgs} {w:List MV} {l:Sm} {P:Sm->Prop},wTgs u w l P->w.length=u.len
 |.nil,w,l,P,h=>by rw[h.1,ITgs.len];rfl
 |.cons t u,w,l,P,h=>by
  obtain⟨v,r,rfl,h⟩:=h;rw[Y0,ITgs.len];have z:∀(t:ITg){v:MV} {l:Sm},wTg t v l (λj=>wTgs u r j P)->∃j,wTgs u r j P:=by
   have y:(∀(t:ITg){v:MV} {l:Sm} {P:Sm->Prop},wTg t v l P->∃j,P j)/\(∀(t:ITgs){v:List MV} {l:Sm} {P:Sm->Prop},wTgs t v l P->∃j,P j):=by
    refine⟨λt=>?_,λt=>?_⟩
    .exact ITg.rec (motive_1:=λt=>∀{v:MV} {l:Sm} {P:Sm->Prop},wTg t v l P->∃j,P j) (motive_2:=λt=>∀{v:List MV} {l:Sm} {P:Sm->Prop},wTgs t v l P->∃j,P j)
      (λi v l P h=>⟨_,h⟩) (λu m v l P h=>by obtain⟨w,_,h⟩:=h;exact m h)
      (fun{v l P} h=>⟨_,h.2⟩) (λt u g d v l P h=>by obtain⟨x,r,_,h⟩:=h;obtain⟨j,h⟩:=g h;exact d h) t
    .exact ITgs.rec (motive_1:=λt=>∀{v:MV} {l:Sm} {P:Sm->Prop},wTg t v l P->∃j,P j) (motive_2:=λt=>∀{v:List MV} {l:Sm} {P:Sm->Prop},wTgs t v l P->∃j,P j)
      (λi v l P h=>⟨_,h⟩) (λu m v l P h=>by obtain⟨w,_,h⟩:=h;exact m h)
      (fun{v l P} h=>⟨_,h.2⟩) (λt u g d v l P h=>by obtain⟨x,r,_,h⟩:=h;obtain⟨j,h⟩:=g h;exact d h) t
   exact λt {v l} h=>y.1 t h
  obtain⟨j,c⟩:=z t h;rw[RMs.len_tgs (K:=K) c]
mutual
theorem WF{K:X1}{H:Hp}{lim:Nat}{g:Scope}{N:List Str}{all:Bool}{Ψ:St->Prop}(y:∀u i v,i<lim->Ψ u->Ψ (u.set i (some v))):∀(t:ITg){e:Expr} {mv:MV} {v:V} {l:Sm} {u:St} {P:Sm->Prop} {Q:St->Hp->Prop},Za g N lim all t e=true->
  RM K H mv v->RS K H l u->Ψ u->wTg t mv l P->(∀j w,P j->RS K H j w->Ψ w->Q w H)->gOf K t v u H Q
 |.nm i,e,mv,v,l,u,P,Q,m,r,rs,ps,h,hq=>by
  obtain⟨x,p,rfl,_,O,_⟩:=Dy m;exact hq _ _ h (rs.set r i) (y _ _ _ O ps)
 |.tup ts,e,mv,v,l,u,P,Q,m,r,rs,ps,h,hq=>by
  obtain⟨es,k,p,rfl,m⟩:=Dz m;obtain⟨xs,rfl,h⟩:=h;obtain⟨_,_,rfl,h1,L⟩:=r.inv;exact⟨_,_,rfl,SqT.of h1,by rw[<-L.length];exact RMs.len_tgs (K:=K) h,tgs_ok y ts m L rs ps h hq⟩
theorem tgs_ok{K:X1}{H:Hp}{lim:Nat}{g:Scope}{N:List Str}{all:Bool}{Ψ:St->Prop}(y:∀u i v,i<lim->Ψ u->Ψ (u.set i (some v))):∀(t:ITgs){es:List Expr} {z:List MV} {vs:List V} {l:Sm} {u:St} {P:Sm->Prop} {Q:St->Hp->Prop},chkTgs g N lim all t es=true->
  RMs K H z vs->RS K H l u->Ψ u->wTgs t z l P->(∀j w,P j->RS K H j w->Ψ w->Q w H)->gsOf K t vs u H Q
 |.nil,es,z,vs,l,u,P,Q,m,r,rs,ps,h,hq=>by
  obtain⟨rfl,h⟩:=h;obtain rfl:=r.inv;rw[gsOf];exact⟨rfl,hq _ _ h rs ps⟩
 |.cons t ts,es,z,vs,l,u,P,Q,m,r,rs,ps,h,hq=>by
  obtain⟨e,es,rfl,d,c⟩:=J0 m;obtain⟨x,U,rfl,h⟩:=h;obtain⟨_,_,rfl,R,T⟩:=r.inv;rw[gsOf];exact⟨_,_,rfl,WF y t d R rs ps h λj w h' f q=>tgs_ok y ts c T f q h' hq⟩
end
theorem _n0{K:X1}{u:List Nat}(y:RS K H σm σ):RS K H (sCm own u σm) (sC own u σ):=by
 refine⟨by simp[sCm,sC],λi m e=>?_⟩
 unfold sCm at e;unfold sC;by_cases hi:i<own.length
 .rw[YU (by simpa using hi),Xj]at e
  cases q:own[i]? with
  |none=>rw[q]at e;cases e
  |some z=>rw[q]at e;cases e
 .rw[Zh (by simpa using hi),X5,Xj]at e
  rw[Zh (by simpa using hi),X5,Xj]
  cases q:u[i - own.length]? with
  |none=>rw[q]at e;cases e
  |some j=>
   rw[q]at e;have l:σm.getD j none=some m:=Yo e;have g:σm[j]?=some (some m):=by
    rw[ZY]at l;cases w:σm[j]? with
    |none=>rw[w]at l;cases l
    |some o=>rw[w]at l;rw[show o=some m from l]
   obtain⟨v,d,r⟩:=y.2 j m g;refine⟨v,?_,r⟩;show some (σ.getD j none)=_;rw[ZY,d]
   rfl
theorem _hy{l:List Nat}(u:i<own.length)(k:Keep (sC own l σ) σ'):Keep (sC own l σ) (σ'.set i (some v)):=by
 refine⟨by rw[Zt];exact k.1,λj w h=>?_⟩
 by_cases hij:i=j
 .subst hij;exfalso;unfold sC at h;rw[YU (by simpa using u),Xj]at h
  cases q:own[i]? with
  |none=>rw[q]at h;cases h
  |some z=>rw[q]at h;cases h
 .rw[Zi,if_neg hij];exact k.2 j w h
theorem _hd{y:Expr}(h:Dq y=true):Hh y:=by
 intro o i;cases y<;>first|rfl|cases h
theorem BB{j:Expr}(h:VJ j=true)(l:Env):∀x,AF j l x=pure x:=by
 intro x;cases j<;>first|rfl|cases h
theorem Cok.comp(c:Cok X G Φ){j:List Nat}(l:scope.kind=.function)(u:(nC own j X.N).Nodup):Cok (cxC X scope own j C fp s₃ H₃) G Φ:=
 ⟨c.room,c.calm,rfl,(by show(if scope.kind.isAnnotationScope then CU else scope.kind)=.function;rw[l];rfl),u,c.bls,c.gls,c.fnn,c.mon,c.fns,c.mts,c.mks,c.cls⟩
def ttOf(K:X1)(j:List (Str×SpM)):IO->TT
 |.none=>tAll
 |.some e=>liT K (wE j e)
theorem J4{X:Cx}{L:List (Str×SpM)}(O:∀(j:Nat)f sp,L[j]?=some (f,sp)->MonW sp){own:List Str} {fr:List Nat} {P:ISr} {tg:ITg} {u:IO} {w:IE} {sc:Scope} {N:List Str} {t:Expr}
  (h5:Za sc N own.length false tg t=true){σ:St} {H:Hp} {Q:VK} (hw:liE X.K (wE L (.comp own fr P tg u w)) σ H Q):Dx own fr (liSr X (wSr L P)) (gOf X.K tg) (ttOf X.K L u) (liE X.K (wE L w)) σ H (λv R=>∃Y,Thw X R Y/\Q v Y):=by
 obtain⟨σm,M,rs,rh,hw⟩:=hw;refine⟨σm,M,rs,rh,mon_sr O P (λS M1 ⟨hz,q⟩=>?_) hw⟩;intro J H1 k1 Z A D hD;obtain⟨Jm,j0,j1,j2,j3⟩:=q D (Z.free hD);refine⟨λi m ys Y=>m=S.len - i/\i<=S.len/\Kp H1 Y/\∃l M2,RH X.K M2 Y/\Jm i l M2,⟨S.len,rfl,Zj _,Kp.new hD _,[],_,Z.put (Kp.new hD (.lst [])) (o:=.lst []) RMs.nil,j0⟩,?_⟩;rintro i m ys Y ⟨rfl,hi,B,l,M2,g,hj⟩;obtain⟨d1,d2,d3⟩:=j1 i l M2 hj;obtain⟨C,T⟩:=DC A B g d3;by_cases hlt:i<S.len
 .obtain⟨go,yld⟩:=C i hlt;refine .inr ⟨go,λys' R=>Kp H1 R/\∃l U,RH X.K U R/\Jm (i+1) l U,λys' R ⟨a,E,U,b,c⟩=>⟨S.len - (i+1),by lia,rfl,hlt,a,E,U,b,c⟩,λx H3 y=>?_⟩
  obtain⟨e3,m,hm,rm⟩:=yld x H3 y;subst e3;have ht:=j2 i m l M2 hm hj;refine WF (Ψ:=Keep (sC own fr σ)) (lim:=own.length) (λF i v hi k=>_hy hi k) tg h5 rm (_n0 (rs.mono (k1.trans B))) ⟨rfl,λ_ _ h=>h⟩ ht λz F hP G keep=>⟨keep,?_⟩;have p:∀{I:MH} {s:Hp},Kp H3 s->RH X.K I s->(wE L w z I λy M5=>M5 D=some (.lst l)/\Jm (i+1) (l++[y]) (updM M5 D (.lst (l++[y]))))->
    liE X.K (wE L w) F s λy H6=>∃W,H6 D=some (.lst W)/\W.length<sizeLine/\Kp H1 (upd H6 D (.lst (W++[y])))/\∃l U,RH X.K U (upd H6 D (.lst (W++[y])))/\Jm (i+1) l U:=fun{I s} n d q=>by
   refine⟨z,I,G.mono n,d,X7 O w (λy M5 ⟨hd,hj'⟩=>?_) q⟩;intro v H6 k6 r6 rh6;obtain⟨W,e,rz⟩:=rh6.lst hd;have ku:=Kp.upd e rfl (.lst (W++[v]));exact⟨W,e,by rw[<-rz.length];lia,B.trans (n.trans (k6.trans ku)),_,_,rh6.put ku (o:=.lst (l++[y])) ((rz.append (.cons r6 .nil)).mono ku),hj'⟩
  cases u with
  |none=>
   rw[wI]at hP;rw[if_pos rfl]at hP;rw[ttOf];refine Se ?_;dsimp only;rw[if_pos rfl];exact p (Kp.refl _) g hP
  |some e=>
   refine⟨z,M2,G,g,X7 O e (λv I ⟨b,eb,q⟩=>⟨b,eb,λs n d=>YS (λq=>p n d q) (λq=>⟨B.trans n,_,_,d,q⟩) q⟩) hP⟩
 .refine .inl ⟨T i (by lia),?_⟩
  have e:i=S.len:=by lia
  subst e;obtain⟨R,th,k3,rh3⟩:=BA A g (J3 d3);exact⟨R,th,j3 l M2 hj _ _ (k1.trans (B.trans k3)) (.ref D) rh3⟩
theorem J5{K:X1}{p:List (Str×SpM)}(l:∀(j:Nat)f Z,p[j]?=some (f,Z)->MonW Z){R g:CmpOp} {a b d:IE} {A:St} {H:Hp} {Q:VK} (hw:liE K (wE p (.chn R g a b d)) A H Q):
  CZ (li2 K (wCmp R)) (li2 K (wCmp g)) (liE K (wE p a)) (liE K (wE p b)) (liE K (wE p d)) A H Q:=by
 obtain⟨c,M,T,D,hw⟩:=hw;rw[IK]at hw;refine⟨c,M,T,D,X7 l a (λx M1 E=>?_) hw⟩;intro v n N F U;refine⟨c,M1,T.mono N,U,X7 l b (λy M2 G=>?_) E⟩;intro u h O B W;refine⟨x,y,M2,F.mono O,B,W,VG R (λz I ⟨k,e,J⟩=>?_) G⟩;subst e;intro z H3 P S L;obtain rfl:=S.inv;refine⟨k,rfl,YS (λq=>?_) (λq=>?_) J⟩
 .refine⟨c,I,T.mono (N.trans (O.trans P)),L,X7 l d (λw X o=>?_) q⟩;intro w' H4 C s Y;exact⟨y,w,X,B.mono (P.trans C),s,Y,VG g (λm M' i=>i.on (N.trans (O.trans (P.trans C)))) o⟩
 .exact q _ _ (N.trans (O.trans P)) (.bl _) L
def trOf(K:X1)(j:List (Str×SpM)):IPs->List (TE×TE)
 |.nil=>[]
 |.cons k v r=>(liE K (wE j k),liE K (wE j v))::trOf K j r
noncomputable def aob:IE->Bool
 |.and ..=>true
 |.or ..=>true
 |_=>false
structure Snd (X:Cx)(Φ:List (Str×SpM))(ie:IE)(e:Expr):Prop where
 pe:PE X e (liE X.K (wE Φ ie))
 pt:tok ie=true->PT X e (liT X.K (wE Φ ie))
 pw:tok ie=true->aob ie=true->PW X e (liT X.K (wE Φ ie))
theorem Snd.plain(c:Cok X G Φ)(l:PE X e (liE X.K (wE Φ ie)))(u:∀j,isTrue e X.env j=(do let v<- j;standAt e.pos;holding [v] (truthy v)))(w:aob ie=false):Snd X Φ ie e:=
 ⟨l,λ_=>(Qt l u).weak λy H Q h=>DA (t:=wE Φ ie) (X7 c.mon ie) h,λ_ h=>by rw[w]at h;cases h⟩
theorem _mE(f:BI):(∃n,f.val=.builtin n)\/∃n,f.val=.type n:=by cases f<;>first|exact .inl ⟨_,rfl⟩|exact .inr ⟨_,rfl⟩
theorem J7{G:GI}{b:IE}{j:Scope}{N:List Str}{l:BoolOp}{u:List Expr}{p:Pos}(h:chkE G b j N (.BoolOp l u p)=true):aob b=true:=by revert h;cases b<;>first|exact λ_=>rfl|exact nob
mutual
theorem sE{G:GI}{Φ:List (Str×SpM)}:∀(ie:IE){X:Cx} {e:Expr},Cok X G Φ->chkE G ie X.env.scope X.N e=true->Snd X Φ ie e
 |.var i,X,e,c,h=>by
  obtain⟨x,p,rfl,h1,h2,h3,h4⟩:=_k6 h;refine .plain c ?_ (λ_=>rfl) rfl;refine(Bl h1 (IR h2) h3 h4).weak λT H Q hw=>?_;obtain⟨L,M,O,P,hw⟩:=hw;rw[IJ]at hw;obtain⟨v,e,q⟩:=hw;obtain⟨u,hu,r⟩:=O.2 i v e;exact⟨u,hu,q _ _ (Kp.refl _) r P⟩
 |.int i,X,e,c,h=>by
  obtain⟨k,p,rfl⟩:=_ke h;refine .plain c ?_ (λ_=>rfl) rfl;refine pe_int.weak λT H Q hw=>?_;obtain⟨L,M,O,P,hw⟩:=hw;exact hw _ _ (Kp.refl _) (.int i) P
 |.str i,X,e,c,h=>by
  obtain⟨k,p,rfl⟩:=_k8 h;refine .plain c ?_ (λ_=>rfl) rfl;refine pe_str.weak λT H Q hw=>?_;obtain⟨L,M,O,P,hw⟩:=hw;exact hw _ _ (Kp.refl _) (.str i) P
 |.bl i,X,e,c,h=>by
  obtain⟨k,p,rfl⟩:=_ml h;refine .plain c ?_ (λ_=>rfl) rfl;refine pe_bl.weak λT H Q hw=>?_;obtain⟨L,M,O,P,hw⟩:=hw;exact hw _ _ (Kp.refl _) (.bl i) P
 |.non,X,e,c,h=>by
  obtain⟨k,p,rfl⟩:=_kb h;refine .plain c ?_ (λ_=>rfl) rfl;refine pe_non.weak λT H Q hw=>?_;obtain⟨L,M,O,P,hw⟩:=hw;exact hw _ _ (Kp.refl _) .non P
 |.glb x i,X,e,c,h=>by
  obtain⟨p,rfl,h1,h2⟩:=_kf h;obtain⟨g1,g2,g3⟩:=YT h2;obtain⟨tk,hm⟩:=c.gls x i h1;refine .plain c ?_ (λ_=>rfl) rfl;refine(GD (v:=.int i) g1 hm ⟨tk,rfl⟩ g2).weak λT H Q hw=>?_;obtain⟨L,M,O,P,hw⟩:=hw;exact hw _ _ (Kp.refl _) (.int i) P
 |.ty t,X,e,c,h=>by
  obtain⟨p,rfl,h0,h1,h2⟩:=_mg h;obtain⟨g1,g2,g3⟩:=YT h2;refine .plain c ?_ (λ_=>rfl) rfl;refine(Qs (v:=.ty t.name) g1 (c.bls _ h1) (_kz h0) rfl g3 g2).weak λT H Q hw=>?_;obtain⟨L,M,O,P,hw⟩:=hw;exact hw _ _ (Kp.refl _) (.ty t) P
 |.bin op a b,X,e,c,h=>by
  obtain⟨l,r,p,rfl,h1,h2⟩:=_ki h;refine .plain c ?_ (λ_=>rfl) rfl;refine(QR (Tv op) (sE a c h1).pe (sE b c h2).pe).weak λT H Q hw=>?_;have:wE Φ (.bin op a b)=λT M Q=>wE Φ a T M λx M1=>wE Φ b T M1 λy M2=>wBin op x y M2 Q:=rfl;rw[this]at hw;exact Dg (z:=wE Φ a) (tb:=wE Φ b) (w:=wBin op) (X7 c.mon a) (X7 c.mon b) (Ic op) hw
 |.neg a,X,e,c,h=>by
  obtain⟨l,p,rfl,h1⟩:=_kc h;refine .plain c ?_ (λ_=>rfl) rfl;refine(QS QZ (sE a c h1).pe).weak λT H Q hw=>?_;obtain⟨L,M,O,P,hw⟩:=hw;refine⟨L,M,O,P,X7 c.mon a (λx M1 ⟨i,e,q⟩=>?_) hw⟩;subst e;intro v W k1 U N;obtain rfl:=U.inv;exact⟨i,rfl,q _ _ k1 (.int _) N⟩
 |.not a,X,e,c,h=>by
  obtain⟨l,p,rfl,h1⟩:=_ka h;have ih:=sE a c h1;refine⟨(Qz ih.pe).weak λT H Q hw=>?_,λY=>(Qu (ih.pt Y)).weak λT H Q hw=>?_,λ_ z=>by cases z⟩
  .obtain⟨L,M,O,P,hw⟩:=hw;rw[Do]at hw;refine⟨L,M,O,P,X7 c.mon a (λx M1 ⟨i,e,q⟩=>?_) hw⟩;subst e;intro v W k1 U N;obtain rfl:=U.inv;exact⟨i,rfl,q _ _ k1 (.bl _) N⟩
  .obtain⟨L,M,O,P,hw⟩:=hw;rw[Do]at hw;refine⟨L,M,O,P,X7 c.mon a (λx M1 ⟨i,e,b,e2,q⟩=>⟨i,e,λH' k rh'=>?_⟩) hw⟩;cases e2;exact q H' k rh'
 |.cmp op a b,X,e,c,h=>by
  obtain⟨l,r,p,rfl,h1,h2,h3⟩:=_kg h;have rd:∀T H Q,liE X.K (wE Φ (.cmp op a b)) T H Q->tOp (li2 X.K (wCmp op)) (liE X.K (wE Φ a)) (liE X.K (wE Φ b)) T H Q:=λT H Q hw=>by
   have:wE Φ (.cmp op a b)=λT M Q=>wE Φ a T M λx M1=>wE Φ b T M1 λy M2=>wCmp op x y M2 Q:=rfl;rw[this]at hw;exact Dg (z:=wE Φ a) (tb:=wE Φ b) (w:=wCmp op) (X7 c.mon a) (X7 c.mon b) (VG op) hw
  refine⟨(Ra (VH c.room op) (sE a c h1).pe (sE b c h2).pe h3).weak rd,λ_=>(Rb (VH c.room op) (sE a c h1).pe (sE b c h2).pe h3).weak λT H Q hw=>?_,λ_ z=>by cases z⟩
  exact rd T H _ (DA (t:=wE Φ (.cmp op a b)) (X7 c.mon _) hw)
 |.chn op op' a b d,X,e,c,h=>by
  obtain⟨l,m,r,p,rfl,h1,h2,h3,h4⟩:=_kh h;refine⟨(Rc (VH c.room op) (VH c.room op') (sE a c h1).pe (sE b c h2).pe (sE d c h3).pe h4).weak λT H Q hw=>J5 c.mon hw,
   λ_=>(Re (VH c.room op) (VH c.room op') (sE a c h1).pe (sE b c h2).pe (sE d c h3).pe h4).weak λT H Q hw=>?_,λ_ z=>by cases z⟩
  exact J5 c.mon (DA (t:=wE Φ (.chn op op' a b d)) (X7 c.mon _) hw)
 |.and a b,X,e,c,h=>by
  obtain⟨l,r,rest,p,rfl,h1,h2⟩:=_kj h;have ih:=sE a c h1;have hb:PE X (.BoolOp .And (r::rest) p) (liE X.K (wE Φ b)):=by
   rcases h2 with⟨rfl,h2⟩|h2
   .exact GE (sE b c h2).pe
   .exact(sE b c h2).pe
  have hw':tok (.and a b)=true->PW X (.BoolOp .And (l::r::rest) p) (liT X.K (wE Φ (.and a b))):=λY=>by
   have Y:(tok a&&tok b)=true:=Y;rw[XM]at Y;have hb2:PW X (.BoolOp .And (r::rest) p) (liT X.K (wE Φ b)):=by
    rcases h2 with⟨rfl,h2⟩|h2
    .exact pw_and1 ((sE b c h2).pt Y.2)
    .refine(sE b c h2).pw Y.2 ?_;exact J7 h2
   refine(pw_and (ih.pt Y.1) hb2).weak λT H Q hw=>?_;obtain⟨L,M,O,P,hw⟩:=hw;rw[Dp]at hw;refine⟨L,M,O,P,X7 c.mon a (λx M1 ⟨k,e,q⟩=>⟨k,e,λW k1 N=>?_⟩) hw⟩;refine YS (λq=>⟨L,M1,O.mono k1,N,J1 (t:=wE Φ b) (X7 c.mon b) k1 q⟩) (λq=>let⟨b,e,q⟩:=q;MV.noConfusion e λeb=>eb▸q W k1 N) q
  refine⟨(Qx ih.pe hb).weak λT H Q hw=>?_,λY=>(hw' Y).pt,λY _=>hw' Y⟩;obtain⟨L,M,O,P,hw⟩:=hw;rw[Dp]at hw;refine⟨L,M,O,P,X7 c.mon a (λx M1 ⟨k,e,q⟩=>?_) hw⟩;subst e;intro v W k1 U N;obtain rfl:=U.inv;refine⟨k,rfl,YS (λq=>⟨L,M1,O.mono k1,N,X7 c.mon b (λm M' J=>J.on k1) q⟩) (λq=>q _ _ k1 (.bl _) N) q⟩
 |.or a b,X,e,c,h=>by
  obtain⟨l,r,rest,p,rfl,h1,h2⟩:=_mi h;have ih:=sE a c h1;have hb:PE X (.BoolOp .Or (r::rest) p) (liE X.K (wE Φ b)):=by
   rcases h2 with⟨rfl,h2⟩|h2
   .exact GE (sE b c h2).pe
   .exact(sE b c h2).pe
  have hw':tok (.or a b)=true->PW X (.BoolOp .Or (l::r::rest) p) (liT X.K (wE Φ (.or a b))):=λY=>by
   have Y:(tok a&&tok b)=true:=Y;rw[XM]at Y;have hb2:PW X (.BoolOp .Or (r::rest) p) (liT X.K (wE Φ b)):=by
    rcases h2 with⟨rfl,h2⟩|h2
    .exact pw_or1 ((sE b c h2).pt Y.2)
    .refine(sE b c h2).pw Y.2 ?_;exact J7 h2
   refine(pw_or (ih.pt Y.1) hb2).weak λT H Q hw=>?_;obtain⟨L,M,O,P,hw⟩:=hw;rw[x_or]at hw;refine⟨L,M,O,P,X7 c.mon a (λx M1 ⟨k,e,q⟩=>⟨k,e,λW k1 N=>?_⟩) hw⟩;refine YS (λq=>let⟨b,e,q⟩:=q;MV.noConfusion e λeb=>eb▸q W k1 N) (λq=>⟨L,M1,O.mono k1,N,J1 (t:=wE Φ b) (X7 c.mon b) k1 q⟩) q
  refine⟨(Qy ih.pe hb).weak λT H Q hw=>?_,λY=>(hw' Y).pt,λY _=>hw' Y⟩;obtain⟨L,M,O,P,hw⟩:=hw;rw[x_or]at hw;refine⟨L,M,O,P,X7 c.mon a (λx M1 ⟨k,e,q⟩=>?_) hw⟩;subst e;intro v W k1 U N;obtain rfl:=U.inv;refine⟨k,rfl,YS (λq=>q _ _ k1 (.bl _) N) (λq=>⟨L,M1,O.mono k1,N,X7 c.mon b (λm M' J=>J.on k1) q⟩) q⟩
 |.ife d a b,X,e,c,h=>absurd h Xu
 |.tup es,X,e,c,h=>by
  obtain⟨xs,k,p,rfl,h1⟩:=_k7 h;refine .plain c ?_ (λ_=>rfl) rfl;refine(Rk (sA es c h1)).weak λT H Q hw=>?_;obtain⟨L,M,O,P,hw⟩:=hw;refine⟨L,M,O,P,mon_es c.mon es (λms M1 ⟨hz,q⟩=>?_) hw⟩;intro vs W k1 U N;refine⟨by rw[<-U.length];exact hz,λp hp=>?_⟩
  have k2:=Kp.new hp (.tup vs);exact q _ _ (k1.trans k2) (.tup Uu (U.mono k2)) (N.kept hp _)
 |.lst es,X,e,c,h=>by
  obtain⟨xs,p,rfl,h1⟩:=_kd h;refine .plain c ?_ (λ_=>rfl) rfl;refine(GU (sA es c h1)).weak λT H Q hw=>?_;obtain⟨L,M,O,P,hw⟩:=hw;refine⟨L,M,O,P,mon_es c.mon es (λms M1 ⟨hz,q⟩=>?_) hw⟩;intro vs W k1 U N;refine⟨by rw[<-U.length];exact hz,λp hp=>?_⟩
  have k2:=Kp.new hp (.lst vs);exact q p (N.free hp) _ _ (k1.trans k2) (.ref p) (N.put k2 (U.mono k2))
 |.dic,X,e,c,h=>absurd h Xu
 |.ix a b,X,e,c,h=>by
  obtain⟨l,r,p,rfl,h1,h2,h3⟩:=_mk h;refine .plain c ?_ (λ_=>rfl) rfl;refine(RD (TB (by have:=c.room;lia)) (sE a c h1).pe (sE b c h2).pe (_hd h3)).weak λT H Q hw=>?_
  have:wE Φ (.ix a b)=λT M Q=>wE Φ a T M λx M1=>wE Φ b T M1 λy M2=>wIx x y M2 Q:=rfl;rw[this]at hw;exact Dg (z:=wE Φ a) (tb:=wE Φ b) (w:=wIx) (X7 c.mon a) (X7 c.mon b) Iu hw
 |.sl a lo hi,X,e,c,h=>by
  obtain⟨x,l,u,p,p2,rfl,h1,h2,h3⟩:=_mh h;refine .plain c ?_ (λ_=>rfl) rfl;refine(Ry TC (sE a c h1).pe (sO lo c h2) (sO hi c h3)).weak λT H Q hw=>?_;obtain⟨L,M,O,P,hw⟩:=hw;refine⟨L,M,O,P,X7 c.mon a (λx M1 Z=>?_) hw⟩;intro v W k1 U N;refine⟨L,M1,O.mono k1,N,mon_o c.mon lo (λl M2 q2=>?_) Z⟩;intro H2 k2 A;refine⟨L,M2,O.mono (k1.trans k2),A,mon_o c.mon hi (λu M3 q3=>?_) q2⟩;intro H3 k3 rh3;exact⟨x,M3,U.mono (k2.trans k3),rh3,Iw (λm M' J=>J.on (k1.trans (k2.trans k3))) q3⟩
 |.call j a es,X,e,c,h=>by
  obtain⟨f,p,x,xs,p2,rfl,h1,h2,h3,h4⟩:=_hD h;obtain⟨g1,g2,g3⟩:=YT h2;obtain⟨sp,hj⟩:=c.fnn j f h1;obtain⟨k,fa,fd,ps,hr,F,hm,hk,hb⟩:=c.fns j f sp h1 hj;have ha:PA X (x::xs) (Ua (liE X.K (wE Φ a)) (liA X.K (wEs Φ es))):=YR (sE a c h3).pe (sA es c h4) (Y8 h3);refine .plain c ?_ (λ_=>rfl) rfl;refine(GV (E:=E0) F hr g1 hm hk hb .nil S8 ha g2 (Y8 h3) (V5 (Uv (l:=p2) h4)).2).weak λT H Q hw=>?_;obtain⟨L,M,O,P,hw⟩:=hw;rw[IL]at hw;refine⟨L,M,O,P,X7 c.mon a (λv M1 Z=>?_) hw⟩;intro u W k1 U N;refine⟨L,M1,O.mono k1,N,mon_es c.mon es (λvs M2 ⟨f',sp',e,q2⟩=>?_) Z⟩;rw[hj]at e;cases e;intro us H2 k2 r2 A;refine⟨v::vs,M2,?_,A,c.mon j f sp hj (λm M' J=>J.on (k1.trans k2)) q2⟩;rw[U4];exact .cons (U.mono k2) r2
 |.bi f a es,X,e,c,h=>by
  obtain⟨p,x,xs,p2,rfl,h1,h2,h3,h4⟩:=_mm h;obtain⟨g1,g2,g3⟩:=YT h2;have ha:PA X (x::xs) (Ua (liE X.K (wE Φ a)) (liA X.K (wEs Φ es))):=YR (sE a c h3).pe (sA es c h4) (Y8 h3);have hv:=_kA f;have S:=TH (X:=X) c.calm f;have hp:PE X (.Call (.Name (f.name:Str) p) (x::xs) [] p2) (tCB (liW X.K (wBi f)) (Ua (liE X.K (wE Φ a)) (liA X.K (wEs Φ es)))):=by
   rcases _mE f with⟨n,hf⟩|⟨n,hf⟩<;>rw[hf]at hv S
   .exact D3 S g1 (c.bls _ h1) hv ha g3 g2 (Y8 h3) (V5 (Uv (l:=p2) h4)).2
   .exact Rp S g1 (c.bls _ h1) hv ha g3 g2 (Y8 h3) (V5 (Uv (l:=p2) h4)).2
  refine .plain c ?_ (λ_=>rfl) rfl;refine hp.weak λT H Q hw=>?_;obtain⟨L,M,O,P,hw⟩:=hw;refine⟨L,M,O,P,X7 c.mon a (λv M1 Z=>?_) hw⟩;intro u W k1 U N;refine⟨L,M1,O.mono k1,N,mon_es c.mon es (λvs M2 q2=>?_) Z⟩;intro us H2 k2 r2 A;exact⟨v::vs,M2,.cons (U.mono k2) r2,A,Iz f (λm M' J=>J.on (k1.trans k2)) q2⟩
 |.b2 f a,X,e,c,h=>by
  obtain⟨p,p',x,p2,p2',rfl,h1,h2,h3,h4,h5⟩:=_mn h;obtain⟨g1,g2,g3⟩:=YT h3;obtain⟨k1,k2,k3⟩:=YT h4;have hv:Yu (f.out:Str)=some f.outV:=by cases f<;>decide+kernel
  have hv':Yu (f.inn:Str)=some (.type f.inn):=by cases f<;>decide+kernel
  have hp:PE X (.Call (.Name (f.out:Str) p) [.Call (.Name (f.inn:Str) p') [x] [] p2'] [] p2) (λT H Q=>liE X.K (wE Φ a) T H λv W=>li1 X.K (wB2 f) v W Q):=by
   have hc:=TK (X:=X) c.calm f;cases f with
   |lrng=>exact Tk (p:=p) (L:=p') (l:=p2) (j:=p2') hc g1 (c.bls _ h1) hv k1 (c.bls _ h2) hv' (sE a c h5).pe g3 g2 k3 k2 (Y8 h5)
   |ssrt=>exact De (p:=p) (L:=p') (l:=p2) (j:=p2') hc g1 (c.bls _ h1) hv k1 (c.bls _ h2) hv' (sE a c h5).pe g3 g2 k3 k2 (Y8 h5)
   |lset=>exact De (p:=p) (L:=p') (l:=p2) (j:=p2') hc g1 (c.bls _ h1) hv k1 (c.bls _ h2) hv' (sE a c h5).pe g3 g2 k3 k2 (Y8 h5)
   |tset=>exact De (p:=p) (L:=p') (l:=p2) (j:=p2') hc g1 (c.bls _ h1) hv k1 (c.bls _ h2) hv' (sE a c h5).pe g3 g2 k3 k2 (Y8 h5)
  refine .plain c ?_ (λ_=>rfl) rfl;refine hp.weak λT H Q hw=>?_;obtain⟨L,M,O,P,hw⟩:=hw;refine⟨L,M,O,P,X7 c.mon a (λv M1 Z=>?_) hw⟩;intro u W k1 U N;exact⟨v,M1,U,N,IB f (λm M' J=>J.on k1) Z⟩
 |.st3 a,X,e,c,h=>absurd h Xu
 |.mxd a,X,e,c,h=>absurd h Xu
 |.mt m o es,X,e,c,h=>by
  obtain⟨ob,ap,args,cp,rfl,h1,h2,h3,h4⟩:=_mj h;have slot:PySem.Slot m.ty (m.name:Str) m.id/\typeOf (.builtin m.id)=pure (.type "method_descriptor"):=by
   cases m
   .exact⟨PySem.F.slot_list_append,PySem.F.type_list_append⟩
   .exact⟨PySem.F.slot_list_extend,PySem.F.type_list_extend⟩
   .exact⟨Gp,PySem.F.type_str_join⟩
   .exact⟨PySem.F.slot_list_index,PySem.F.type_list_index⟩
  have plain:PlainAttrs m.ty:=by
   cases m<;>first|exact PySem.F.plainAttrs_list|exact PySem.F.plainAttrs_dict|exact PySem.F.plainAttrs_str
  have hu1:X.A.units+1<cLine:=by have:=c.room;lia
  have tyL:∀{W:Hp} {M1:MH} {mx:MV} {v:V},RH X.K M1 W->RM X.K W mx v->mtOk m mx M1->tyV X.K m.ty v W:=by
   intro W M1 mx v P r hm;cases m
   case join=>
    obtain⟨z,rfl⟩:=hm;obtain rfl:=r.inv;exact rfl
   all_goals
    obtain⟨a,xs,rfl,hm⟩:=hm;obtain rfl:=r.inv;obtain⟨vs,e,_⟩:=P.lst hm;exact .inl ⟨rfl,vs,SqL.of e⟩
  refine .plain c ?_ (λ_=>rfl) rfl;cases args with
  |nil=>
   refine(RL plain slot.1 slot.2 (II hu1 m) (sE o c h2).pe (IU h2) h1).weak λT H Q hw=>?_;obtain⟨L,M,O,P,hw⟩:=hw;refine⟨L,M,O,P,X7 c.mon o (λv M1 ⟨q0,Z⟩=>?_) hw⟩;intro u W k1 U N;cases es with
   |cons _ _=>exact absurd h3 Xu
   |nil=>
    exact⟨tyL N U q0,v,[],M1,U,.nil,N,Dl (λm M' J=>J.on k1) Z⟩
  |cons x xs=>
   cases es with
   |nil=>cases IY h3
   |cons a es=>
    have h3':=h3;obtain⟨x',xs',e',h3⟩:=IZ h3;cases e';have ha:=sA (.cons a es) c h3';have hall:=V5 (j:=cp) (Uv (j:=X.env) (l:=cp) h3');refine(RN plain slot.1 slot.2 (II hu1 m) (sE o c h2).pe ha (IU h2) ?_ h1 (Y8 h3.1) (V5 (Uv (l:=cp) h3.2)).2).weak λT H Q hw=>?_
    .rw[hall.1];simp only[CH,XM,decide_eq_true_eq];refine⟨rfl,?_⟩;simp at h4 ⊢;lia
    obtain⟨L,M,O,P,hw⟩:=hw;refine⟨L,M,O,P,X7 c.mon o (λv M1 ⟨q0,Z⟩=>?_) hw⟩;intro u W k1 U N;refine⟨tyL N U q0,L,M1,O.mono k1,N,mon_es c.mon (.cons a es) (λvs M2 q2=>?_) Z⟩;intro us H2 k2 r2 A;exact⟨v,vs,M2,U.mono k2,r2,A,Dl (λm M' J=>J.on (k1.trans k2)) q2⟩
 |.comp own fr src tg test elt,X,e,c,h=>by
  obtain⟨x,t,it,ifs,scope,p,rfl,h1,h2,h3,h4,h5,h6,h7⟩:=IW h;refine .plain c ?_ (λ_=>rfl) rfl;refine(_hh own fr (g:=gOf X.K tg) (te:=liE X.K (wE Φ elt)) (λe s h=>by rw[c.nox]at h;exact h) c.calm h1 (sSr src (tg:=t) c h4) (λC fp B D=>sTg (X:=cxC X scope own fr C fp B D) (lim:=own.length) (all:=false) c.calm h3 (λz=>by cases z) tg h5) (tt:=ttOf X.K Φ test) (λC fp B D=>sI (X:=cxC X scope own fr C fp B D) test (c.comp (VD h1).kind h3) h6)
   (λC fp B D=>(sE (X:=cxC X scope own fr C fp B D) elt (c.comp (VD h1).kind h3) h7).pe) (BB h2 _)).thaw.weak λT H Q hw=>?_
  exact J4 c.mon h5 hw
 |.fld cn o f,X,e,c,h=>absurd h Xu
 |.mcall j cn m o es,X,e,c,h=>absurd h Xu
 |.make j cn a es,X,e,c,h=>absurd h Xu
 |.disp ps,X,e,c,h=>absurd h Xu
theorem sP:∀(ps:IPs){X:Cx} {pos:Pos} {ks:List (Option Expr)} {vs:List Expr},Cok X G Φ->WE G ps X.env.scope X.N ks vs=true->PPs X pos ks vs (trOf X.K Φ ps)
 |.nil,X,pos,ks,vs,c,h=>by
  obtain⟨rfl,rfl⟩:=_eI h;exact S1
 |.cons k v r,X,pos,ks,vs,c,h=>by
  obtain⟨x,ks',y,vs',rfl,rfl,h1,h2,h3⟩:=_dx h;exact S2 (sE k c h1).pe (sE v c h2).pe (sP r c h3)
theorem sA{G:GI}{Φ:List (Str×SpM)}:∀(ies:IEs){X:Cx} {es:List Expr},Cok X G Φ->chkEs G ies X.env.scope X.N es=true->PA X es (liA X.K (wEs Φ ies))
 |.nil,X,es,c,h=>by
  cases es with
  |cons _ _=>cases IY h
  |nil=>
   refine pa_nil.weak λT H Q hw=>?_;obtain⟨L,M,O,P,hw⟩:=hw;exact hw _ _ (Kp.refl _) .nil P
 |.cons a as,X,es,c,h=>by
  cases es with
  |nil=>cases h
  |cons x xs=>
   obtain⟨x',xs',e',h⟩:=IZ h;cases e';refine(YR (sE a c h.1).pe (sA as c h.2) (Y8 h.1)).weak λT H Q hw=>?_;have:wEs Φ (.cons a as)=λT M Q=>wE Φ a T M λv M1=>wEs Φ as T M1 λvs M2=>Q (v::vs) M2:=rfl;rw[this]at hw;exact _k1 (te:=wE Φ a) (t:=wEs Φ as) (X7 c.mon a) (mon_es c.mon as) hw
theorem sO{G:GI}{Φ:List (Str×SpM)}:∀(io:IO){X:Cx} {e:Option Expr},Cok X G Φ->chkO G io X.env.scope X.N e=true->PO X e (liO X.K (wO Φ io))
 |.none,X,e,c,h=>by
  cases e with
  |some _=>cases _eK h
  |none=>
   intro pz s T H Q I hw;refine Rw pz s T H Q I ?_;obtain⟨L,M,O,P,hw⟩:=hw;exact hw _ (Kp.refl _) P
 |.some a,X,e,c,h=>by
  cases e with
  |none=>exact absurd h Xu
  |some x=>
   obtain⟨x',e',h⟩:=_eJ h;cases e';intro pz s T H Q I hw;refine Rx (sE a c h).pe pz s T H Q I ?_;obtain⟨L,M,O,P,hw⟩:=hw;refine⟨L,M,O,P,X7 c.mon a (λv M1 ⟨i,e,q⟩=>?_) hw⟩;subst e;intro u W k1 U N;obtain rfl:=U.inv;exact⟨i,rfl,q W k1 N⟩
theorem sI{G:GI}{Φ:List (Str×SpM)}:∀(io:IO){X:Cx} {es:List Expr},Cok X G Φ->chkI G io X.env.scope X.N es=true->PTs X es (ttOf X.K Φ io)
 |.none,X,es,c,h=>by
  cases es with
  |cons _ _=>cases _eM h
  |nil=>exact .inl ⟨rfl,rfl⟩
 |.some a,X,es,c,h=>by
  obtain⟨x,rfl,h1,h2⟩:=_eL h;exact .inr ⟨x,rfl,(sE a c h2).pt h1⟩
theorem sSr{G:GI}{Φ:List (Str×SpM)}:∀(s:ISr){X:Cx} {tg e:Expr},Cok X G Φ->chkSr G s X.env.scope X.N e=true->PI X tg e (liSr X (wSr Φ s))
 |.seq a,X,tg,e,c,h=>by
  refine(T7 (sE a c h).pe).weak λT H R hw=>?_;obtain⟨L,M,O,P,hw⟩:=hw;refine⟨L,M,O,P,X7 c.mon a (λv M1 q=>?_) hw⟩;intro u W k1 U N;rcases q with⟨xs,e,q⟩|⟨b,xs,e,hb,q⟩|q|⟨z,e,q⟩
  .rcases e with e|e
   .subst e;obtain⟨_,_,rfl,h1,Z⟩:=U.inv;exact .inl ⟨_,rfl,.inr (.inl ⟨_,SqT.of h1,q _ _ k1 N (.inl ⟨_,_,h1,Z,rfl⟩)⟩)⟩
   .subst e;obtain⟨_,_,rfl,h1,Z⟩:=U.inv;exact .inl ⟨_,rfl,.inl ⟨_,h1.sq,q _ _ k1 N (.inr ⟨_,_,h1,Z,rfl⟩)⟩⟩
  .subst e;obtain rfl:=U.inv;obtain⟨vs,e2,_⟩:=N.lst hb;exact .inl ⟨_,rfl,.inl ⟨_,SqL.of e2,q _ _ k1 N rfl⟩⟩
  .exact q.elim
  .subst e;obtain rfl:=U.inv;exact .inr ⟨z,rfl,q _ _ k1 N rfl⟩
 |.rng a,X,tg,e,c,h=>by
  obtain⟨p,x,p2,rfl,h2,h3,h4⟩:=_k9 h;refine(QO (YT h3).1 (c.bls _ h2) (YR (sE a c h4).pe pa_nil (Y8 h4)) (Y8 h4)).weak λT H R hw=>?_;obtain⟨L,M,O,P,hw⟩:=hw;refine⟨L,M,O,P,X7 c.mon a (λv M1 ⟨j,e,Z,q2,q⟩=>?_) hw⟩;subst e;intro u W k1 U N;obtain rfl:=U.inv;exact⟨j,rfl,Z,q2,q _ _ k1 N rfl⟩
 |.rng2 a b,X,tg,e,c,h=>by
  obtain⟨p,x,y,p2,rfl,h2,h3,h4,h5⟩:=_hC h;refine(QP (YT h3).1 (c.bls _ h2) (YR (sE a c h4).pe (YR (sE b c h5).pe pa_nil (Y8 h5)) (Y8 h4)) (by rw[Y8 h4,Y8 h5];rfl) (Y8 h5)).weak λT H R hw=>?_
  obtain⟨L,M,O,P,hw⟩:=hw;refine⟨L,M,O,P,X7 c.mon a (λv M1 Z=>?_) hw⟩;intro u W k1 U N;refine⟨L,M1,O.mono k1,N,X7 c.mon b (λw M2 ⟨i,j,e1,e2,hb,q⟩=>?_) Z⟩;subst e1 e2;intro u2 H2 k2 r2 A;obtain rfl:=U.inv;obtain rfl:=r2.inv;exact⟨i,j,rfl,hb,q _ _ (k1.trans k2) A rfl⟩
end
end L2
namespace L2
set_option genInjectivity false
set_option genCtorIdx false
open PySem PySem.Spec PyProof.Rows
mutual
inductive IS where
 |pass|brk|cnt|never
 |ret (e:IE)|retN
 |set (i:Nat)(e:IE)
 |asg (t:ITgs)(e:IE)
 |put (o i e:IE)
 |fset (c:Str)(o:IE)(f:Str)(e:IE)
 |expr (e:IE)
 |ite (c:IE)(a b:ISs)
 |for_ (t:ITg)(s:ISr)(b:ISs)
 |while_ (c:IE)(b:ISs)
inductive ISs where|nil|cons (s:IS)(r:ISs)
end
structure EndM where
 nx:Sm->MH->Prop
 rt:QM
 bk:Sm->MH->Prop:=λ_ _=>False
 ct:Sm->MH->Prop:=λ_ _=>False
mutual
def wS(Φ:List (Str×SpM)):IS->EndM->Sm->MH->Prop
 |.pass,D,j,M=>D.nx j M
 |.brk,D,j,M=>D.bk j M
 |.cnt,D,j,M=>D.ct j M
 |.never,_,_,_=>False
 |.ret e,D,j,M=>wE Φ e j M D.rt
 |.retN,D,_,M=>D.rt .non M
 |.set i e,D,j,M=>wE Φ e j M λv M1=>D.nx (j.set i (some v)) M1
 |.asg t e,D,j,M=>wE Φ e j M λv M1=>∃xs,v=.tup xs/\wTgs t xs j λl=>D.nx l M1
 |.put o i e,D,j,M=>wE Φ e j M λv M1=>wE Φ o j M1 λx M2=>wE Φ i j M2 λy g=>wPut x y v g λd=>D.nx j d
 |.fset c o f e,D,j,M=>wE Φ e j M λv M1=>wE Φ o j M1 λx M2=>∃a fs,x=.ref a/\M2 a=some (.ins c fs)/\fs.length<1000/\D.nx j (updM M2 a (.ins c (putM fs f v)))
 |.expr e,D,j,M=>wE Φ e j M λ_ M1=>D.nx j M1
 |.ite c a b,D,j,M=>wE Φ c j M λx M1=>onB x λk=>(if k=true then wSs Φ a D j M1 else wSs Φ b D j M1)
 |.for_ t s b,D,j,M=>wSr Φ s j M λS M1=>∃J:Nat->Sm->MH->Prop,J 0 j M1/\(∀i j M,J i j M->S.ok M)/\
   (∀i x j M,S.items[i]?=some x->J i j M->wTg t x j λw=>wSs Φ b {nx:=J (i+1),rt:=λv M=>S.okT M/\D.rt v (S.thaw M),bk:=λj M=>S.okT M/\D.nx j (S.thaw M),ct:=J (i+1)} w M)/\∀j M,J S.len j M->D.nx j (S.thaw M)
 |.while_ c b,D,j,M=>∃J:Nat->Sm->MH->Prop,(∃m,J m j M)/\∀m j M,J m j M->wE Φ c j M λx M1=>∃k,x=.bl k/\
   (if k=true then wSs Φ b {nx:=λl z=>∃u,u<m/\J u l z,rt:=D.rt,bk:=D.nx,ct:=λl z=>∃u,u<m/\J u l z} j M1 else D.nx j M1)
def wSs(Φ:List (Str×SpM)):ISs->EndM->Sm->MH->Prop
 |.nil,D,j,M=>D.nx j M
 |.cons s r,D,j,M=>wS Φ s {nx:=λj M=>wSs Φ r D j M,rt:=D.rt,bk:=D.bk,ct:=D.ct} j M
end
theorem J8{j:List (Str×SpM)}{c:IE}{a b:ISs}{D:EndM}{l:Sm}{M:MH}:wS j (.ite c a b) D l M=wE j c l M λx M1=>∃k,x=.bl k/\(if k=true then wSs j a D l M1 else wSs j b D l M1):=by rw[wS];simp only[V1]
structure EndM.Le (D D':EndM):Prop where
 nx:∀σ M,D.nx σ M->D'.nx σ M
 rt:∀v M,D.rt v M->D'.rt v M
 bk:∀σ M,D.bk σ M->D'.bk σ M
 ct:∀σ M,D.ct σ M->D'.ct σ M
mutual
theorem BC{Φ:List (Str×SpM)}(u:∀(j:Nat)f sp,Φ[j]?=some (f,sp)->MonW sp):∀(s:IS){D g:EndM} {w:Sm} {M:MH},D.Le g->wS Φ s D w M->wS Φ s g w M
 |.pass,D,g,w,M,l,h=>by exact l.nx _ _ h
 |.brk,D,g,w,M,l,h=>by exact l.bk _ _ h
 |.cnt,D,g,w,M,l,h=>by exact l.ct _ _ h
 |.never,D,g,w,M,l,h=>h.elim
 |.ret e,D,g,w,M,l,h=>by exact X7 u e l.rt h
 |.retN,D,g,w,M,l,h=>by exact l.rt _ _ h
 |.set i e,D,g,w,M,l,h=>by exact X7 u e (λv M1 h1=>l.nx _ _ h1) h
 |.asg t e,D,g,w,M,l,h=>by exact X7 u e (λv M1 ⟨xs,e,h1⟩=>⟨xs,e,mon_tgs t (λL h2=>l.nx _ _ h2) h1⟩) h
 |.put o i e,D,g,w,M,l,h=>by
  exact X7 u e (λv M1 h1=>X7 u o (λx M2 h2=>X7 u i (λy Y h3=>TR (λZ h4=>l.nx _ _ h4) h3) h2) h1) h
 |.fset c o f e,D,g,w,M,l,h=>by
  exact X7 u e (λv M1 h1=>X7 u o (λx M2 ⟨a,fs,N,O,P,h2⟩=>⟨a,fs,N,O,P,l.nx _ _ h2⟩) h1) h
 |.expr e,D,g,w,M,l,h=>by exact X7 u e (λv M1 h1=>l.nx _ _ h1) h
 |.ite c a b,D,g,w,M,l,h=>by
  rw[J8]at h ⊢;exact X7 u c (λx M1 ⟨k,e,h1⟩=>⟨k,e,YS (mon_ss u a l) (mon_ss u b l) h1⟩) h
 |.for_ t s b,D,g,w,M,l,h=>by
  refine mon_sr u s (λS M1 ⟨J,q,p,R,T⟩=>⟨J,q,p,λi x w M U d=>?_,λw M d=>l.nx _ _ (T w M d)⟩) h;exact Uc t (λW h2=>by refine mon_ss u b ?_ h2;exact⟨λ_ _ z=>z,λ_ _ z=>⟨z.1,l.rt _ _ z.2⟩,λ_ _ z=>⟨z.1,l.nx _ _ z.2⟩,λ_ _ z=>z⟩) (R i x w M U d)
 |.while_ c b,D,g,w,M,l,h=>by
  obtain⟨J,q,p⟩:=h;refine⟨J,q,λm w M d=>X7 u c (λx M1 ⟨k,e,h1⟩=>⟨k,e,YS (λz=>by refine mon_ss u b ?_ z;exact⟨λ_ _ z=>z,l.rt,l.nx,λ_ _ z=>z⟩) (l.nx _ _) h1⟩) (p m w M d)⟩
theorem mon_ss{Φ:List (Str×SpM)}(u:∀(j:Nat)f sp,Φ[j]?=some (f,sp)->MonW sp):∀(s:ISs){D g:EndM} {w:Sm} {M:MH},D.Le g->wSs Φ s D w M->wSs Φ s g w M
 |.nil,D,g,w,M,l,h=>by exact l.nx _ _ h
 |.cons s r,D,g,w,M,l,h=>by
  refine BC u s ?_ h;exact⟨λw M h1=>mon_ss u r l h1,l.rt,l.bk,l.ct⟩
end
noncomputable def J9:Expr->Bool
 |.Tuple ..=>false|_=>true
noncomputable def V6:Expr->Bool
 |.ListComp ..=>false|.SetComp ..=>false|.DictComp ..=>false|_=>true
noncomputable def DD:Stmt->Option (Option Expr)|.Return v _=>some v|_=>none
noncomputable def VM:Stmt->Option (List Expr×Expr)|.Assign ts v _=>some (ts,v)|_=>none
noncomputable def asEx:Stmt->Option Expr|.Expr v _=>some v|_=>none
noncomputable def DE:Stmt->Option (Expr×List Stmt×List Stmt)|.If t x y _=>some (t,x,y)|_=>none
noncomputable def DF:Stmt->Option (Expr×Expr×List Stmt×List Stmt)|.For t i b r _=>some (t,i,b,r)|_=>none
section
variable{e:Stmt}
theorem Ja{x:Option Expr}(h:DD e=some x):∃p,e=.Return x p:=by revert h;cases e<;>first|exact nos|(intro h;cases h;exact⟨_,rfl⟩)
theorem WG{x:List Expr×Expr}(h:VM e=some x):∃p,e=.Assign x.1 x.2 p:=by revert h;cases e<;>first|exact nos|(intro h;cases h;exact⟨_,rfl⟩)
theorem DG{x:Expr}(h:asEx e=some x):∃p,e=.Expr x p:=by revert h;cases e<;>first|exact nos|(intro h;cases h;exact⟨_,rfl⟩)
theorem Jb{x:Expr×List Stmt×List Stmt}(h:DE e=some x):∃p,e=.If x.1 x.2.1 x.2.2 p:=by revert h;cases e<;>first|exact nos|(intro h;cases h;exact⟨_,rfl⟩)
theorem Jc{x:Expr×Expr×List Stmt×List Stmt}(h:DF e=some x):∃p,e=.For x.1 x.2.1 x.2.2.1 x.2.2.2 p:=by revert h;cases e<;>first|exact nos|(intro h;cases h;exact⟨_,rfl⟩)
end
mutual
def chkS(G:GI)(j:Scope)(N:List Str):IS->Stmt->Bool
 |.pass,_=>false
 |.brk,_=>false
 |.cnt,_=>false
 |.never,_=>true
 |.ret e,s=>(DD s).any λo=>o.any λx=>chkE G e j N x
 |.retN,_=>false
 |.set i e,s=>(VM s).any λq=>(the1 q.1).any λt=>(Yp t).any λx=>decide (N[i]?=some x)&&locB j x&&chkE G e j N q.2
 |.asg t e,s=>(VM s).any λq=>(the1 q.1).any λg=>(VL g).any λes=>chkTgs j N N.length true t es&&chkE G e j N q.2&&J9 q.2
 |.put o i e,_=>false
 |.fset c o f e,_=>false
 |.expr e,s=>(asEx s).any λv=>chkE G e j N v&&V6 v
 |.ite c a b,s=>(DE s).any λq=>tok c&&chkE G c j N q.1&&chkSs G j N a q.2.1&&chkSs G j N b q.2.2
 |.for_ t r b,s=>(DF s).any λq=>Za j N N.length true t q.1&&chkSr G r j N q.2.1&&VJ q.2.1&&chkSs G j N b q.2.2.1&&non0 q.2.2.2
 |.while_ c b,_=>false
def chkSs(G:GI)(j:Scope)(N:List Str):ISs->List Stmt->Bool
 |.nil,l=>non0 l
 |.cons s r,l=>(hd1 l).any λq=>chkS G j N s q.1&&chkSs G j N r q.2
end
def liD(K:X1)(H:Hp)(D:Ends):EndM where
 nx:=λl M=>∀u j,Kp H j->RS K j l u->RH K M j->D.nx u j
 rt:=Dn K H D.rt
 bk:=λl M=>∀u j,Kp H j->RS K j l u->RH K M j->D.bk u j
 ct:=λl M=>∀u j,Kp H j->RS K j l u->RH K M j->D.ct u j
theorem liD.on{K:X1}{H w:Hp}{D:Ends}(k:Kp H w):(liD K H D).Le (liD K w D):=
 ⟨λ_ _ h j l u=>h j l (k.trans u),λ_ _ h=>h.on k,λ_ _ h j l u=>h j l (k.trans u),λ_ _ h j l u=>h j l (k.trans u)⟩
def liSt(K:X1)(t:EndM->Sm->MH->Prop):TS:=λD l H=>∃j M,RS K H j l/\RH K M H/\t (liD K H D) j M
theorem DH{e:Expr}{x:Str}{p:Pos}{l:Nat}{j:Env}(h:V6 e=true):UI e (some (.Name x p)) l j=pure false:=by cases e<;>first|rfl|cases h
theorem DI{e:Expr}{l:Nat}{j:Env}(h:V6 e=true):UI e none l j=pure false:=by cases e<;>first|rfl|cases h
theorem _h6{e:Expr}{l:List Expr}{k:Nat}{p:Pos}{u:Nat}{j:Env}:UI e (some (.Tuple l k p)) u j=pure false:=by cases e<;>rfl
theorem _ff{l:Expr}{y:List Comprehension}{j:Scope}{u p:Pos}{x:Str}{z:Nat}{w:Env}:∃b:Bool,UI (.ListComp l y j u) (some (.Name x p)) z w=pure b:=⟨_,rfl⟩
theorem _kr{G:GI}{l:IE}{y:Scope}{N:List Str}{e:Expr}(h:chkE G l y N e=true):V6 e=true\/∃own z u m j w,l=.comp own z u m j w:=by
 revert h;cases e<;>first
  |exact λ_=>.inl rfl
  |(cases l<;>first
    |exact nob
    |exact λ_=>.inr ⟨_,_,_,_,_,_,rfl⟩)
section
variable{G:GI}{sc:Scope}{N:List Str}{st:Stmt}
theorem _hF{e:IE}(h:chkS G sc N (.ret e) st=true):∃x p,st=.Return (some x) p/\chkE G e sc N x=true:=by
 replace h:=X9 h;obtain⟨o,j,h⟩:=h;obtain⟨p,rfl⟩:=Ja j;replace h:=X9 h;obtain⟨x,rfl,h⟩:=h;exact⟨x,p,rfl,h⟩
theorem _hE{i:Nat}{e:IE}(h:chkS G sc N (.set i e) st=true):∃x j v p,st=.Assign [.Name x j] v p/\N[i]?=some x/\locB sc x=true/\chkE G e sc N v=true:=by
 replace h:=X9 h;obtain⟨⟨g,v⟩,l,h⟩:=h;obtain⟨p,rfl⟩:=WG l;replace h:=X9 h;obtain⟨t,u,h⟩:=h;obtain rfl:=_n u;replace h:=X9 h;obtain⟨x,w,h⟩:=h;obtain⟨j,rfl⟩:=Yt w;replace h:=Xc h;obtain⟨h,y⟩:=h;replace h:=Xc h;obtain⟨z,m⟩:=h;exact⟨x,j,v,p,rfl,Xr z,m,y⟩
theorem _hI{t:ITgs}{e:IE}(h:chkS G sc N (.asg t e) st=true):∃j k pt v p,st=.Assign [.Tuple j k pt] v p/\chkTgs sc N N.length true t j=true/\chkE G e sc N v=true/\J9 v=true:=by
 replace h:=X9 h;obtain⟨⟨d,v⟩,l,h⟩:=h;obtain⟨p,rfl⟩:=WG l;replace h:=X9 h;obtain⟨g,u,h⟩:=h;obtain rfl:=_n u;replace h:=X9 h;obtain⟨j,w,h⟩:=h;obtain⟨k,pt,rfl⟩:=By w;replace h:=Xc h;obtain⟨h,y⟩:=h;replace h:=Xc h;obtain⟨z,m⟩:=h;exact⟨j,k,pt,v,p,rfl,z,m,y⟩
theorem _g8{e:IE}(h:chkS G sc N (.expr e) st=true):∃v p,st=.Expr v p/\chkE G e sc N v=true/\V6 v=true:=by
 replace h:=X9 h;obtain⟨v,j,h⟩:=h;obtain⟨p,rfl⟩:=DG j;exact⟨v,p,rfl,Xc h⟩
theorem _hG{c:IE}{a b:ISs}(h:chkS G sc N (.ite c a b) st=true):∃t x y p,st=.If t x y p/\tok c=true/\chkE G c sc N t=true/\chkSs G sc N a x=true/\chkSs G sc N b y=true:=by
 replace h:=X9 h;obtain⟨⟨t,x,y⟩,j,h⟩:=h;obtain⟨p,rfl⟩:=Jb j;replace h:=Xc h;obtain⟨h,l⟩:=h;replace h:=Xc h;obtain⟨h,u⟩:=h;replace h:=Xc h;obtain⟨w,z⟩:=h;exact⟨t,x,y,p,rfl,w,z,u,l⟩
theorem _hH{t:ITg}{s:ISr}{b:ISs}(h:chkS G sc N (.for_ t s b) st=true):∃u l j p,st=.For u l j [] p/\Za sc N N.length true t u=true/\chkSr G s sc N l=true/\VJ l=true/\chkSs G sc N b j=true:=by
 replace h:=X9 h;obtain⟨⟨u,l,j,w⟩,y,h⟩:=h;obtain⟨p,rfl⟩:=Jc y;replace h:=Xc h;obtain⟨h,z⟩:=h;replace h:=Xc h;obtain⟨h,m⟩:=h;replace h:=Xc h;obtain⟨h,g⟩:=h;replace h:=Xc h;obtain⟨d,c⟩:=h;obtain rfl:=Yq z;exact⟨u,l,j,p,rfl,d,c,g,m⟩
theorem _g7{j:List Stmt}(h:chkSs G sc N .nil j=true):j=[]:=by
 exact Yq h
theorem _eN{s:IS}{r:ISs}{j:List Stmt}(h:chkSs G sc N (.cons s r) j=true):∃x l,j=x::l/\chkS G sc N s x=true/\chkSs G sc N r l=true:=by
 replace h:=X9 h;obtain⟨⟨x,l⟩,u,h⟩:=h;exact⟨x,l,_o u,Xc h⟩
end
mutual
theorem sS{G:GI}{Φ:List (Str×SpM)}:∀(is:IS){X:Cx} {st:Stmt},Cok X G Φ->(∀x,X.fn x=true)->chkS G X.env.scope X.N is st=true->PS X st (liSt X.K (wS Φ is))
 |.pass,X,st,c,hf,h=>absurd h Xu
 |.brk,X,st,c,hf,h=>absurd h Xu
 |.cnt,X,st,c,hf,h=>absurd h Xu
 |.never,X,st,c,hf,h=>by
  refine ps_never.weak λD Z H hw=>?_;obtain⟨j,M,w,W,hw⟩:=hw;exact hw
 |.ret e,X,st,c,hf,h=>by
  obtain⟨v,p,rfl,h⟩:=_hF h;refine(GG (sE e c h).pe).weak λD Z H hw=>?_;obtain⟨j,M,w,W,hw⟩:=hw;exact⟨j,M,w,W,hw⟩
 |.retN,X,st,c,hf,h=>absurd h Xu
 |.set i e,X,st,c,hf,h=>by
   obtain⟨x,px,v,p,rfl,h1,h2,h3⟩:=_hE h;have rd:∀D Z H,liSt X.K (wS Φ (.set i e)) D Z H->liE X.K (wE Φ e) Z H λv F=>D.nx (Z.set i (some v)) F:=λD Z H hw=>by
    obtain⟨j,M,w,W,hw⟩:=hw;refine⟨j,M,w,W,X7 c.mon e (λv M1 q=>?_) hw⟩;intro u F k1 r1 L;exact q _ _ k1 ((w.mono k1).set r1 i) L
   rcases _kr h3 with hn|⟨own,fr,src,tg,test,elt,rfl⟩
   .exact(Bn c.nd h1 (V3 h2) (sE e c h3).pe (DH hn) (.inl (hf _))).weak rd
   .obtain⟨y,t,it,ifs,scope,p3,rfl,i1,i2,i3,i4,i5,i6,i7⟩:=IW h3;obtain⟨b,hb⟩:=_ff (l:=y) (y:=[⟨t,it,ifs,0⟩]) (j:=scope) (u:=p3) (p:=px) (x:=x) (z:=p.line) (w:=X.env);cases b with
    |false=>exact(Bn c.nd h1 (V3 h2) (sE _ c h3).pe hb (.inl (hf _))).weak rd
    |true=>
     refine(_dg own fr (g:=gOf X.K tg) (te:=liE X.K (wE Φ elt)) (tt:=ttOf X.K Φ test) c.nd h1 (V3 h2) (λe s h=>by rw[c.nox]at h;exact h) c.calm i1 (sSr src (tg:=t) c i4)
      (λC fp T U=>sTg (X:=cxC X scope own fr C fp T U) (lim:=own.length) (all:=false) c.calm i3 (λz=>by cases z) tg i5) (λC fp T U=>sI (X:=cxC X scope own fr C fp T U) test (c.comp (VD i1).kind i3) i6)
      (λC fp T U=>(sE (X:=cxC X scope own fr C fp T U) elt (c.comp (VD i1).kind i3) i7).pe) hb (BB i2 _) (.inl (hf _))).thaw.weak λD Z H hw=>?_
     exact J4 c.mon i5 (rd D Z H hw)
 |.asg t e,X,st,c,hf,h=>by
   obtain⟨es,k,pt,v,p,rfl,h1,h2,h3⟩:=_hI h;have hT:Za X.env.scope X.N X.N.length true (.tup t) (.Tuple es k pt)=true:=h1;refine(QH (sE e c h2).pe (sTg (lim:=X.N.length) (all:=true) c.calm c.nd (λ_=>hf) (.tup t) hT) (_h6 (e:=v) (l:=es) (k:=k) (p:=pt) (u:=p.line) (j:=X.env)) (by cases v<;>first|rfl|cases h3) rfl).weak λD Z H hw=>?_
   obtain⟨j,M,w,W,hw⟩:=hw;refine⟨j,M,w,W,X7 c.mon e (λv M1 ⟨xs,e,q⟩=>?_) hw⟩;intro u F k1 r1 L;refine WF (Ψ:=λ_=>True) (lim:=X.N.length) (λ_ _ _ _ z=>z) (.tup t) hT r1 (w.mono k1) trivial (P:=λl=>(liD X.K H D).nx l M1) ⟨xs,e,q⟩ λN l q' O _=>?_;exact q' _ _ k1 O L
 |.put o i e,X,st,c,hf,h=>absurd h Xu
 |.fset cn o f e,X,st,c,hf,h=>absurd h Xu
 |.expr e,X,st,c,hf,h=>by
  obtain⟨v,p,rfl,h1,h2⟩:=_g8 h;refine(GF (sE e c h1).pe (DI h2)).weak λD Z H hw=>?_;obtain⟨j,M,w,W,hw⟩:=hw;refine⟨j,M,w,W,X7 c.mon e (λv M1 q=>?_) hw⟩;intro u F k1 r1 L;exact q _ _ k1 (w.mono k1) L
 |.ite d a b,X,st,c,hf,h=>by
  obtain⟨t,x,y,p,rfl,h1,h2,h3,h4⟩:=_hG h;refine(GH ((sE d c h2).pt h1) (sSs a c hf h3) (sSs b c hf h4)).weak λD Z H hw=>?_;obtain⟨j,M,w,W,hw⟩:=hw;rw[J8]at hw;refine⟨j,M,w,W,X7 c.mon d (λx M1 ⟨k,e,q⟩=>⟨k,e,λF k1 L=>?_⟩) hw⟩;exact YS (λq=>⟨j,M1,w.mono k1,L,mon_ss c.mon a (liD.on k1) q⟩) (λq=>⟨j,M1,w.mono k1,L,mon_ss c.mon b (liD.on k1) q⟩) q
 |.for_ t s b,X,st,c,hf,h=>by
   obtain⟨tg,it,body,p,rfl,h1,h2,h3,h4⟩:=_hH h;refine(GN (by rw[c.nox];exact PassesOwn.never) c.calm (sSr s (tg:=tg) c h2) (sTg (lim:=X.N.length) (all:=true) c.calm c.nd (λ_=>hf) t h1) (sSs b c hf h4) (BB h3 _)).thaw.weak λD Z H hw=>?_
   obtain⟨j,M,w,W,hw⟩:=hw;refine⟨j,M,w,W,mon_sr c.mon s (λS M1 ⟨J,j0,j1,j2,j3⟩=>?_) hw⟩;intro I F k1 L Q;refine⟨λi m l E=>m=S.len - i/\i<=S.len/\Kp F E/\∃N Y,RS X.K E N l/\RH X.K Y E/\J i N Y,⟨_,rfl,Zj _,Kp.refl _,j,M1,w.mono k1,L,j0⟩,?_⟩;rintro i m σ2 H2 ⟨rfl,hi,k2,A,M2,rs2,rh2,hj⟩;obtain⟨goes,stops⟩:=DC Q k2 rh2 (j1 i A M2 hj);by_cases hlt:i<S.len
   .obtain⟨go,yld⟩:=goes i hlt;refine .inr ⟨go,λl E=>Kp F E/\∃N Y,RS X.K E N l/\RH X.K Y E/\J (i+1) N Y,λl E ⟨a,z⟩=>⟨S.len - (i+1),by lia,rfl,hlt,a,z⟩,λx E y=>?_⟩
    obtain⟨e,m,hm,rm⟩:=yld x E y;subst e;refine WF (Ψ:=λ_=>True) (lim:=X.N.length) (λ_ _ _ _ z=>z) t h1 rm rs2 trivial (j2 i m A M2 hm hj) λσm3 σ3 q rs3 _=>?_;refine⟨σm3,M2,rs3,rh2,?_⟩;refine mon_ss c.mon b ?_ q;refine⟨λl Y z n H3 k3 O R=>⟨k2.trans k3,l,Y,O,R,z⟩,λv Y z u H3 k3 r3 R=>?_,λl Y z n H3 k3 O R=>?_,λl Y z n H3 k3 O R=>⟨k2.trans k3,l,Y,O,R,z⟩⟩
    .obtain⟨H4,th,k4,B⟩:=BA Q R z.1;exact⟨H4,th,z.2 u H4 (k1.trans (k2.trans (k3.trans k4))) (r3.mono k4) B⟩
    .obtain⟨H4,th,k4,B⟩:=BA Q R z.1;exact⟨H4,th,z.2 n H4 (k1.trans (k2.trans (k3.trans k4))) (O.mono k4) B⟩
   .have e:i=S.len:=by lia
    subst e;obtain⟨H4,th,k4,B⟩:=BA Q rh2 (J3 (j1 _ A M2 hj));exact .inl ⟨stops _ (Xf _),H4,th,j3 A M2 hj _ _ (k1.trans (k2.trans k4)) (rs2.mono k4) B⟩
 |.while_ d b,X,st,c,hf,h=>absurd h Xu
theorem sSs{G:GI}{Φ:List (Str×SpM)}:∀(is:ISs){X:Cx} {sts:List Stmt},Cok X G Φ->(∀x,X.fn x=true)->chkSs G X.env.scope X.N is sts=true->PSs X sts (liSt X.K (wSs Φ is))
 |.nil,X,sts,c,hf,h=>by
   cases _g7 h;refine pss_nil.weak λD Z H hw=>?_;obtain⟨j,M,w,W,hw⟩:=hw;exact hw Z H (Kp.refl _) w W
 |.cons s r,X,sts,c,hf,h=>by
   obtain⟨x,xs,rfl,h1,h2⟩:=_eN h;refine(CY (sS s c hf h1) (sSs r c hf h2)).weak λD Z H hw=>?_;obtain⟨j,M,w,W,hw⟩:=hw;refine⟨j,M,w,W,?_⟩;refine BC c.mon s ?_ hw;refine⟨λl Y z n F k1 O R=>?_,λv Y z=>z,λl Y z=>z,λl Y z=>z⟩;exact⟨l,Y,O,R,mon_ss c.mon r (liD.on k1) z⟩
end
end L2
namespace L2
open PySem PySem.Spec PyProof.Rows
structure Fts (P:Xh)(w:Xd)(K:X1)(mg:Str->Option Value)(base:Heap)(k:Nat)(G:GI)(Φ:List (Str×SpM)):Prop where
 bls:∀x,G.bl.contains x=true->mg x=none
 gls:∀x i,G.gl.lookup x=some i->∃tk,mg x=some (.int i tk)
 fnn:∀(j:Nat)f,G.fns[j]?=some f->∃sp,Φ[j]?=some (f,sp)
 mon:∀(j:Nat)f sp,Φ[j]?=some (f,sp)->MonW sp
 fns:∀(j:Nat)f sp,G.fns[j]?=some f->Φ[j]?=some (f,sp)->∃fa fd ps,FnOk P w K mg base CX0 k fa fd ps (liSp K sp)/\mg f=some (.ref fa)/\YV K (.ref fa)=true/\Binds K fd ps []
 mts:∀(j:Nat)c m,G.mts.contains (j,c,m)=true->∃f sp,Φ[j]?=some (f,sp)/\∃C fa fd ps,FnOk P w K mg base CX0 k fa fd ps (liSp K sp)/\XA K Xl c=some (some (.ref C))/\Cls K C/\Meth K C m fa/\Binds K fd ps []
 mks:∀(j:Nat)c,G.mks.contains (j,c)=true->∃f sp,Φ[j]?=some (f,sp)/\∃k' C fa fd ps,k'+1<=k/\FnOk P w K mg base CX0 k' fa fd ps (liSp K sp)/\XA K Xl c=some (some (.ref C))/\mg c=some (.ref C)/\Mk K C fa/\Binds K fd ps []
 cls:∀c f,G.cls.contains (c,f)=true->∃C,XA K Xl c=some (some (.ref C))/\Cls K C/\D0 K C f
noncomputable def Ud(n:Nat)(j:List MV):Sm:=j.map some++XH (n - j.length) none
theorem DJ{K:X1}(r:RMs K H ms vs):RS K H (Ud N.length ms) (start N vs):=by
 unfold Ud start;have j:=r.length;refine⟨by simp[j],λi m e=>?_⟩
 by_cases hi:i<ms.length
 .rw[YU (by simpa using hi),Xj]at e
  cases q:ms[i]? with
  |none=>rw[q]at e;cases e
  |some x=>
   rw[q]at e;have l:x=m:=Yo (Yo e);subst l;obtain⟨u,w,y⟩:=r.get q;exact⟨u,by rw[YU (by simpa [<-j]using hi),Xj,w];rfl,y⟩
 .rw[Zh (by simpa using hi),G3]at e
  split at e<;>cases e
theorem Fun.okM{K:X1}{st:Stmt}{k:Nat}
  (F:Fun K x qual st f fd)(S:FnScope N ps (X8 st))(T:Fts P w K mg base k G Φ)(d:ISs)(Y:chkSs G (X8 st) N d (Xo st)=true)
  (len:∀u M Q,l u M Q->u.length=ps.length)(h:∀u M Q,l u M Q->wSs Φ d {nx:=λ_ e=>Q .non e,rt:=Q} (Ud N.length u) M):FnOk P w K mg base CX0 (k+1) f fd ps (liSp K l):=by
 refine F.ok S (λu H Q E L=>?_) λO A y s H u Q E p L=>?_
 .obtain⟨R,M,r,W,q⟩:=L;rw[<-r.length];exact len _ _ _ q
 obtain⟨R,M,r,W,q⟩:=L;have c:Cok (cxOf CX0 P w K mg base N qual (X8 st) f O A y s H E).nox G Φ:=
  ⟨(by have:=p.un;show(A.deeper _).units+70<cLine;lia),rfl,rfl,(by show(if(X8 st).kind.isAnnotationScope then CU else(X8 st).kind)=.function;rw[S.kind];rfl),S.nd,T.bls,T.gls,T.fnn,T.mon,
   (λj f l Z g=>let⟨fa,fd,ps,F,hm,hk,hb⟩:=T.fns j f l Z g;⟨k,fa,fd,ps,p,F,hm,hk,hb⟩),
   (λj c m h=>let⟨f,l,g,C,fa,fd,ps,F,hC,cl,hm,hb⟩:=T.mts j c m h;⟨f,l,g,k,C,fa,fd,ps,p,F,hC,cl,hm,hb⟩),
   (λj c h=>let⟨f,l,g,k',C,fa,fd,ps,hk,F,hC,hm,mk1,hb⟩:=T.mks j c h;⟨f,l,g,k',C,fa,fd,ps,p.mono hk,F,hC,hm,mk1,hb⟩),T.cls⟩
 refine⟨_,sSs d c (λ_=>rfl) Y,Ud N.length R,M,DJ r,W,?_⟩;refine mon_ss T.mon d ?_ (h R M _ q);exact⟨λJ e z B X D I U=>z _ _ D .non U,λv e z=>z,λ_ _ z=>z.elim,λ_ _ z=>z.elim⟩
noncomputable def Jd:SpM:=λl M Q=>∃j:List Int,l=[.frl (j.map .int)]/\j.length<=63/\∀u,Q (.bl true) u
def BD(K:X1):Sp:=λl H Q _=>∃(a:Addr) (j:List Int),l=[.ref a]/\FrL K H a (j.map V.int)/\j.length<=63/\∀u,Q (.bl true) u
theorem _k2{K:X1}{k:Nat}(F:FnOk P w K mg base CX0 k f fd ps (liSp K Jd)):FnOk P w K mg base CX0 k f fd ps (BD K):=
 F.imp λy H Q E ⟨a,j,e,l,u,q⟩=>by
  subst e;refine⟨[.frl (j.map .int)],λ_=>none,.cons (.frl l (RMs.ints j)) .nil,λ_ _ z=>(by cases z),j,rfl,u,λm=>?_⟩
  intro v g k r d;cases r;exact q _
theorem _mp{K:X1}(o:Only H)(h:SqL K H a vs):FrL K H a vs:=by
 rcases h with(h|⟨j,h⟩)|h
 .rcases o a with z|⟨j,l,z⟩
  .rw[h]at z;cases z
  .rw[h]at z;cases z
 .exact .inl ⟨j,h⟩
 .exact .inr h
theorem _m5{K:X1}{k:Nat}(N:∀x∈G.bl,mg x=none)(O:∀p∈G.gl,∃R,mg p.1=some (.int p.2 R))(d:Φ.map (·.1)=G.fns)
  (T:∀p∈Φ++Ψ,MonW p.2)(U:∀p∈Φ,∃l y z,FnOk P w K mg base CX0 k l y z (liSp K p.2)/\mg p.1=some (.ref l)/\YV K (.ref l)=true/\Binds K y z [])
  (W:∀q∈G.mts,∃f u,(Φ++Ψ)[q.1]?=some (f,u)/\∃C l y z,FnOk P w K mg base CX0 k l y z (liSp K u)/\XA K Xl q.2.1=some (some (.ref C))/\Cls K C/\Meth K C q.2.2 l/\Binds K y z [])
  (Y:∀q∈G.mks,∃f u,(Φ++Ψ)[q.1]?=some (f,u)/\∃L C l y z,L+1<=k/\FnOk P w K mg base CX0 L l y z (liSp K u)/\XA K Xl q.2=some (some (.ref C))/\mg q.2=some (.ref C)/\Mk K C l/\Binds K y z [])
  (Z:∀q∈G.cls,∃C,XA K Xl q.1=some (some (.ref C))/\Cls K C/\D0 K C q.2):Fts P w K mg base k G (Φ++Ψ)where
 bls:=λx h=>N x (by simpa using h)
 gls:=λx i h=>O (x,i) (Vw h)
 fnn:=λj f h=>by
  rw[<-d,Xj]at h;cases e:Φ[j]? with
  |none=>rw[e]at h;cases h
  |some p=>rw[e]at h;cases h;exact⟨p.2,by rw[YU (Xz.mp e).1,e]⟩
 mon:=λj f u h=>T (f,u) (Y5 h)
 fns:=λj f u g h=>by
  rw[<-d,Xj]at g;cases e:Φ[j]? with
  |none=>rw[e]at g;cases g
  |some p=>
   rw[YU (Xz.mp e).1,e]at h;cases h;exact U (f,u) (Y5 e)
 mts:=λj c m h=>W (j,c,m) (by simpa using h)
 mks:=λj c h=>Y (j,c) (by simpa using h)
 cls:=λc f h=>Z (c,f) (by simpa using h)
theorem Xw{P:Xh}{w:Xd}{K:X1}{l:Str->Option Value}{j:Heap}{k:Nat}{G:GI}{u:List (Str×SpM)}(d:∀x∈G.bl,l x=none)(c:∀p∈G.gl,∃f,l p.1=some (.int p.2 f))(q:u.map (·.1)=G.fns)
  (e:∀p∈u,MonW p.2)(L:∀p∈u,∃y m g,FnOk P w K l j CX0 k y m g (liSp K p.2)/\l p.1=some (.ref y)/\YV K (.ref y)=true/\Binds K m g [])(h1:G.mts=[]:=by rfl)(h2:G.mks=[]:=by rfl)(h3:G.cls=[]:=by rfl):Fts P w K l j k G u:=by
 have:=_m5 (Ψ:=[]) d c q (by rw[U4];exact e) L (by rw[h1];exact λ_ z=>nomatch z) (by rw[h2];exact λ_ z=>nomatch z) (by rw[h3];exact λ_ z=>nomatch z)
 rwa [U4]at this
structure Fn1 (K:X1)(x:Str)(st:Stmt)(f:Addr)(d:Xi):Prop where
 a:XA K Xl x=some (some (.ref f))
 F:Fun K x x st f d
structure FnT (K:X1)(mg:Str->Option Value)(x:Str)(ps:List Str)(st:Stmt)(f:Addr)(d:Xi):Prop where
 F:Fun K x x st f d
 b:Binds K d ps []
 m:mg x=some (.ref f)
theorem Fn1.t{K:X1}{st:Stmt}(H:Fn1 K x st f d)(X:K.In h)(G:h.Ns Xl mg)
  (b:∀(kV j w:Value)(y:Option Addr)(l z:Value)(u:List Value),u.length=ps.length->bindArgs (Uq x x (VB st) (Xo st) (X8 st) .none kV j w y l z) ⟨u,[]⟩=pure (ps.zip u)):FnT K mg x ps st f d:=⟨H.F,H.F.binds b,YG X G H.a⟩
theorem Fn1.bt{K:X1}{st:Stmt}(H:Fn1 K x st f d)
  (r:∀(kV j u:Value)(w:Option Addr)(l z v:Value),bindArgs (Uq x x (VB st) (Xo st) (X8 st) .none kV j u w l z) ⟨[v],[]⟩=pure [(y,v)])(s:X0)(v:Value):BindsTo s d ⟨[v],[]⟩ [(y,v)]:=by
 obtain⟨_,_,kV,j,u,w,l,z,_,rfl,_⟩:=H.F.ex;exact .of_eq (r kV j u w l z v)
theorem us0{p:List Value->Prop}(h:p [])(j:List Value)(l:j.length=0):p j:=by cases j with|nil=>exact h|cons _ _=>cases l
theorem us1{p:List Value->Prop}(h:∀u,p [u])(j:List Value)(l:j.length=1):p j:=by cases j with|nil=>cases l|cons a r=>exact us0 (p:=λr=>p (a::r)) (h a) r (Wk l)
theorem us2{p:List Value->Prop}(h:∀u w,p [u,w])(j:List Value)(l:j.length=2):p j:=by cases j with|nil=>cases l|cons a r=>exact us1 (p:=λr=>p (a::r)) (h a) r (Wk l)
theorem us3{p:List Value->Prop}(h:∀u w y,p [u,w,y])(j:List Value)(l:j.length=3):p j:=by cases j with|nil=>cases l|cons a r=>exact us2 (p:=λr=>p (a::r)) (h a) r (Wk l)
theorem us4{p:List Value->Prop}(h:∀u w y z,p [u,w,y,z])(j:List Value)(l:j.length=4):p j:=by cases j with|nil=>cases l|cons a r=>exact us3 (p:=λr=>p (a::r)) (h a) r (Wk l)
theorem us5{p:List Value->Prop}(h:∀u w y z m,p [u,w,y,z,m])(j:List Value)(l:j.length=5):p j:=by cases j with|nil=>cases l|cons a r=>exact us4 (p:=λr=>p (a::r)) (h a) r (Wk l)
section
variable{M:MH}{Q:QM}{i j:Int}{x y:MV}{a b:Addr}
theorem _nL:wBin .Add (.int i) (.int j) M Q=Q (.int (i+j)) M:=rfl
theorem _nd:wBin .Sub (.int i) (.int j) M Q=Q (.int (i - j)) M:=rfl
theorem _nx:wBin .Mult (.int i) (.int j) M Q=(CMul i j/\Q (.int (i*j)) M):=rfl
theorem _ly:wBin .FloorDiv (.int i) (.int j) M Q=(Wt i j/\Q (.int (i/j)) M):=rfl
theorem Je:wBin .Mod (.int i) (.int j) M Q=(0<j/\Q (.int (i%j)) M):=rfl
theorem _no:wBin .Pow (.int i) (.int j) M Q=(CPow i j/\Q (.int (i^j.toNat)) M):=rfl
theorem _nk:wBin .LShift (.int i) (.int j) M Q=(CPow i j/\Q (.int (i*2^j.toNat)) M):=rfl
theorem _lB{x y:Str}:wBin .Add (.str x) (.str y) M Q=(x.length+y.length<=sizeLine/\Q (.str (x++y)) M):=rfl
theorem _ln{x:Str}:wBin .Mult (.str x) (.int i) M Q=(x.length<=16/\ -1000<=i/\i<=1000/\Q (.str (Txt.mul x i)) M):=rfl
theorem _lA:wBin .Add (.tup xs) (.tup ys) M Q=(xs≠ []/\xs.length+ys.length<=sizeLine/\Q (.tup (xs++ys)) M):=rfl
theorem _lC:wBin .Add (.ref a) (.ref b) M Q=∃l u,M a=some (.lst l)/\M b=some (.lst u)/\l.length+u.length<=sizeLine/\∀p,M p=none->Q (.ref p) (updM M p (.lst (l++u))):=rfl
theorem q_lt:wCmp .Lt (.int i) (.int j) M Q=Q (.bl (decide (i<j))) M:=propext ⟨fun⟨_,_,e,f,h⟩=>by cases e;cases f;exact h,λh=>⟨i,j,rfl,rfl,h⟩⟩
theorem q_le:wCmp .LtE (.int i) (.int j) M Q=Q (.bl (decide (i<=j))) M:=propext ⟨λh=>Or.elim h (fun⟨_,_,e,f,h⟩=>by cases e;cases f;exact h) (fun⟨_,_,e,_⟩=>nomatch e),λh=>Or.inl ⟨i,j,rfl,rfl,h⟩⟩
theorem _ny{x y:Str}:wCmp .LtE (.str x) (.str y) M Q=Q (.bl (!decide (y.cps.toList<x.cps.toList))) M:=propext ⟨λh=>Or.elim h (fun⟨_,_,e,_⟩=>nomatch e) (fun⟨_,_,e,f,h⟩=>by cases e;cases f;exact h),λh=>Or.inr ⟨x,y,rfl,rfl,h⟩⟩
theorem q_gt:wCmp .Gt (.int i) (.int j) M Q=Q (.bl (decide (j<i))) M:=propext ⟨fun⟨_,_,e,f,h⟩=>by cases e;cases f;exact h,λh=>⟨i,j,rfl,rfl,h⟩⟩
theorem _nI:wCmp .Eq (.int i) (.int j) M Q=Q (.bl (decide (i=j))) M:=rfl
theorem _nw:wCmp .NotEq (.int i) (.int j) M Q=Q (.bl (!decide (i=j))) M:=rfl
theorem _nG{x y:Str}:wCmp .Eq (.str x) (.str y) M Q=Q (.bl (decide (x=y))) M:=rfl
theorem _nu{x y:Str}:wCmp .NotEq (.str x) (.str y) M Q=Q (.bl (!decide (x=y))) M:=rfl
theorem _nH{y:MV}:wCmp .Eq (.ref a) y M Q=wEq (.ref a) y M λb=>Q (.bl b) M:=rfl
theorem _nv:wCmp .NotEq (.ref a) y M Q=wEq (.ref a) y M λb=>Q (.bl (!b)) M:=rfl
theorem q_in:wCmp .In x y M Q=wIn x y M λb=>Q (.bl b) M:=rfl
theorem _nt:wCmp .NotIn x y M Q=wIn x y M λb=>Q (.bl (!b)) M:=rfl
theorem _p{k:Bool->Prop}(h:M a=some (.lst xs))(l:M b=some (.lst []))(q:k xs.isEmpty):wEq (.ref a) (.ref b) M k:=.inr (.inr (.inl ⟨a,b,xs,rfl,rfl,h,l,q⟩))
theorem _hP{k:Bool->Prop}(n:eqS x y=none)(h:Alike M m x y)(l:m<=60)(q:k true):wEq x y M k:=by
 unfold wEq;rw[n];exact .inr (.inl ⟨m,l,h,q⟩)
theorem Alike.flat(n:Nat)(f:YB x=true):Alike M n x x:=by
 cases n<;>rw[Alike]
 .exact⟨f,rfl⟩
 .exact .inl ⟨f,rfl⟩
theorem Alike.lst(h1:LstM M x xs)(h2:LstM M y ys)(e:xs.length=ys.length)(h:∀(i:Nat)u v,xs[i]?=some u->ys[i]?=some v->Alike M n u v):Alike M (n+1) x y:=by
 rw[Alike];exact .inr (.inr (.inl ⟨xs,ys,h1,h2,e,h⟩))
def ixO(o:Option MO)(y:MV)(M:MH)(Q:QM):Prop:=match o with
 |some (.lst xs)=>∃i v,y=.int i/\atI xs i=some v/\Q v M
 |some (.dic kvs)=>∃l v,keyM y=some l/\valM kvs l=some v/\Q v M
 |some (.fdic _ kvs)=>∃l v,keyM y=some l/\valM kvs l=some v/\Q v M
 |_=>False
theorem _nB:wIx (.ref a) y M Q=ixO (M a) y M Q:=propext ⟨λh=>by
  rcases h with⟨w,i,v,e,r⟩|⟨l,u,v,e,r⟩|⟨o,l,u,v,e,r⟩
  .rw[e];exact⟨i,v,r⟩
  .rw[e];exact⟨u,v,r⟩
  .rw[e];exact⟨u,v,r⟩,λh=>by
  cases e:M a with
  |none=>rw[e]at h;exact h.elim
  |some o=>
   rw[e]at h;cases o with
   |lst w=>obtain⟨i,v,r⟩:=h;exact .inl ⟨w,i,v,e,r⟩
   |dic l=>obtain⟨u,v,r⟩:=h;exact .inr (.inl ⟨l,u,v,e,r⟩)
   |ins _ _=>exact h.elim
   |fdic o l=>obtain⟨u,v,r⟩:=h;exact .inr (.inr ⟨o,l,u,v,e,r⟩)⟩
theorem _lv:ixO (some (.lst xs)) (.int i) M Q=∃v,atI xs i=some v/\Q v M:=propext ⟨fun⟨_,v,e,h⟩=>by cases e;exact⟨v,h⟩,fun⟨v,h⟩=>⟨i,v,rfl,h⟩⟩
theorem _ji{l:List (Key×MV)}{x:Str}:ixO (some (.dic l)) (.str x) M Q=∃v,valM l (Yf x)=some v/\Q v M:=propext ⟨fun⟨_,v,e,h⟩=>by cases e;exact⟨v,h⟩,fun⟨v,h⟩=>⟨_,v,rfl,h⟩⟩
theorem _nz:wIx (.tup xs) (.int i) M Q=∃v,atI xs i=some v/\Q v M:=propext ⟨fun⟨_,v,e,h⟩=>by cases e;exact⟨v,h⟩,fun⟨v,h⟩=>⟨i,v,rfl,h⟩⟩
theorem _nC:wIx (.frl xs) (.int i) M Q=∃v,atI xs i=some v/\Q v M:=propext ⟨fun⟨_,v,e,h⟩=>by cases e;exact⟨v,h⟩,fun⟨v,h⟩=>⟨i,v,rfl,h⟩⟩
theorem _nA:wIx (.str z) (.int i) M Q=(z.length<=sizeLine/\∃c,atI z.cps.toList i=some c/\Q (.str ⟨#[c]⟩) M):=propext ⟨fun⟨_,c,e,l,u⟩=>by cases e;exact⟨l,c,u⟩,fun⟨l,c,u⟩=>⟨i,c,rfl,l,u⟩⟩
def slO(o:Option MO)(lo l:Option Int)(M:MH)(Q:QM):Prop:=match o with
 |some (.lst xs)=>∀p,M p=none->Q (.ref p) (updM M p (.lst (cutM xs lo l)))
 |_=>False
theorem _nj{lo:Option Int}:wSl (.ref a) lo hi M Q=slO (M a) lo hi M Q:=propext ⟨fun⟨l,e,h⟩=>by rw[e];exact h,λh=>by
  cases e:M a with
  |none=>rw[e]at h;exact h.elim
  |some o=>
   rw[e]at h;cases o with
   |lst l=>exact⟨l,e,h⟩
   |dic u=>exact h.elim
   |ins _ _=>exact h.elim
   |fdic _ _=>exact h.elim⟩
theorem _lh{lo:Option Int}:slO (some (.lst xs)) lo hi M Q=∀p,M p=none->Q (.ref p) (updM M p (.lst (cutM xs lo hi))):=rfl
theorem _ni{lo l:Option Int}{z:Str}:wSl (.str z) lo l M Q=(z.length<=sizeLine/\Q (.str (cutS z lo l)) M):=rfl
theorem _nh{lo:Option Int}:wSl (.tup xs) lo hi M Q=Q (.tup (cutM xs lo hi)) M:=rfl
theorem _lt:wBi .len [.frl xs] M Q=Q (.int xs.length) M:=rfl
theorem _lr:wBi .len [.str z] M Q=(z.length<=sizeLine/\Q (.int z.length) M):=rfl
noncomputable def lenO(o:Option MO)(M:MH)(Q:QM):Prop:=match o with
 |some (.lst xs)=>Q (.int xs.length) M
 |some (.dic kvs)=>Q (.int kvs.length) M
 |_=>False
theorem _ls:wBi .len [.ref a] M Q=lenO (M a) M Q:=propext ⟨λh=>by
  rcases h with⟨u,e,h⟩|⟨l,e,h⟩<;>(rw[e];exact h),λh=>by
  cases e:M a with
  |none=>rw[e]at h;exact h.elim
  |some o=>
   rw[e]at h;cases o with
   |lst u=>exact .inl ⟨u,e,h⟩
   |dic l=>exact .inr ⟨l,e,h⟩
   |ins _ _=>exact h.elim
   |fdic _ _=>exact h.elim⟩
theorem _jh:lenO (some (.lst xs)) M Q=Q (.int xs.length) M:=rfl
def isO(o:Option Ty7)(c:Ty7)(M:MH)(Q:QM):Prop:=match o with
 |some T=>c≠.none/\Q (.bl (isTy T c)) M
 |none=>False
theorem _nD:wBi .isinst [x,.ty c] M Q=isO (tyM M x) c M Q:=propext (by
 have e:wBi .isinst [x,.ty c] M Q=∃T,tyM M x=some T/\c≠.none/\Q (.bl (isTy T c)) M:=by cases x<;>rfl
 rw[e];exact⟨fun⟨T,e,h⟩=>by rw[e];exact h,λh=>by
  cases e:tyM M x with
  |none=>rw[e]at h;exact h.elim
  |some T=>rw[e]at h;exact⟨T,rfl,h⟩⟩)
def isO2(o:Option Ty7)(c d:Ty7)(M:MH)(Q:QM):Prop:=match o with
 |some T=>c≠.none/\d≠.none/\Q (.bl (isTy T c||isTy T d)) M
 |none=>False
theorem _lx:wBi .isinst [x,.tup [.ty c,.ty d]] M Q=isO2 (tyM M x) c d M Q:=propext (by
 have e:wBi .isinst [x,.tup [.ty c,.ty d]] M Q=∃T,tyM M x=some T/\c≠.none/\d≠.none/\Q (.bl (isTy T c||isTy T d)) M:=by cases x<;>rfl
 rw[e];exact⟨fun⟨T,e,h⟩=>by rw[e];exact h,λh=>by
  cases e:tyM M x with
  |none=>rw[e]at h;exact h.elim
  |some T=>rw[e]at h;exact⟨T,rfl,h⟩⟩)
theorem _jj:isO2 (some T) c d M Q=(c≠.none/\d≠.none/\Q (.bl (isTy T c||isTy T d)) M):=rfl
theorem _lw:isO (some T) c M Q=(c≠.none/\Q (.bl (isTy T c)) M):=rfl
theorem _n5:tyM M (.int i)=some .int:=rfl
theorem _n3{k:Str}:tyM M (.str k)=some .str:=rfl
theorem _n2:tyM M (.tup xs)=some .tuple:=rfl
noncomputable def tyO:Option MO->Option Ty7
 |some (.lst _)=>some .list
 |some (.dic _)=>some .dict
 |_=>none
theorem _n4:tyM M (.ref a)=tyO (M a):=by
 cases e:M a with
 |none=>simp[tyM,tyO,e]
 |some o=>cases o<;>simp[tyM,tyO,e]
theorem _le:tyO (some (.lst xs))=some .list:=rfl
theorem _nK:wBi .all [.ref a] M Q=∃bs:List Bool,M a=some (.lst (bs.map MV.bl))/\Q (.bl (bs.all id)) M:=rfl
theorem _jk:wBi .dictL [.ref a] M Q=∃l:List (Key×MV),M a=some (.lst (l.map prM))/\∀p,M p=none->Q (.ref p) (updM M p (.dic (Wx l))):=rfl
theorem _jf:wBi .list [.tup xs] M Q=∀p,M p=none->Q (.ref p) (updM M p (.lst xs)):=rfl
theorem _jg:wBi .list [.ref a] M Q=∃l,M a=some (.lst l)/\∀p,M p=none->Q (.ref p) (updM M p (.lst l)):=rfl
theorem _lf:wBi .tuple [.ref a] M Q=∃l,M a=some (.lst l)/\Q (.tup l) M:=rfl
def apO(o:Option MO)(a:Addr)(y:MV)(M:MH)(Q:QM):Prop:=match o with
 |some (.lst xs)=>xs.length<sizeLine/\Q .non (updM M a (.lst (xs++[y])))
 |_=>False
theorem _nJ:wMts .append (.ref a) [y] M Q=apO (M a) a y M Q:=propext ⟨fun⟨l,e,h⟩=>by rw[e];exact h,λh=>by
  cases e:M a with
  |none=>rw[e]at h;exact h.elim
  |some o=>
   rw[e]at h;cases o with
   |lst l=>exact⟨l,e,h⟩
   |dic u=>exact h.elim
   |ins _ _=>exact h.elim
   |fdic _ _=>exact h.elim⟩
theorem _lz:apO (some (.lst xs)) a y M Q=(xs.length<sizeLine/\Q .non (updM M a (.lst (xs++[y])))):=rfl
theorem _nF:wMts .extend (.ref a) [.ref b] M Q=∃l,M a=some (.lst l)/\∃u,M b=some (.lst u)/\l.length+u.length<=sizeLine/\Q .non (updM M a (.lst (l++u))):=rfl
theorem _lm:mtOk .append x M=(∃a l,x=.ref a/\M a=some (.lst l)):=rfl
theorem _ll:mtOk .extend x M=(∃a l,x=.ref a/\M a=some (.lst l)):=rfl
theorem _lk:mtOk .index x M=(∃a l,x=.ref a/\M a=some (.lst l)):=rfl
theorem _nE{z:Str}{r:List MV}:wMts .index (.ref a) [.tup (.str z::r)] M Q=∃l,M a=some (.lst l)/\∃j:Nat,l[j]?=some (.tup (.str z::r))/\(∀y∈r,∃p,y=.ref p)/\(∀(i:Nat)y,l[i]?=some y->i≠j->∃u w,y=.tup (.str u::w)/\u≠z)/\Q (.int j) M:=rfl
theorem _ns{z:Str}:mtOk .join (.str z) M=True:=propext ⟨λ_=>trivial,λ_=>⟨z,rfl⟩⟩
theorem _lu{l:Str}:wMts .join (.str l) [.ref b] M Q=(∃u,M b=some (.lst (u.map MV.str))/\u.toArray.foldl (λn z=>n+z.length+l.length) 0<=sizeLine/\(ZL l u).length<=sizeLine/\Q (.str (ZL l u)) M):=
 propext ⟨fun⟨_,_,u,e,w,h⟩=>by cases e;cases w;exact⟨u,h⟩,fun⟨u,h⟩=>⟨l,b,u,rfl,rfl,h⟩⟩
noncomputable def srO(o:Option MO)(a:Addr)(M:MH)(Q:Src->MH->Prop):Prop:=match o with
 |some (.lst xs)=>Q (.lst a xs) M
 |_=>False
noncomputable def srV(v:MV)(M:MH)(Q:Src->MH->Prop):Prop:=(∃l,(v=.tup l\/v=.frl l)/\Q (.tup l) M)\/(∃a l,v=.ref a/\M a=some (.lst l)/\Q (.lst a l) M)\/False\/∃z,v=.str z/\Q (.str z) M
theorem _nl:wSr Φ (.seq e) σ M R=wE Φ e σ M λv M1=>srV v M1 R:=rfl
theorem _ng:srV (.ref a) M R=srO (M a) a M R:=propext ⟨λh=>by
  rcases h with⟨l,e,h⟩|⟨b,l,e,f,h⟩|h|⟨z,e,_⟩
  .rcases e with e|e<;>cases e
  .cases e;rw[f];exact h
  .exact h.elim
  .exact(nomatch e),λh=>by
  cases e:M a with
  |none=>rw[e]at h;exact h.elim
  |some o=>
   rw[e]at h;cases o with
   |lst l=>exact .inr (.inl ⟨a,l,rfl,e,h⟩)
   |dic u=>exact h.elim
   |ins _ _=>exact h.elim
   |fdic _ _=>exact h.elim⟩
theorem _nf:srV (.str z) M R=R (.str z) M:=propext ⟨λh=>by
  rcases h with⟨l,e,h⟩|⟨_,_,e,_⟩|h|⟨_,e,h⟩
  .rcases e with e|e<;>exact(nomatch e)
  .exact(nomatch e)
  .exact h.elim
  .cases e;exact h,λh=>.inr (.inr (.inr ⟨z,rfl,h⟩))⟩
theorem _n6{x:Str}:Src.thaw M (.str x)=M:=rfl
theorem _np{x:Str}:Src.okT M (.str x)=True:=rfl
theorem _n8:Src.thaw M (.lst a xs)=M:=rfl
theorem _n7:Src.thaw M (.rng i n)=M:=rfl
theorem _nr:Src.okT M (.lst a xs)=True:=rfl
theorem _nq:Src.okT M (.rng i n)=True:=rfl
theorem _lg:srO (some (.lst xs)) a M R=R (.lst a xs) M:=rfl
theorem _ne:srV (.tup zs) M R=R (.tup zs) M:=propext ⟨λh=>by
  rcases h with⟨l,e,h⟩|h
  .rcases e with e|e
   .cases e;exact h
   .exact nomatch e
  .rcases h with⟨_,_,e,_⟩|h|⟨_,e,_⟩<;>first|exact h.elim|exact(nomatch e),λh=>.inl ⟨zs,.inl rfl,h⟩⟩
noncomputable def rgV(v:MV)(M:MH)(Q:Src->MH->Prop):Prop:=∃j,v=.int j/\ -(2^62)<=j/\j<2^62/\Q (.rng 0 j.toNat) M
theorem _nm:wSr Φ (.rng e) σ M R=wE Φ e σ M λv M1=>rgV v M1 R:=rfl
theorem _nn:rgV (.int i) M R=(-(2^62)<=i/\i<2^62/\R (.rng 0 i.toNat) M):=propext ⟨fun⟨_,e,h⟩=>by cases e;exact h,λh=>⟨i,rfl,h⟩⟩
noncomputable def rgV2(x y:MV)(M:MH)(Q:Src->MH->Prop):Prop:=∃i j,x=.int i/\y=.int j/\(-(2^62)<=i/\i<2^62/\ -(2^62)<=j/\j<2^62)/\Q (.rng i (j - i).toNat) M
theorem _li{l:List (Str×SpM)}{e f:IE}{u:Sm}{R:Src->MH->Prop}:wSr l (.rng2 e f) u M R=wE l e u M λx M1=>wE l f u M1 λy M2=>rgV2 x y M2 R:=rfl
theorem _lj{R:Src->MH->Prop}:rgV2 (.int i) (.int j) M R=((-(2^62)<=i/\i<2^62/\ -(2^62)<=j/\j<2^62)/\R (.rng i (j - i).toNat) M):=propext ⟨fun⟨_,_,e,f,h⟩=>by cases e;cases f;exact h,λh=>⟨i,j,rfl,rfl,h⟩⟩
theorem _lq:wBi .max [.int i,.int j] M Q=Q (.int (if j>i then j else i)) M:=rfl
theorem _lp:wBi .min [.int i,.int j] M Q=Q (.int (if j<i then j else i)) M:=rfl
end
theorem v_s{k:MV->Prop}:onV (some (some v)) k=k v:=rfl
theorem b_0{k:Bool->Prop}:onB (.bl b) k=k b:=rfl
theorem f_s{k:SpM->Prop}:onF (some (f,sp)) k=k sp:=rfl
theorem _o6:wE Φ (.var i) σ M Q=onV σ[i]? (λv=>Q v M):=rfl
theorem _oc:wE Φ (.int i) σ M Q=(Q (.int i) M):=rfl
theorem _o8:wE Φ (.str x) σ M Q=(Q (.str x) M):=rfl
theorem e_bl:wE Φ (.bl b) σ M Q=(Q (.bl b) M):=rfl
theorem _od:wE Φ (.glb x i) σ M Q=(Q (.int i) M):=rfl
theorem e_ty:wE Φ (.ty c) σ M Q=(Q (.ty c) M):=rfl
theorem _og:wE Φ (.bin op a b) σ M Q=(wE Φ a σ M λx M1=>wE Φ b σ M1 λy M2=>wBin op x y M2 Q):=rfl
theorem _oa:wE Φ (.neg a) σ M Q=(wE Φ a σ M λx M1=>∃i,x=.int i/\Q (.int (-i)) M1):=rfl
theorem _o9:wE Φ (.not a) σ M Q=(wE Φ a σ M λx M1=>onB x λb=>Q (.bl (!b)) M1):=rfl
theorem _oe:wE Φ (.cmp op a b) σ M Q=(wE Φ a σ M λx M1=>wE Φ b σ M1 λy M2=>wCmp op x y M2 Q):=rfl
theorem _of:wE Φ (.chn op op' a b c) σ M Q=(wE Φ a σ M λx M1=>wE Φ b σ M1 λy M2=>wCmp op x y M2 λz j=>onB z λk=>(if k=true then wE Φ c σ j λw l=>wCmp op' y w l Q else Q (.bl false) j)):=rfl
theorem _oh:wE Φ (.and a b) σ M Q=(wE Φ a σ M λx M1=>onB x λc=>(if c=true then wE Φ b σ M1 Q else Q (.bl false) M1)):=rfl
theorem e_or:wE Φ (.or a b) σ M Q=(wE Φ a σ M λx M1=>onB x λc=>(if c=true then Q (.bl true) M1 else wE Φ b σ M1 Q)):=rfl
theorem _o7:wE Φ (.tup es) σ M Q=(wEs Φ es σ M λj M1=>j.length<=sizeLine/\Q (.tup j) M1):=rfl
theorem _ob:wE Φ (.lst es) σ M Q=(wEs Φ es σ M λj M1=>j.length<=sizeLine/\∀p,M1 p=none->Q (.ref p) (updM M1 p (.lst j))):=rfl
theorem e_ix:wE Φ (.ix a b) σ M Q=(wE Φ a σ M λx M1=>wE Φ b σ M1 λy M2=>wIx x y M2 Q):=rfl
theorem e_sl{lo:IO}:wE Φ (.sl a lo hi) σ M Q=(wE Φ a σ M λx M1=>wO Φ lo σ M1 λl M2=>wO Φ hi σ M2 λh j=>wSl x l h j Q):=rfl
theorem _mw:wE Φ (.call j e es) σ M Q=(wE Φ e σ M λv M1=>wEs Φ es σ M1 λl M2=>onF Φ[j]? λu=>u (v::l) M2 Q):=rfl
theorem e_b2:wE Φ (.b2 f e) σ M Q=(wE Φ e σ M λv M1=>wB2 f v M1 Q):=rfl
theorem e_bi:wE Φ (.bi f e es) σ M Q=(wE Φ e σ M λv M1=>wEs Φ es σ M1 λj M2=>wBi f (v::j) M2 Q):=rfl
theorem e_mt:wE Φ (.mt m o es) σ M Q=(wE Φ o σ M λx M1=>mtOk m x M1/\wEs Φ es σ M1 λj M2=>wMts m x j M2 Q):=rfl
theorem VN{u:List Nat}:wE Φ (.comp own u src tg test elt) σ M Q=(wSr Φ src σ M λS M1=>S.len<sizeLine/\∀D,M1 D=none->∃J:Nat->List MV->MH->Prop,J 0 [] (updM M1 D (.lst []))/\
   (∀i j M2,J i j M2->M2 D=some (.lst j)/\j.length<=i/\S.ok M2)/\
   (∀i x j M2,S.items[i]?=some x->J i j M2->wTg tg x (sCm own u σ) λl=>wI Φ test l M2 λb w=>
    if b=true then wE Φ elt l w λy z=>z D=some (.lst j)/\J (i+1) (j++[y]) (updM z D (.lst (j++[y])))else J (i+1) j w)/\
   ∀j M2,J S.len j M2->Q (.ref D) (S.thaw M2)):=rfl
theorem VO{M j:MH}{S:Src}(h:S.okF M):S.thaw j=j:=by
 cases S<;>first|rfl|exact h.elim
theorem _b{O:List Nat}{P:Type}(l:List P)(f g:P->MV)
  (W:wSr Φ src σ M λS M1=>S.items=l.map f/\l.length<sizeLine/\S.okF M1/\M1=M)
  (Y:∀x∈l,∀L,(∀a o,M a=some o->L a=some o)->wTg tg (f x) (sCm own O σ) λu=>wE Φ elt u L λy M2=>y=g x/\M2=L)
  (w:∀(j:Nat)f R,Φ[j]?=some (f,R)->MonW R)(q:∀D,M D=none->Q (.ref D) (updM M D (.lst (l.map g)))):wE Φ (.comp own O src tg .none elt) σ M Q:=by
 rw[VN];refine mon_sr w src (λS M1 ⟨T,Z,m,A⟩=>?_) W;subst A;have U:S.len=l.length:=by rw[<-S.items_len,T,X5]
 refine⟨by rw[U];exact Z,λD d=>⟨λi c M2=>M2=updM M1 D (.lst c)/\c=(l.take i).map g,⟨rfl,by simp⟩,?_,?_,?_⟩⟩
 .rintro i c M2 ⟨rfl,rfl⟩;refine⟨Xb,by rw[X5,XQ];lia,?_⟩
  cases S with
  |tup _=>trivial
  |rng _ _=>trivial
  |str _=>trivial
  |lst a B=>
   have:a≠D:=by intro e;subst e;have m:M1 a=some (.lst B):=m;rw[m]at d;cases d
   show updM M1 D _ a=_;rw[_l this];exact m
 .rintro i x c M2 p ⟨rfl,rfl⟩;rw[T]at p;have N:i<l.length:=by have:=(Xz.mp p).1;rw[X5]at this;exact this
  rw[Xj,X6 N]at p;cases p;refine Uc tg (λu h=>?_) (Y l[i] (XG N) (updM M1 D (.lst ((l.take i).map g))) (λa o e=>by
   rw[_l (by intro z;subst z;rw[e]at d;cases d)];exact e))
  rw[wI,if_pos rfl];refine X7 w elt (λy M2 ⟨C,E⟩=>?_) h;subst C E;refine⟨Xb,Ib,?_⟩;rw[Um,X6 N,Yd]
  rfl
 .rintro c M2 ⟨rfl,rfl⟩;rw[U,ZE (Xf _),VO m];exact q D d
theorem Jf{T:List Nat}{U:Type}(l:List U)(f g:U->MV)
  (E:wSr Φ src σ M λS M1=>S.items=l.map f/\l.length<sizeLine/\S.okF M1/\∀a o,M a=some o->M1 a=some o)
  (F:∀x∈l,∀u,(∀a o,M a=some o->u a=some o)->wTg tg (f x) (sCm own T σ) λc=>wE Φ elt c u λy M2=>y=g x/\∀a o,u a=some o->M2 a=some o)
  (p:∀(j:Nat)f W,Φ[j]?=some (f,W)->MonW W)(q:∀D u,M D=none->(∀a o,M a=some o->u a=some o)->u D=some (.lst (l.map g))->Q (.ref D) u):wE Φ (.comp own T src tg .none elt) σ M Q:=by
 rw[VN];refine mon_sr p src (λS M1 ⟨Y,G,Z,O⟩=>?_) E;have A:S.len=l.length:=by rw[<-S.items_len,Y,X5]
 have P:∀D,M1 D=none->M D=none:=λD w=>by
  cases e:M D with
  |none=>rfl
  |some o=>rw[O _ _ e]at w;cases w
 have ne:∀{a D:Addr} {o:MO},M1 a=some o->M1 D=none->a≠D:=λh B z=>by subst z;rw[h]at B;cases B
 refine⟨by rw[A];exact G,λD w=>⟨λi L M2=>(∀a o,M1 a=some o->M2 a=some o)/\M2 D=some (.lst L)/\L=(l.take i).map g,⟨λa o e=>by rw[_l (ne e w)];exact e,Xb,by simp⟩,?_,?_,?_⟩⟩
 .rintro i L M2 ⟨m,d,rfl⟩;refine⟨d,by rw[X5,XQ];lia,?_⟩
  cases S with
  |tup _=>trivial
  |rng _ _=>trivial
  |str _=>trivial
  |lst a J=>exact m _ _ Z
 .rintro i x L M2 N ⟨m,d,rfl⟩;rw[Y]at N;have R:i<l.length:=by have:=(Xz.mp N).1;rw[X5]at this;exact this
  rw[Xj,X6 R]at N;cases N;refine Uc tg (λc h=>?_) (F l[i] (XG R) M2 (λa o e=>m _ _ (O _ _ e)));rw[wI,if_pos rfl];refine X7 p elt (λy X ⟨I,C⟩=>?_) h;subst I;refine⟨C _ _ d,λa o e=>by rw[_l (ne e w)];exact C _ _ (m _ _ e),Xb,?_⟩
  rw[Um,X6 R,Yd]
  rfl
 .rintro L M2 ⟨m,d,rfl⟩;rw[A,ZE (Xf _)]at d;rw[VO Z];exact q D M2 (P D w) (λa o e=>m _ _ (O _ _ e)) d
theorem _nc:wTg (.nm i) v σ R=R (σ.set i (some v)):=rfl
theorem _n9:wTg (.tup ts) (.tup xs) σ R=wTgs ts xs σ R:=by
 exact propext ⟨fun⟨_,e,h⟩=>by cases e;exact h,λh=>⟨_,rfl,h⟩⟩
theorem _nb{t:ITg}{r:List MV}:wTgs (.cons t ts) (v::r) σ R=wTg t v σ λj=>wTgs ts r j R:=by
 exact propext ⟨fun⟨_,_,e,h⟩=>by cases e;exact h,λh=>⟨_,_,rfl,h⟩⟩
theorem _na:wTgs .nil [] σ R=R σ:=propext ⟨λh=>h.2,λh=>⟨rfl,h⟩⟩
section
variable{M:MH}
theorem Alike.lstFlat(n:Nat)(h1:LstM M x xs)(h2:LstM M y xs)(f:∀v∈xs,YB v=true):Alike M (n+1) x y:=
 .lst h1 h2 rfl λi u v e j=>by
  rw[e]at j;cases j;exact .flat n (f u (Y5 e))
end
section
variable{Φ:List (Str×SpM)}{D:EndM}{σ:Sm}{M:MH}
theorem _mW:wSs Φ .nil D σ M=D.nx σ M:=rfl
theorem _l6{r:ISs}:wSs Φ (.cons s r) D σ M=wS Φ s {nx:=λσ M=>wSs Φ r D σ M,rt:=D.rt,bk:=D.bk,ct:=D.ct} σ M:=rfl
theorem _mV:wS Φ (.ret e) D σ M=wE Φ e σ M D.rt:=rfl
theorem _mU:wS Φ (.set i e) D σ M=wE Φ e σ M λv M1=>D.nx (σ.set i (some v)) M1:=rfl
theorem _mZ{t:ITgs}:wS Φ (.asg t e) D σ M=wE Φ e σ M λv M1=>∃l,v=.tup l/\wTgs t l σ λj=>D.nx j M1:=rfl
theorem _l5:wS Φ (.expr e) D σ M=wE Φ e σ M λ_ M1=>D.nx σ M1:=rfl
theorem _mX:wS Φ (.ite c a b) D σ M=wE Φ c σ M λx M1=>onB x λk=>(if k=true then wSs Φ a D σ M1 else wSs Φ b D σ M1):=rfl
theorem _mY{t:ITg}:wS Φ (.for_ t s b) D σ M=wSr Φ s σ M λS M1=>∃J:Nat->Sm->MH->Prop,J 0 σ M1/\(∀i σ M,J i σ M->S.ok M)/\
   (∀i x σ M,S.items[i]?=some x->J i σ M->wTg t x σ λj=>wSs Φ b {nx:=J (i+1),rt:=λv M=>S.okT M/\D.rt v (S.thaw M),bk:=λσ M=>S.okT M/\D.nx σ (S.thaw M),ct:=J (i+1)} j M)/\∀σ M,J S.len σ M->D.nx σ (S.thaw M):=rfl
theorem _lZ:wO Φ .none σ M Q=Q none M:=rfl
theorem _lY:wO Φ (.some e) σ M Q=wE Φ e σ M λv M1=>∃i,v=.int i/\Q (some i) M1:=rfl
theorem _mu:wEs Φ .nil σ M Q=Q [] M:=rfl
theorem _ko:wEs Φ (.cons e es) σ M Q=wE Φ e σ M λv M1=>wEs Φ es σ M1 λj M2=>Q (v::j) M2:=rfl
end
section
variable{Φ:List (Str×SpM)}{σ σ':Sm}{M M':MH}{Q:QM}{x x' y y' z z':MV}{o o':Option MO}{vs vs':List MV}
end
theorem ObjOk.there{P:Xh}{w:Xd}{H:Hp}{h:Heap}{a:Addr}{o:HO}(x:ObjOk P w H h a o):∃u,h.get? a=some u:=by
 cases o with
 |lst l=>obtain⟨_,_,_,_,e⟩:=x;exact⟨_,e⟩
 |tup l=>obtain⟨_,_,_,_,o,e,_⟩:=x;exact⟨_,e⟩
 |dK j=>obtain⟨_,_,_,_,o,_,_,e,_⟩:=x;exact⟨_,e⟩
 |dT j=>obtain⟨_,_,_,_,o,_,_,e,_⟩:=x;exact⟨_,e⟩
 |set S n=>obtain⟨o,_,_,_,e,_⟩:=x;exact⟨_,e⟩
 |ins C z fs=>obtain⟨_,_,_,e,_⟩:=x;exact⟨_,e⟩
 |own y=>exact x
 |xd fs=>obtain⟨_,⟨_,_,_,e,_⟩,_⟩:=x;exact⟨_,e⟩
 |rng lo m=>obtain⟨_,_,_,e⟩:=x;exact⟨_,e⟩
 |frz g u=>obtain⟨e,_⟩:=x;exact⟨_,e⟩
 |tbl d=>exact⟨_,(show h.get? a=some _ from x)⟩
 |met f y=>exact⟨_,(show h.get? a=some _ from x)⟩
 |ext c=>exact x.2.1
def CX1(P:Xh)(w:Xd):CXT:=λj H s E e l=>
 ∃(a C t:Addr) (B:Heap) (y:Hp),e=.ref a/\l.os=s.os/\AllBare l.gens/\Un (frs j) [] H y s.heap l.heap/\HOk P w y l.heap/\Vn B j a (.ref C) (.ref t) l.heap/\
  (∀b o,s.heap.get? b=some o->b∉frs j->(H b=none->B.get? b=some o)/\∃z,B.get? b=some z)/\(∀b u,y b=some u->∃o,B.get? b=some o)/\E (.ref C) none y
section
variable{P:Xh}{w:Xd}{K:X1}{mg:Str->Option Value}{base:Heap}{N:List Str}{qual:Str}{scope:Scope}{f:Addr}{cd:Value}{A:Xn}{outer:List Env}{s₀:X0}{H₀:Hp}{E:XK}
 {pz:List (Addr×Obj)} {σ:St} {H:Hp} {s:X0}
theorem Jg{a C t:Addr}{B:Heap}{y:X0}(I:Inv (cxOf (CX1 P w) P w K mg base N qual scope f cd A outer s₀ H₀ E) pz σ H s){m:Hp}{h:Heap}(os:y.os=s.os)(g:AllBare y.gens)(d:Un (frs outer) [] H₀ m s₀.heap h)(Z:HOk P w m h)
  (st:B.StaysIn h)(T:Vn B outer a (.ref C) (.ref t) y.heap)(p:h.UpToSlots y.heap)(L:h.FunFrames B (envOfC qual scope s₀.heap.objs.size f cd::outer))
  (l:∀b o,s₀.heap.get? b=some o->b∉frs outer->(H₀ b=none->B.get? b=some o)/\∃U,B.get? b=some U)(own:∀b u,m b=some u->∃o,B.get? b=some o)(q:E (.ref C) none m):CX1 P w outer H₀ s₀ E (.ref a) y:=by
 have O:∀b∈frs outer,∃o,h.get? b=some o/\∀Q,o.data≠.fields Q:=λb j=>(L.2.2.mem j).2;refine⟨a,C,t,B,m,rfl,os.trans I.os,g,⟨λb o e n j _=>T.1 b o ((l b o e j).1 n),λb o e n j W=>?_,λb o e n W=>d.free b o e n W,λb o e W=>?_,d.tups,d.frzs,d.tbls⟩,λb u e=>?_,T,l,own,q⟩
 .obtain⟨i,J⟩:=d.slot b o e n j W;obtain⟨S,Y,D⟩:=O b j;rw[J]at Y;cases Y;obtain⟨R,F⟩:=p b _ J D;exact⟨R,F⟩
 .by_cases j:b∈frs outer
  .obtain⟨S,Y,D⟩:=O b j;obtain⟨R,F⟩:=p b _ Y D;exact⟨_,F⟩
  .obtain⟨U,X⟩:=(l b o e j).2;exact⟨U,T.1 b U X⟩
 .refine(Z b u e).stay (λc v G r=>?_) (λ_ z=>z) λ_ _ z=>z;obtain⟨o,M⟩:∃o,B.get? c=some o:=by
   rcases G with rfl|G
   .exact own _ _ e
   .exact own _ _ G
  have:=st c o M;rw[r]at this;cases this;exact T.1 c _ M
theorem _ld{a C:Addr}{p:Heap}{T:List Value}(I:Inv (cxOf (CX1 P w) P w K mg base N qual scope f cd A outer s₀ H₀ E) pz σ H s)(L:CD s.heap p a (.ref C) T)(q:E (.ref C) none H):
  (cxOf (CX1 P w) P w K mg base N qual scope f cd A outer s₀ H₀ E).xe (.ref a) {s with heap:=p}:=by
 have y:=I.stack;have U:frs (cxOf (CX1 P w) P w K mg base N qual scope f cd A outer s₀ H₀ E).stack=s₀.heap.objs.size::frs outer:=rfl;have O:(Wa s.heap (frs (envOfC qual scope s₀.heap.objs.size f cd::outer))).StaysIn s.heap:=λb o e=>PySem.W.of_hideAll _ e;have get:∀b o,s.heap.get? b=some o->b∉frs (envOfC qual scope s₀.heap.objs.size f cd::outer)->(Wa s.heap (frs (envOfC qual scope s₀.heap.objs.size f cd::outer))).get? b=some o:=λb o e n=>G8 _ e n;have j:∀b o,s₀.heap.get? b=some o->b∉frs outer->b∉frs (envOfC qual scope s₀.heap.objs.size f cd::outer):=λb o e n z=>by
  rcases Xm.mp (show b∈s₀.heap.objs.size::frs outer from z)with rfl|z
  .exact absurd (Xq e) (Us _)
  .exact n z
 have R:=PySem.W.funFrames_hide y λm W b Y=>Cr.mpr ⟨m,W,Y⟩;have un:Un (frs outer) [] H₀ H s₀.heap s.heap:=I.base;have g:∀b o,s₀.heap.get? b=some o->b∉frs outer->(H₀ b=none->(Wa s.heap (frs (envOfC qual scope s₀.heap.objs.size f cd::outer))).get? b=some o)/\∃l,(Wa s.heap (frs (envOfC qual scope s₀.heap.objs.size f cd::outer))).get? b=some l:=λb o e n=>by
  refine⟨λz=>get b o (un.keep b o e z n (by simp)) (j b o e n),?_⟩
  obtain⟨l,Z⟩:=un.there b o e (by simp)
  exact⟨l,get b l Z (j b o e n)⟩
 refine wpAny_leaves_madeW I.ok.frames rfl O R L λd t B _ _ c=>?_;refine Jg (h:=s.heap) (y:={s with heap:=d}) I rfl I.bare un I.hok O B ((Heap.UpToSlots.of_keeps L.keeps).trans c) R g (λb u e=>?_) q;obtain⟨o,D⟩:=(I.hok b u e).there;exact⟨o,get b o D λz=>by rw[I.stkFree b z]at e;cases e⟩
theorem _nS:Wp (CX1 P w) (cxOf (CX1 P w) P w K mg base N qual scope f cd A outer s₀ H₀ E) E:=by
 intro pz σ H s e L I O;obtain⟨a,C,t,B,W,rfl,os,j,un,l,m,u,g,q⟩:=O;have R:=I.call' os un l j (λ_ z=>nomatch z);refine wpAny_leaves_onW I.ok.frames rfl m λd c p=>?_;refine Jg (h:=L.heap) (y:={L with heap:=d}) I os j R.base l m.1 c p m.2.2.1 (λb o e n=>?_) g q;have y:b∉frs (envOfC qual scope s₀.heap.objs.size f cd::outer):=λz=>by
  rcases Xm.mp (show b∈s₀.heap.objs.size::frs outer from z)with rfl|z
  .exact absurd (Xq e) (Us _)
  .exact n z
 refine⟨λz=>?_,?_⟩
 .exact(u b o (I.base.keep b o e z n (by simp[cxOf])) y).1 (I.base.free b o e z (by simp[cxOf]))
 .obtain⟨T,U⟩:=I.base.there b o e (by simp[cxOf])
  exact(u b T U y).2
theorem own1:PassesOwn (X4 P w) (cxOf (CX1 P w) P w K mg base N qual scope f cd A outer s₀ H₀ E).A (cxOf (CX1 P w) P w K mg base N qual scope f cd A outer s₀ H₀ E).env (cxOf (CX1 P w) P w K mg base N qual scope f cd A outer s₀ H₀ E).xe:=by
 unfold cxOf
 passes_own
end
noncomputable def nsOk(K:X1)(N:Addr):Bool:=match K.lookup N with
 |some ⟨_,_,.dict es _,_⟩=>es.toList.all (fun e=>match e.key with|.str _ _=>true|_=>false)&&(nsFind es "__init__").isNone
 |_=>false
set_option tactic.hygienic true in
theorem Jh{K:X1}{N:Addr}(e:nsOk K N=true):∃j,(∀h:Heap,K.In h->h.Ns N j)/\j "__init__"=none:=by
 unfold nsOk at e;split at e
 .rename_i c d l u m w
  rw[XM]at e;refine⟨nsFind l,λh X=>⟨_,l,u,X _ _ w,rfl,λx y=>?_,λ_=>rfl⟩,Option.isNone_iff_eq_none.mp e.2⟩;have:=Uo.mp e.1 x (by simpa using y)
  split at this
  .rename_i n t z;exact⟨n,t,z⟩
  .cases this
 .cases e
noncomputable abbrev veMro:List Value:=[.type "ValueError",.type "Exception",.type "BaseException",.type "object"]
def XCls(K:X1)(C:Addr)(u:List Value):Prop:=
 ∃w q N bs j y sub z l m g d c f p,K.lookup C=some (UL w q C N bs u j y sub z l m g d c f p "ValueError.__new__")/\nsOk K N=true
theorem _hj{K:X1}{h:Heap}{F:Addr}(X:K.In h)(u:XCls K F veMro):OwnTail h veMro (.ref F::veMro):=by
 obtain⟨y,q,N,bs,j,z,sub,m,w,g,d,c,f,p,e,l,n⟩:=u;obtain⟨L,a,b⟩:=Jh n;exact .own (X _ _ l) (a h X) b .base
section
variable{X:Cx}{C F:Addr}{x:Str}{a:Expr}{t:TA}{R:Hp->Prop}{np cpos pos:Pos}
theorem Ji(Y:XCls X.K F veMro)(Z:XCls X.K C (.ref F::veMro))(A:X.calm=true)(B:Gl X x)(c:X.mg x=some (.ref C))(E:PA X [a] t)
  (f:∀y u H s m e g,Inv X y u H s->CD s.heap m e (.ref C) g->R H->X.xe (.ref e) {s with heap:=m})
  (p:(x==("__debug__":Str))=false)(U:Xs [a] X.env=(false,eval a X.env)::Xs [] X.env):
  PS X (.Raise (some (.Call (.Name x np) [a] [] cpos)) none pos) (λ_ u H=>t u H λg L=>g.length<=sizeLine/\R L):=by
 intro y s u H D I h;obtain⟨G,q,N,bs,w,J,sub,M,O,Q,S,v,o,i,b,l,n⟩:=Z;have j:(Yl cpos (Xs [a] X.env)).any (·.1)=false:=by rw[U];rfl
 obtain⟨mN,P,T⟩:=Jh n;refine wpAny_Raise_call_subT (mN:=mN) (C:=C) (nm:=G) (q:=q) (N:=N) (bs:=bs) (bm:=.ref F::veMro) (hdct:=w) (sn:=J) (sub:=sub) (ab:=M) (col:=O) (dd:=Q) (k0:=S) (k1:=v) (k2:=o) (k3:=i) (k5:=b) PySem.F.excBase_ValueError (by rw[Vi,show veMro.contains (ZK "BaseException")=true by decide+kernel,Vo]) (I.ok.hd A) j T ?_
 refine Wl I B c ⟨rfl,?_⟩ p;have W:=E cpos y s u H _ I h;rw[U]at W ⊢;refine Calls.evalArgs_plain (Yg W (λus s1 hs=>?_) λ_ _ z=>z);obtain⟨g,L,d,r,hl,q1⟩:=hs;exact⟨rfl,by rw[<-r.length];exact hl,d.kIn _ _ l,P _ d.kIn,_hj d.kIn Y,λm e c=>f y u L s1 m e us d c q1⟩
end
structure ShortT (x:Str):Prop where
 len:x.length<=100
 cps:∀c∈x.cps.toList,c<16^8
theorem ShortT.rep{x:Str}(h:ShortT x):(reprText x).length<=1002:=by
 have:=StrLaws.reprText_len x h.cps;have:=h.len
 omega
def VP(j:Scope)(N:List Str)(i:Nat):List Expr->Bool
 |[]=>true
 |.FormattedValue (.Name x _) 114 none _::r=>decide (N[i]?=some x)&&visB j x&& !(x==("__debug__":Str))&& !(x==("__classdict__":Str))&&VP j N i r
 |.Constant (.str s) _ _::r=>decide (s.length<=1000)&&VP j N i r
 |_=>false
section
variable{X:Cx}{pz:List (Addr×Obj)}{σ:St}{H:Hp}{i:Nat}{x:Str}{R:Str->X0->Prop}
set_option tactic.hygienic true in
theorem _hz(p:ShortT x)(d:σ[i]?=some (some (.str x))):∀(j:List Expr)(l:Str)(s:X0),VP X.env.scope X.N i j=true->Inv X pz σ H s->l.length+1100*j.length<=sizeLine->
  (∀out w,Inv X pz σ H w->out.length<=sizeLine->R out w)->Joins (X4 X.prog X.w) X.A X.xe (evalEach j X.env) l R s:=by
 intro j
 induction j with
 |nil=>intro l s _ I m k;exact k l s I (by simpa using m)
 |cons e r f=>
  intro l s h I m k;have m:l.length+1100+1100*r.length<=sizeLine:=by rw[Y0]at m;omega
  unfold VP at h;split at h
  .cases ‹_::_=[]›
  .rename_i c
   cases c;simp only[XM,Wd,decide_eq_true_eq]at h;obtain⟨⟨⟨⟨L,N⟩,O⟩,P⟩,T⟩:=h;have B:=p.rep;have z:∀q w,Inv X pz σ H w->∃y t,Yv (reprText x) q=.str y t/\(l++y).length<=sizeLine/\Joins (X4 X.prog X.w) X.A X.xe (evalEach r X.env) (l++y) R w:=λq w g=>by
    refine⟨_,_,rfl,?_,f _ _ T g ?_ k⟩
    .rw[strLen_append];omega
    .rw[strLen_append];omega
   refine wpAny_FormattedValue_repr (thn (Bl L (IR N) O P pz s σ H (λv U=>v=.str x/\U=H) I ⟨_,d,rfl,rfl⟩) λu w ⟨v,C,g,W,Y,Z⟩=>?_);subst Y Z;obtain⟨t,rfl⟩:=W;exact pyReprObj_str (wpAny_handedOn (z _ _ (g.tok _)) (z _ _ (g.tok _)) (by omega)) (by omega)
  .rename_i c
   cases c;simp only[XM,decide_eq_true_eq]at h;obtain⟨D,A⟩:=h;refine Calls.Constant_str ⟨_,_,rfl,?_,f _ _ A (I.tok _) ?_ k⟩
   .rw[strLen_append];omega
   .rw[strLen_append];omega
  .cases h
noncomputable def asFs:Expr->Option (List Expr)|.JoinedStr (a::b::r) _=>some (a::b::r)|_=>none
theorem Jj{e:Expr}{q:List Expr}(h:asFs e=some q):∃a b r p,q=a::b::r/\e=.JoinedStr (a::b::r) p:=by
 unfold asFs at h;split at h
 .cases h;exact⟨_,_,_,_,rfl,rfl⟩
 .cases h
noncomputable def tFs(i:Nat):TE:=λσ H Q=>∃x,σ[i]?=some (some (.str x))/\ShortT x/\∀y,Q (.str y) H
theorem _nQ{e:Expr}{q:List Expr}(h1:asFs e=some q)(h2:q.length<=10)(h3:VP X.env.scope X.N i q=true):PE X e (tFs i):=by
 obtain⟨a,b,r,p,rfl,rfl⟩:=Jj h1;rintro pz s σ H Q I ⟨x,j,l,q⟩;refine wpAny_JoinedStr (_hz l j _ _ _ h3 I ?_ λout y u w=>⟨w,?_⟩)
 .have:(Vv).length=0:=rfl;have:20000<=sizeLine:=by decide
  omega
 .exact⟨.str out,H,u.tok _,⟨_,rfl⟩,q out⟩
end
end L2
namespace L2
set_option genInjectivity false
open PySem PySem.Spec PyProof.Rows
abbrev SpX:=List MV->MH->QM->(Str->MH->Prop)->Prop
def MonX(j:SpX):Prop:=∀⦃l:List MV⦄ ⦃M:MH⦄ ⦃Q u:QM⦄ ⦃X w:Str->MH->Prop⦄,(∀v M,Q v M->u v M)->(∀c M,X c M->w c M)->j l M Q X->j l M u w
def liEx(K:X1)(E:XK)(H:Hp):Str->MH->Prop:=λc l=>∀C j,XA K Xl c=some (some (.ref C))->Kp H j->RH K l j->E (.ref C) none j
def Yw(K:X1)(l:SpX):Sp:=λu H Q E=>∃j M,RMs K H j u/\RH K M H/\l j M (Dn K H Q) (liEx K E H)
mutual
inductive IX where
 |pl (s:IS)
 |rs (c:Str)(e:IE)
 |rf (c:Str)(i:Nat)
 |cl (j:Nat)(e:IE)(es:IEs)
 |st (i j:Nat)(e:IE)(es:IEs)
 |rt (j:Nat)(e:IE)(es:IEs)
 |ite (c:IE)(a b:IXs)
 |for_ (t:ITg)(s:ISr)(b:IXs)
inductive IXs where|nil|cons (s:IX)(r:IXs)
end
noncomputable def Src.flat:Src->Prop
 |_=>True
section
variable(Φ:List (Str×SpM))(Ψ:List (Str×SpX))(ex:Str->MH->Prop)
mutual
noncomputable def wX:IX->EndM->Sm->MH->Prop
 |.pl s,D,l,M=>wS Φ s D l M
 |.rs c e,_,l,M=>wE Φ e l M λ_ M1=>ex c M1
 |.rf c i,_,l,M=>∃x,l[i]?=some (some (.str x))/\ShortT x/\ex c M
 |.cl j e es,D,l,M=>wE Φ e l M λv M1=>wEs Φ es l M1 λvs M2=>∃f sp,Ψ[j]?=some (f,sp)/\sp (v::vs) M2 (λ_ u=>D.nx l u) ex
 |.st i j e es,D,l,M=>wE Φ e l M λv M1=>wEs Φ es l M1 λvs M2=>∃f sp,Ψ[j]?=some (f,sp)/\sp (v::vs) M2 (λx u=>D.nx (l.set i (some x)) u) ex
 |.rt j e es,D,l,M=>wE Φ e l M λv M1=>wEs Φ es l M1 λvs M2=>∃f sp,Ψ[j]?=some (f,sp)/\sp (v::vs) M2 D.rt ex
 |.ite c a b,D,l,M=>wE Φ c l M λx M1=>onB x λk=>(if k=true then wXs a D l M1 else wXs b D l M1)
 |.for_ t s b,D,l,M=>wSr Φ s l M λS M1=>S.flat/\∃J:Nat->Sm->MH->Prop,J 0 l M1/\(∀i l M,J i l M->S.ok M)/\
   (∀i x l M,S.items[i]?=some x->J i l M->wTg t x l λw=>wXs b {nx:=J (i+1),rt:=D.rt,bk:=D.nx,ct:=J (i+1)} w M)/\∀l M,J S.len l M->D.nx l M
noncomputable def wXs:IXs->EndM->Sm->MH->Prop
 |.nil,D,l,M=>D.nx l M
 |.cons s r,D,l,M=>wX s {nx:=λl M=>wXs r D l M,rt:=D.rt,bk:=D.bk,ct:=D.ct} l M
end
end
section
variable{Φ:List (Str×SpM)}{Ψ:List (Str×SpX)}{ex:Str->MH->Prop}
theorem DK{c:IE}{a b:IXs}{D:EndM}{j:Sm}{M:MH}:wX Φ Ψ ex (.ite c a b) D j M=wE Φ c j M λx M1=>∃k,x=.bl k/\(if k=true then wXs Φ Ψ ex a D j M1 else wXs Φ Ψ ex b D j M1):=by rw[wX];simp only[V1]
mutual
theorem Jk(u:∀(j:Nat)f sp,Φ[j]?=some (f,sp)->MonW sp)(m:∀(j:Nat)f sp,Ψ[j]?=some (f,sp)->MonX sp):∀(s:IX){w:Str->MH->Prop} {D g:EndM} {y:Sm} {M:MH},(∀c M,ex c M->w c M)->D.Le g->wX Φ Ψ ex s D y M->wX Φ Ψ w s g y M
 |.pl s,w,D,g,y,M,hx,l,h=>by exact BC u s l h
 |.rs c e,w,D,g,y,M,hx,l,h=>by exact X7 u e (λv M1 h1=>hx _ _ h1) h
 |.rf c i,w,D,g,y,M,hx,l,⟨x,e,t,h⟩=>by exact⟨x,e,t,hx _ _ h⟩
 |.cl j e es,w,D,g,y,M,hx,l,h=>by
  exact X7 u e (λv M1 h1=>mon_es u es (λvs M2 ⟨f,sp,e,h2⟩=>⟨f,sp,e,m j f sp e (λ_ _ z=>l.nx _ _ z) hx h2⟩) h1) h
 |.st i j e es,w,D,g,y,M,hx,l,h=>by
  exact X7 u e (λv M1 h1=>mon_es u es (λvs M2 ⟨f,sp,e,h2⟩=>⟨f,sp,e,m j f sp e (λ_ _ z=>l.nx _ _ z) hx h2⟩) h1) h
 |.rt j e es,w,D,g,y,M,hx,l,h=>by
  exact X7 u e (λv M1 h1=>mon_es u es (λvs M2 ⟨f,sp,e,h2⟩=>⟨f,sp,e,m j f sp e l.rt hx h2⟩) h1) h
 |.ite c a b,w,D,g,y,M,hx,l,h=>by
  rw[DK]at h ⊢;exact X7 u c (λx M1 ⟨k,e,h1⟩=>⟨k,e,YS (mon_xs u m a hx l) (mon_xs u m b hx l) h1⟩) h
 |.for_ t s b,w,D,g,y,M,hx,l,h=>by
  refine mon_sr u s (λS M1 ⟨q,J,p,L,N,O⟩=>⟨q,J,p,L,λi x y M P d=>?_,λy M d=>l.nx _ _ (O y M d)⟩) h;exact Uc t (λR h2=>by refine mon_xs u m b hx ?_ h2;exact⟨λ_ _ z=>z,l.rt,l.nx,λ_ _ z=>z⟩) (N i x y M P d)
theorem mon_xs(u:∀(j:Nat)f sp,Φ[j]?=some (f,sp)->MonW sp)(m:∀(j:Nat)f sp,Ψ[j]?=some (f,sp)->MonX sp):∀(s:IXs){w:Str->MH->Prop} {D g:EndM} {y:Sm} {M:MH},(∀c M,ex c M->w c M)->D.Le g->wXs Φ Ψ ex s D y M->wXs Φ Ψ w s g y M
 |.nil,w,D,g,y,M,hx,l,h=>by exact l.nx _ _ h
 |.cons s r,w,D,g,y,M,hx,l,h=>by
  refine Jk u m s hx ?_ h;exact⟨λy M h1=>mon_xs u m r hx l h1,l.rt,l.bk,l.ct⟩
end
end
noncomputable def BE:Stmt->Option (Str×Expr)
 |.Raise (some (.Call (.Name x _) [a] [] _)) none _=>some (x,a)
 |_=>none
theorem Jl{st:Stmt}{q:Str×Expr}(h:BE st=some q):∃u j l,st=.Raise (some (.Call (.Name q.1 u) [q.2] [] j)) none l:=by
 unfold BE at h;split at h
 .cases h;exact⟨_,_,_,rfl⟩
 .cases h
structure GX where
 g:GI
 xf:List Str
 xc:List Str
def chkC(G:GX)(l:Scope)(N:List Str)(j:Nat)(e:IE)(u:IEs)(v:Expr):Bool:=
 (Zm v).any λq=>(Yp q.1).any λf=>(hd1 q.2.1).any λy=>non0 q.2.2.1&&decide (G.xf[j]?=some f)&&glB l f&&chkE G.g e l N y.1&&chkEs G.g u l N y.2
mutual
def chkX(G:GX)(u:Scope)(N:List Str):IX->Stmt->Bool
 |.pl s,st=>chkS G.g u N s st
 |.rs c e,st=>(BE st).any λq=>decide (q.1=c)&&G.xc.contains c&&glB u c&&chkE G.g e u N q.2
 |.rf c i,st=>(BE st).any λq=>(asFs q.2).any λl=>decide (q.1=c)&&G.xc.contains c&&glB u c&&decide (l.length<=10)&&VP u N i l
 |.cl j e es,st=>(asEx st).any λv=>chkC G u N j e es v
 |.st i j e es,st=>(VM st).any λq=>(the1 q.1).any λt=>(Yp t).any λx=>decide (N[i]?=some x)&&locB u x&&chkC G u N j e es q.2
 |.rt j e es,st=>(DD st).any λo=>o.any λx=>chkC G u N j e es x
 |.ite c a b,s=>(DE s).any λq=>tok c&&chkE G.g c u N q.1&&chkXs G u N a q.2.1&&chkXs G u N b q.2.2
 |.for_ t r b,s=>(DF s).any λq=>Za u N N.length true t q.1&&chkSr G.g r u N q.2.1&&VJ q.2.1&&chkXs G u N b q.2.2.1&&non0 q.2.2.2
def chkXs(G:GX)(u:Scope)(N:List Str):IXs->List Stmt->Bool
 |.nil,l=>non0 l
 |.cons s r,l=>(hd1 l).any λq=>chkX G u N s q.1&&chkXs G u N r q.2
end
theorem Jn{G:GX}{u:Scope}{N:List Str}{j:Nat}{a:IE}{z:IEs}{v:Expr}(h:chkC G u N j a z v=true):∃f p x w y,v=.Call (.Name f p) (x::w) [] y/\G.xf[j]?=some f/\glB u f=true/\chkE G.g a u N x=true/\chkEs G.g z u N w=true:=by
 replace h:=X9 h;obtain⟨⟨f,l,R,y⟩,m,h⟩:=h;obtain rfl:=_Q m;replace h:=X9 h;obtain⟨g,d,h⟩:=h;obtain⟨p,rfl⟩:=Yt d;replace h:=X9 h;obtain⟨⟨x,w⟩,c,h⟩:=h;obtain rfl:=_o c;simp only[XM]at h;obtain⟨⟨⟨⟨q,e⟩,L⟩,O⟩,P⟩:=h;obtain rfl:=Yq q;exact⟨g,p,x,w,y,rfl,Xr e,L,O,P⟩
section
variable{X:Cx}{E:Value->X0->Prop}
theorem PA.nox{es:List Expr}{t:TA}(h:PA X.nox es t):PA X es t:=λj l s u H Q I w=>
 Yg (h j l s u H Q (I.wish _) w) (λ_ _ ⟨v,y,m,r,q⟩=>⟨v,y,m.unwish,r,q⟩) λ_ _ z=>XS z
theorem PS.nox{st:Stmt}{t:TS}(h:PS X.nox st t):PS X st t:=λj s l H D I u=>
 Yg (h j s l H D (I.wish _) u) (λ_ _ q=>q.unwish) λ_ _ z=>XS z
theorem PG.nox{e:Expr}{t:TG}(h:PG X.nox e t):PG X e t:=λl s w H v u Q I r y=>
 Yg (h l s w H v u Q (I.wish _) r y) (λ_ _ ⟨j,m,g,q⟩=>⟨j,m,g.unwish,q⟩) λ_ _ z=>XS z
theorem PI.nox{tg e:Expr}{t:TI}(h:PI X.nox tg e t):PI X tg e t:=λj s l H R I u=>
 Yg (h j s l H R (I.wish _) u) (λ_ _ q=>Yg q (λ_ _ ⟨w,y,m,J,g,e,d,T,c,f,r⟩=>⟨w,y,m,J,g,e,d.unwish,T,c,f,r⟩) λ_ _ z=>XS z) λ_ _ z=>XS z
end
structure BF (X:Cx)(G:GX)(Φ:List (Str×SpM))(Ψ:List (Str×SpX))(H₀:Hp)(E:XK):Prop where
 c:Cok X.nox G.g Φ
 nd:X.N.Nodup
 calm:X.calm=true
 own:PassesOwn (X4 X.prog X.w) X.A X.env X.xe
 pass:Wp (CX1 X.prog X.w) X E
 rais:∀pz σ H s h' e C vs,Inv X pz σ H s->CD s.heap h' e (.ref C) vs->E (.ref C) none H->X.xe (.ref e) {s with heap:=h'}
 mon:∀(j:Nat)f sp,Ψ[j]?=some (f,sp)->MonX sp
 fnn:∀(j:Nat)f,G.xf[j]?=some f->∃sp,Ψ[j]?=some (f,sp)
 fns:∀(j:Nat)f sp,G.xf[j]?=some f->Ψ[j]?=some (f,sp)->∃k fa fd ps,Room k X.A/\FnOk X.prog X.w X.K X.mg X.base (CX1 X.prog X.w) k fa fd ps (Yw X.K sp)/\X.mg f=some (.ref fa)/\YV X.K (.ref fa)=true/\Binds X.K fd ps []
 exc:∀c,G.xc.contains c=true->∃C F,X.mg c=some (.ref C)/\XA X.K Xl c=some (some (.ref C))/\XCls X.K F veMro/\XCls X.K C (.ref F::veMro)
def liXt(K:X1)(j:Hp)(t:EndM->Sm->MH->Prop):TS:=λD u H=>Kp j H/\∃l M,RS K H l u/\RH K M H/\t (liD K H D) l M
section
variable{X:Cx}{G:GX}{Φ:List (Str×SpM)}{Ψ:List (Str×SpX)}{H₀:Hp}{E:XK}{ex:Str->MH->Prop}
theorem sCl(x:BF X G Φ Ψ H₀ E)(d:∀c w,ex c w->liEx X.K E H₀ c w){j:Nat}{a:IE}{z:IEs}{v:Expr}(h:chkC G X.env.scope X.N j a z v=true):
  PE X v (λW H Q=>Kp H₀ H/\∃l M,RS X.K H l W/\RH X.K M H/\wE Φ a l M λv M1=>wEs Φ z l M1 λq M2=>∃f g,Ψ[j]?=some (f,g)/\g (v::q) M2 (Dn X.K H Q) ex)/\V6 v=true:=by
 obtain⟨f,p,y,B,D,rfl,Y,I,L,Z⟩:=Jn h;obtain⟨J,S,g3⟩:=YT I;obtain⟨g,N⟩:=x.fnn j f Y;obtain⟨k,fa,fd,ps,o,F,s,i,n⟩:=x.fns j f g Y N;have c:=x.c;have b:PA X (y::B) (Ua (liE X.K (wE Φ a)) (liA X.K (wEs Φ z))):=PA.nox (YR (X:=X.nox) (sE a c L).pe (sA z c Z) (Y8 L));refine⟨(GV (E:=E) F o J s i n .nil x.pass b S (Y8 L) (V5 (Uv (l:=D) Z)).2).weak λW H Q O=>?_,rfl⟩;obtain⟨k0,l,M,A,rh,O⟩:=O;refine⟨l,M,A,rh,X7 c.mon a (λv M1 q1=>?_) O⟩;intro u H1 P r1 R;refine⟨l,M1,A.mono P,R,mon_es c.mon z (λq M2 ⟨f',sp',e,q2⟩=>?_) q1⟩;rw[N]at e;cases e;intro us H2 T r2 U;refine⟨v::q,M2,?_,U,x.mon j f g N (λm w hq=>hq.on (P.trans T)) (λc' w hc C H' e' kk rr=>d c' w hc C H' e' (k0.trans (P.trans (T.trans kk))) rr) q2⟩;rw[U4];exact .cons (r1.mono T) r2
mutual
theorem sX(x:BF X G Φ Ψ H₀ E)(N:∀c L,ex c L->liEx X.K E H₀ c L)(hf:∀y,X.fn y=true):∀(is:IX){st:Stmt},chkX G X.env.scope X.N is st=true->PS X st (liXt X.K H₀ (wX Φ Ψ ex is))
 |.pl s,st,h=>by
  refine(PS.nox (sS s x.c hf h)).weak λD W H hw=>?_;obtain⟨_,hw⟩:=hw;exact hw
 |.rs c e,st,h=>by
  replace h:=X9 h;obtain⟨⟨n,a⟩,h1,h⟩:=h;obtain⟨np,cpos,pos,rfl⟩:=Jl h1;simp only[XM]at h;obtain⟨⟨⟨B,a2⟩,a3⟩,a4⟩:=h;obtain rfl:=Xr B;obtain⟨g1,g2,g3⟩:=YT a3;obtain⟨C,F,m1,m2,cF,cC⟩:=x.exc _ a2;have ha:PA X [a] (Ua (liE X.K (wE Φ e)) tNil):=PA.nox (YR (X:=X.nox) (sE e x.c a4).pe pa_nil (Y8 a4));refine(Ji (R:=λH=>E (.ref C) none H) cF cC x.calm g1 m1 ha (λpz W H s h' e vs I hm q=>x.rais pz W H s h' e C vs I hm q) g2 (Y8 a4)).weak λD W H hw=>?_;obtain⟨k0,w,M,O,T,hw⟩:=hw;refine⟨w,M,O,T,X7 x.c.mon e (λv M1 q1=>?_) hw⟩;intro u H1 k1 r1 P;refine⟨by rw[Ul];decide,?_⟩
  exact N _ _ q1 C H1 m2 (k0.trans k1) P
 |.rf c i,st,h=>by
  replace h:=X9 h;obtain⟨⟨n,a⟩,h1,h⟩:=h;obtain⟨np,cpos,pos,rfl⟩:=Jl h1;replace h:=X9 h;obtain⟨l,h2,h⟩:=h;simp only[XM]at h;obtain⟨⟨⟨⟨B,a2⟩,a3⟩,a4⟩,a5⟩:=h;obtain rfl:=Xr B;obtain⟨g1,g2,g3⟩:=YT a3;obtain⟨C,F,m1,m2,cF,cC⟩:=x.exc _ a2;have st1:Xs [a] X.env=(false,eval a X.env)::Xs [] X.env:=by obtain⟨_,_,_,_,_,e⟩:=Jj h2;cases e;rfl
  have ha:PA X [a] (Ua (tFs i) tNil):=YR (_nQ h2 (Xr a4) a5) pa_nil st1;refine(Ji (R:=λH=>E (.ref C) none H) cF cC x.calm g1 m1 ha (λpz W H s h' e vs I hm q=>x.rais pz W H s h' e C vs I hm q) g2 st1).weak λD W H hw=>?_;obtain⟨k0,w,M,O,T,y,hy,hs,hw⟩:=hw;obtain⟨v,hv,rv⟩:=O.2 i _ hy;cases rv;refine⟨y,hv,hs,λz=>⟨by rw[Ul];decide,?_⟩⟩
  exact N _ _ hw C H m2 k0 T
 |.cl j e es,st,h=>by
  replace h:=X9 h;obtain⟨v,h1,h⟩:=h;obtain⟨p,rfl⟩:=DG h1;obtain⟨hp,hn⟩:=sCl x N h;refine(GF hp (DI hn)).weak λD W H hw=>?_;obtain⟨k0,w,M,O,T,hw⟩:=hw;refine⟨k0,w,M,O,T,X7 x.c.mon e (λv M1 q1=>mon_es x.c.mon es (λvs M2 ⟨f,sp,e1,q2⟩=>⟨f,sp,e1,x.mon j f sp e1 (λm L z=>?_) (λ_ _ z=>z) q2⟩) q1) hw⟩;intro u H1 k1 r1 P;exact z _ _ k1 (O.mono k1) P
 |.st i j e es,st,h=>by
  replace h:=X9 h;obtain⟨⟨ts,v⟩,h1,h⟩:=h;obtain⟨p,rfl⟩:=WG h1;replace h:=X9 h;obtain⟨t,h2,h⟩:=h;obtain rfl:=_n h2;replace h:=X9 h;obtain⟨y,h3,h⟩:=h;obtain⟨px,rfl⟩:=Yt h3;simp only[XM]at h;obtain⟨⟨B,a2⟩,a3⟩:=h;obtain⟨hp,hn⟩:=sCl x N a3;refine(Bn x.nd (Xr B) (V3 a2) hp (DH hn) (.inl (hf _))).weak λD W H hw=>?_;obtain⟨k0,w,M,O,T,hw⟩:=hw;refine⟨k0,w,M,O,T,X7 x.c.mon e (λv M1 q1=>mon_es x.c.mon es (λvs M2 ⟨f,sp,e1,q2⟩=>⟨f,sp,e1,x.mon j f sp e1 (λm L z=>?_) (λ_ _ z=>z) q2⟩) q1) hw⟩;intro u H1 k1 r1 P;exact z _ _ k1 ((O.mono k1).set r1 i) P
 |.rt j e es,st,h=>by
  replace h:=X9 h;obtain⟨o,h1,h⟩:=h;obtain⟨p,rfl⟩:=Ja h1;replace h:=X9 h;obtain⟨v,rfl,h⟩:=h;obtain⟨hp,hn⟩:=sCl x N h;refine(GG hp).weak λD W H hw=>?_;obtain⟨k0,w,M,O,T,hw⟩:=hw;exact⟨k0,w,M,O,T,hw⟩
 |.ite d a b,st,h=>by
  replace h:=X9 h;obtain⟨⟨t,u,v⟩,h1,h⟩:=h;obtain⟨p,rfl⟩:=Jb h1;simp only[XM]at h;obtain⟨⟨⟨B,a2⟩,a3⟩,a4⟩:=h;refine(GH (PT.nox ((sE d x.c a2).pt B)) (sXs x N hf a a3) (sXs x N hf b a4)).weak λD W H hw=>?_;obtain⟨k0,w,M,O,T,hw⟩:=hw;rw[DK]at hw;refine⟨w,M,O,T,X7 x.c.mon d (λy M1 ⟨k,e,q⟩=>⟨k,e,λH1 k1 P=>?_⟩) hw⟩;exact YS (λq=>⟨k0.trans k1,w,M1,O.mono k1,P,mon_xs x.c.mon x.mon a (λ_ _ z=>z) (liD.on k1) q⟩) (λq=>⟨k0.trans k1,w,M1,O.mono k1,P,mon_xs x.c.mon x.mon b (λ_ _ z=>z) (liD.on k1) q⟩) q
 |.for_ t s b,st,h=>by
  replace h:=X9 h;obtain⟨⟨tg,it,body,els⟩,h1,h⟩:=h;obtain⟨p,rfl⟩:=Jc h1;simp only[XM]at h;obtain⟨⟨⟨⟨B,a2⟩,a3⟩,a4⟩,a5⟩:=h;obtain rfl:=Yq a5;refine(GN x.own x.calm (PI.nox (sSr s (tg:=tg) x.c a2)) (PG.nox (sTg (X:=X.nox) (lim:=X.N.length) (all:=true) x.c.calm x.c.nd (λ_=>hf) t B)) (sXs x N hf b a4) (BB a3 _)).weak λD W H hw=>?_;obtain⟨k0,w,M,O,T,hw⟩:=hw;refine⟨w,M,O,T,mon_sr x.c.mon s (λS M1 ⟨fl,J,j0,j1,j2,j3⟩=>?_) hw⟩;intro I H1 k1 P sit;refine⟨λi m g Q=>m=S.len - i/\i<=S.len/\Kp H1 Q/\∃U L,RS X.K Q U g/\RH X.K L Q/\J i U L,⟨_,rfl,Zj _,Kp.refl _,w,M1,O.mono k1,P,j0⟩,?_⟩;rintro i m σ2 H2 ⟨rfl,hi,k2,Y,M2,rs2,rh2,hj⟩;obtain⟨goes,stops⟩:=DC sit k2 rh2 (j1 i Y M2 hj);by_cases hlt:i<S.len
  .obtain⟨go,yld⟩:=goes i hlt;refine .inr ⟨go,λg Q=>Kp H1 Q/\∃U L,RS X.K Q U g/\RH X.K L Q/\J (i+1) U L,λg Q ⟨a,z⟩=>⟨S.len - (i+1),by lia,rfl,hlt,a,z⟩,λy Q yl=>?_⟩
   obtain⟨e,m,hm,rm⟩:=yld y Q yl;subst e;refine WF (Ψ:=λ_=>True) (lim:=X.N.length) (λ_ _ _ _ z=>z) t B rm rs2 trivial (j2 i m Y M2 hm hj) λσm3 σ3 q rs3 _=>?_;refine⟨k0.trans (k1.trans k2),σm3,M2,rs3,rh2,?_⟩;refine mon_xs x.c.mon x.mon b (λ_ _ z=>z) ?_ q;exact⟨λg L z σv H3 k3 Z A=>⟨k2.trans k3,g,L,Z,A,z⟩,λv L z=>z.on (k1.trans k2),λg L z σv H3 k3=>z σv H3 (k1.trans (k2.trans k3)),λg L z σv H3 k3 Z A=>⟨k2.trans k3,g,L,Z,A,z⟩⟩
  .have e:i=S.len:=by lia
   subst e;exact .inl ⟨stops _ (Xf _),j3 Y M2 hj _ _ (k1.trans k2) rs2 rh2⟩
theorem sXs(x:BF X G Φ Ψ H₀ E)(N:∀c L,ex c L->liEx X.K E H₀ c L)(hf:∀y,X.fn y=true):∀(is:IXs){sts:List Stmt},chkXs G X.env.scope X.N is sts=true->PSs X sts (liXt X.K H₀ (wXs Φ Ψ ex is))
 |.nil,sts,h=>by
  obtain rfl:=Yq h;refine pss_nil.weak λD W H hw=>?_;obtain⟨_,w,M,O,T,hw⟩:=hw;exact hw W H (Kp.refl _) O T
 |.cons s r,sts,h=>by
  replace h:=X9 h;obtain⟨⟨y,ys⟩,h1,h⟩:=h;obtain rfl:=_o h1;rw[XM]at h;refine(CY (sX x N hf s h.1) (sXs x N hf r h.2)).weak λD W H hw=>?_;obtain⟨k0,w,M,O,T,hw⟩:=hw;refine⟨k0,w,M,O,T,?_⟩;refine Jk x.c.mon x.mon s (λ_ _ z=>z) ?_ hw;refine⟨λg L z σv H1 k1 Z A=>?_,λv L z=>z,λg L z=>z,λg L z=>z⟩;exact⟨k0.trans k1,g,L,Z,A,mon_xs x.c.mon x.mon r (λ_ _ z=>z) (liD.on k1) z⟩
end
end
end L2
namespace L2
open PySem PySem.Spec PyProof.Rows
section
variable{prog:Xh}{w:Xd}{A:Xn}{E:Value->X0->Prop}{h:Heap}{g:Array GenState}{d:Drawn}{t:Nat}{os:OsState}{a:Addr}{o:Obj}
 {nm q:Str} {C N:Addr} {bs bm:List Value} {hdct:Bool} {sn:List Str} {sub:List Value} {ab:Bool} {col:Option Bool} {dd:Option Addr} {k0 k1 k2 k3 k5:Option Value} {newId:String}
theorem _bT{R:Result->X0->Prop}(z:h.get? C=some (UL nm q C N bs bm hdct sn sub ab col dd k0 k1 k2 k3 k5 newId))(m:bm.contains (.type "object")=true)
  (u:h.get? a=some o)(y:o.cls=.ref C)(c:R (.ok (.ret (.ref C))) ⟨h,g,d,t,os⟩):
  Z4 (X4 prog w) A (.call (.builtin "getset_descriptor.__get__") ⟨[.builtin "object.__class__",.ref a,.ref C],[]⟩) R ⟨h,g,d,t,os⟩:=by
 have j:(⟨h,g,d,t,os⟩:X0).TypeIs (.builtin "object.__class__") "getset_descriptor":=CN;have l:(XE C::bm).contains (.type (".".intercalate ("object.__class__".cutAt '.').dropLast))=true:=by
  rw[F.owner_object_class,Vi,m];rfl
 refine VZ F.slot_gs_get.plain F.entry_gs_get (F.slot_gs_get.check _ _ _ _ _ _ _ _ j (F.args_gs_get _ _ _) ?_)
 repeat (any_goals (first|assumption|(with_reducible refine ZX u ?_;rw[y])|(with_reducible refine W4 z ?_;rw[l])|wp_step))
 refine⟨Code.quiet_builtin _ (by decide+kernel),Z7 F.entry_object_class ?_⟩
 repeat (any_goals (first|assumption|(with_reducible refine ZX u ?_;rw[y])|wp_step))
noncomputable abbrev Lk(prog:Xh)(w:Xd)(h:Heap)(C:Addr)(n:Str)(r:Option Value):Prop:=∀(A:Xn)(Q:Option Value->X0->Prop)(E:Value->X0->Prop)(g:Array GenState)(d:Drawn)(t:Nat)(os:OsState),Q r ⟨h,g,d,t,os⟩->X3 (X4 prog w) A (typeLookup (.ref C) n) Q E ⟨h,g,d,t,os⟩
theorem _ag{u:Tok}{Q:Fin->X0->Prop}(y:h.get? C=some (UL nm q C N bs bm hdct sn sub ab col dd k0 k1 k2 k3 k5 newId))(z:bm.contains (.type "object")=true)
  (m:Lk prog w h C "__class__" (some (.builtin "object.__class__")))(j:h.get? a=some o)(l:o.cls=.ref C)(f:Q (.done (.ret (.ref C))) ⟨h,g,d,t,os⟩):
  X3 (X4 prog w) A (Builtin.«object.__getattribute__» ⟨[.ref a,.str "__class__" u],[]⟩) Q E ⟨h,g,d,t,os⟩:=by
 have c:(⟨h,g,d,t,os⟩:X0).TypeIs (.builtin "object.__class__") "getset_descriptor":=CN;have f5:=CN;have p:=F.slot_gs_get.lookup;have e:=F.slot_gs_set.lookup
 repeat (any_goals (first|assumption|(with_reducible refine ZX j ?_;rw[l])|with_reducible refine m _ _ _ _ _ _ _ ?_|wp_step))
 refine _bT y z j l ?_
 repeat (any_goals (first|assumption|wp_step))
theorem _cO{M:Model}{j:Value}{Q:Unit->X0->Prop}(y:h.get? C=some (UL nm q C N bs bm hdct sn sub ab col dd k0 k1 k2 k3 k5 newId))(z:bm.contains (.type "BaseException")=true)
  (m:h.get? a=some o)(c:o.cls=.ref C)(f:Q () ⟨h,g,d,t,os⟩):X3 M A (checkBuiltinCall "BaseException.__getattribute__" ⟨[.ref a,j],[]⟩) Q E ⟨h,g,d,t,os⟩:=by
 have p:builtinKind "BaseException.__getattribute__"=some .slot:=by decide+kernel
 have l:splitId "BaseException.__getattribute__"=some ("BaseException","__getattribute__"):=by decide+kernel
 have u:(XE C::bm).contains (.type "BaseException")=true:=by rw[Vi,z];rfl
 have e:=F.args_bexc_ga (.ref a) j;simp only[checkBuiltinCall,p,l];refine X2 ?_
 .unfold isInstance
  repeat (first|(with_reducible refine ZX m ?_;rw[c])|(with_reducible refine W4 y ?_;rw[u])|wp_step)
  exact f
theorem _aF{Q:Option Value->X0->Prop}(m:h.get? C=some (UL nm q C N bs bm hdct sn sub ab col dd k0 k1 k2 k3 k5 newId))(f:bm.contains (.type "BaseException")=true)(j:bm.contains (.type "object")=true)
  (p:Lk prog w h C "__getattribute__" (some (.builtin "BaseException.__getattribute__")))(e:Lk prog w h C "__getattr__" none)(L:Lk prog w h C "__class__" (some (.builtin "object.__class__")))(l:h.get? a=some o)(u:o.cls=.ref C)
  (O:Q (some (.ref C)) ⟨h,g,d,t+1,os⟩):X3 (X4 prog w) A (getAttr? (.ref a) "__class__") Q E ⟨h,g,d,t,os⟩:=by
 have y:∀{c:Tok} {A:Xn} {Q:Value->X0->Prop} {E:Value->X0->Prop} {t:Nat},Q (.ref C) ⟨h,g,d,t,os⟩->X3 (X4 prog w) A (getAttrBy (.ref a) (.str "__class__" c) false) Q E ⟨h,g,d,t,os⟩:=by
  intro c A Q E t O;have f3:=F.attr_ValueError.ga.bind (.ref a);have P:(false&&onTheHeap (Vr "BaseException.__getattribute__"))=false:=rfl;have z:(Vr "BaseException.__getattribute__"==Vr "object.__getattribute__")=false:=by decide+kernel
  have R:(onTheHeap (XE C)&&Vr "BaseException.__getattribute__"==Vr "object.__getattribute__")=false:=by rw[z];rfl
  repeat (any_goals (first|assumption|(with_reducible refine ZX l ?_;rw[u])|with_reducible refine p _ _ _ _ _ _ _ ?_|with_reducible refine e _ _ _ _ _ _ _ ?_|wp_step))
  refine VZ F.attr_ValueError.ga.plain F.entry_bexc_ga (_cO m f l u (_ag m j L l u ?_))
  repeat (any_goals (first|assumption|wp_step))
 unfold getAttr? getAttrBy?
 repeat (any_goals (first|assumption|with_reducible apply y|wp_step))
end
end L2
namespace L2
open PySem PySem.Spec PyProof.Rows PySem.W PySem.Calls
noncomputable def Uw(K:X1)(C j:Addr):Bool:=(clsIn K j).isSome&&typeIn K (.ref j)==some (.type "type")&&instIn K (.ref j) (.type "type")==some true&&subIn K (.ref C) (.ref j)==some false&& !(XE C==XE j)
section
variable{prog:Xh}{w:Xd}{A:Xn}{E:Value->X0->Prop}{s:X0}{K:X1}{C C' a:Addr}{o:Obj}
theorem DL{M:Model}{h:Heap}(j:h.get? a=some o)(l:o.cls=.ref C):Looks M h (typeOf (.ref a)) (.ref C):=by
 intro A Q E s k q;obtain⟨u,g,d,y,os⟩:=s;have j:=k _ _ j
 repeat (first|(with_reducible refine ZX j ?_;rw[l])|wp_step)
 exact q
set_option tactic.hygienic true in
theorem _aB{j:Int}{f:Tok}{Q:Fin->X0->Prop}(X:K.In s.heap)(q:s.heap.get? a=some o)(p:o.cls=.ref C)(e:Uw K C C'=true)
  (L:∀{A:Xn} {E:Value->X0->Prop} {Q:Option Value->X0->Prop},Q (some (.ref C)) {s with toks:=s.toks+1}->X3 (X4 prog w) A (getAttr? (.ref a) "__class__") Q E s)(l:(clsIn K C).isSome=true)
  (h:Q (.done (.ret (.bool false))) {s with toks:=s.toks+1}):
  X3 (X4 prog w) A (Builtin.«isinstance.nested» ⟨[.ref a,.ref C',.int j f],[]⟩) Q E s:=by
 have z:=DL (M:=X4 prog w) q p;obtain⟨m,g,d,Y,os⟩:=s;unfold Builtin.«isinstance.nested»;refine X2 (z.at ?_);unfold Uw at e;simp only[XM,Wd]at e;obtain⟨⟨⟨⟨u,N⟩,O⟩,P⟩,R⟩:=e;rw[R,if_neg (by simp)]
 have T:=looks_typeIn (M:=X4 prog w) X (beq_iff_eq.mp N);have Z:=looks_instIn (M:=X4 prog w) X (beq_iff_eq.mp O);have c:Looks (X4 prog w) m (isSubtype (.ref C) (.ref C')) false:=looks_subIn X (beq_iff_eq.mp P);have U:Looks (X4 prog w) m (isInstance (.ref a) (.ref C')) false:=z.andThen c;refine X2 (T.at ?_);rw[if_pos (by decide)]
 k_delta "plainIsInstance"
 unfold isType
 repeat lk
 unfold clsIn at u;split at u
 .rename_i W
  refine nd_load (X _ _ W) (nd_pure (Xa ?_));simp only[We,YA,if_false];refine X2 (U.at ?_);simp only[YA,if_false];refine X2 (L ?_);unfold clsIn at l;split at l
  .rename_i y
   refine X2 ?_;refine nd_load (X _ _ y) (nd_pure ?_);simp only[We,YA,if_false];refine X2 (Vd ?_);refine c.at ?_;exact Xa h
  .cases l
 .cases u
noncomputable def Ux(K:X1)(C:Addr):Bool:=findIn K (.ref C) "__getattribute__"==some (some (.builtin "BaseException.__getattribute__"))&&findIn K (.ref C) "__getattr__"==some none&&findIn K (.ref C) "__class__"==some (some (.builtin "object.__class__"))
theorem DM{h:Heap}{n:Str}{r:Option Value}(X:K.In h)(e:findIn K (.ref C) n=some r):Lk prog w h C n r:=λA Q E g d t os q=>(looks_findIn (M:=X4 prog w) X e).here (s:=⟨h,g,d,t,os⟩) q
theorem _hT{j:List Value}(X:K.In s.heap)(m:XCls K C j)(u:Ux K C=true)(c:j.contains (.type "BaseException")=true)(y:j.contains (.type "object")=true)(f:s.heap.get? a=some o)(p:o.cls=.ref C){A:Xn}{E:Value->X0->Prop}{Q:Option Value->X0->Prop}
  (q:Q (some (.ref C)) {s with toks:=s.toks+1}):X3 (X4 prog w) A (getAttr? (.ref a) "__class__") Q E s:=by
 obtain⟨h,g,d,t,os⟩:=s;obtain⟨R,T,N,bs,z,U,sub,W,e,Y,Z,B,D,F,G,l,n⟩:=m;unfold Ux at u;simp only[XM,beq_iff_eq]at u;obtain⟨⟨L,O⟩,P⟩:=u;exact _aF (X _ _ l) c y (DM X L) (DM X O) (DM X P) f p q
theorem _cR{j:List Value}{b:Bool}{Q:Value->X0->Prop}(X:K.In s.heap)(d:XCls K C j)(p:Ux K C=true)(L:j.contains (.type "BaseException")=true)(u:j.contains (.type "object")=true)(y:s.heap.get? a=some o)(m:o.cls=.ref C)
  (e:(if b then isIn K (.ref C) C' else Uw K C C')=true)(q:∀t,Q (.bool b) {s with toks:=t}):X3 (X4 prog w) A (call (.builtin "isinstance") [.ref a,.ref C']) Q E s:=by
 cases b with
 |true=>exact isi_call X (λM=>DL y m) e (by intro z;cases z) (q s.toks)
 |false=>
  have O:(clsIn K C).isSome=true:=by
   obtain⟨T,U,N,bs,c,W,sub,Y,P,Z,B,D,F,G,I,l,n⟩:=d;unfold clsIn;rw[l];rfl
  refine call_isinstance (S:=λ_ R f=>f=s/\R (.ok (.ret (.bool false))) {s with toks:=s.toks+1}) (λ_ _ _ _ f g=>?_) ⟨rfl,q _⟩;obtain⟨rfl,g⟩:=g;refine isinstance_outer (_aB X y m e (λq=>?_) O g) (by intro z;cases z)
  exact _hT X d p L u y m q
theorem _bP{u:List Value}{y:Int}{p:Tok}{Q:Fin->X0->Prop}(X:K.In s.heap)(e:XCls K C u)(L:u.contains (.type "ValueError")=true)(j:s.heap.get? a=some o)(m:o.cls=.ref C)(h:Q (.done (.ret (.bool true))) s):
  X3 (X4 prog w) A (Builtin.«isinstance.nested» ⟨[.ref a,.type "ValueError",.int y p],[]⟩) Q E s:=by
 have O:=DL (M:=X4 prog w) j m;obtain⟨c,g,d,T,os⟩:=s;obtain⟨U,W,N,bs,f,Y,sub,Z,P,B,D,F,G,I,J,l,n⟩:=e;have f1:typeOf (.type "ValueError")=pure (.type "type"):=by kernel_rfl
 have z:(XE C::u).contains (.type "ValueError")=true:=by rw[Vi,L];rfl
 unfold Builtin.«isinstance.nested»;refine X2 (O.at ?_);rw[if_neg (λq=>by cases beq_iff_eq.mp q),f1]
 refine X2 (Xa ?_);rw[if_pos (by decide)]
 k_delta "plainIsInstance"
 have R:c.get? C=some _:=X _ _ l;have j:c.get? a=some o:=j
 repeat (any_goals (first|assumption|(with_reducible refine ZX j ?_;rw[m])|(with_reducible refine W4 R ?_;rw[z])|wp_step))
theorem _dJ{l:List Value}{Q:Value->X0->Prop}(X:K.In s.heap)(y:XCls K C l)(m:l.contains (.type "ValueError")=true)(g:s.heap.get? a=some o)(d:o.cls=.ref C)(q:Q (.bool true) s):
  X3 (X4 prog w) A (call (.builtin "isinstance") [.ref a,.type "ValueError"]) Q E s:=by
 refine call_isinstance (S:=λ_ R u=>u=s/\R (.ok (.ret (.bool true))) s) (λ_ _ _ _ u j=>?_) ⟨rfl,q⟩;obtain⟨rfl,j⟩:=j;exact isinstance_outer (_bP X y m g d j) (by intro z;cases z)
end
end L2
namespace L2
open PySem PySem.Spec PyProof.Rows
section
variable{M:Model}{A:Xn}{E:Value->X0->Prop}{h:Heap}{g:Array GenState}{d:Drawn}{t:Nat}{os:OsState}{e:Addr}{oe:Obj}
 {nm q:Str} {C N:Addr} {bs bm:List Value} {hdct:Bool} {sn:List Str} {sub:List Value} {ab:Bool} {col:Option Bool} {dd:Option Addr} {k0 k1 k2 k3 k5:Option Value} {newId:String}
 {nm' q':Str} {F N':Addr} {bs' bm':List Value} {hdct':Bool} {sn':List Str} {sub':List Value} {ab':Bool} {col':Option Bool} {dd':Option Addr} {k0' k1' k2' k3' k5':Option Value} {newId':String}
theorem _aD{Q:Bool->X0->Prop}(w:h.get? C=some (UL nm q C N bs bm hdct sn sub ab col dd k0 k1 k2 k3 k5 newId))(u:h.get? F=some (UL nm' q' F N' bs' bm' hdct' sn' sub' ab' col' dd' k0' k1' k2' k3' k5' newId'))(y:h.get? e=some oe)(j:oe.cls=.ref C)
  (z:bm'.contains (.type "BaseException")=true)(m:(XE C::bm).contains (.ref F)=true)(c:Q true ⟨h,g,d,t,os⟩):X3 M A (excMatches (.ref e) (.ref F)) Q E ⟨h,g,d,t,os⟩:=by
 have l:(XE F::bm').contains (.type "BaseException")=true:=by rw[Vi,z,Vo]
 have f:=tc_notTuple;unfold excMatches
 repeat (first|(with_reducible refine ZX y ?_;rw[j])|with_reducible refine ZX u ?_|(with_reducible refine W4 u ?_;rw[l])|(with_reducible refine W4 w ?_;rw[m])|wp_step)
 exact c
end
noncomputable abbrev Cx.caught(X:Cx)(a:Addr)(oe:Obj):Cx:={X with A:=X.A.mark (some (.ref a)),calm:=false,pn:=(a,oe)::X.pn,xe:=λ_ _=>False}
section
variable{X:Cx}{pz:List (Addr×Obj)}{σ:St}{H:Hp}{s:X0}{a:Addr}{oe:Obj}
theorem Inv.caught(I:Inv X pz σ H s)(l:s.heap.get? a=some oe)(u:H a=none)(w:a≠X.env.locals)(y:a∉X.fs)(m:∀v,oe.data≠.cell v):Inv (X.caught a oe) pz σ H s:=
 ⟨⟨I.ok.mod,I.ok.kind,I.ok.glob,I.ok.blt,I.ok.above,I.ok.inj,I.ok.has,I.ok.cab,λz=>(by cases z),I.ok.frames,I.ok.stk,I.ok.exf,I.ok.bs,I.ok.bsz,I.ok.noex,I.ok.exfs,I.ok.funs,I.ok.frf⟩,I.os,I.bare,I.base,I.loc,I.cell,I.free,I.freeC,
  λp j=>by
   rcases Xm.mp (show p∈(a,oe)::(X.pn++pz)from j)with rfl|j
   .exact⟨l,u,w,y,m⟩
   .exact I.pin p j,I.hok,I.len⟩
theorem Inv.uncaught(ok:X.Ok)(I:Inv (X.caught a oe) pz σ H s):Inv X pz σ H s:=
 ⟨ok,I.os,I.bare,I.base,I.loc,I.cell,I.free,I.freeC,λp j=>I.pin p (XU _ j),I.hok,I.len⟩
theorem Inv.pinA(I:Inv (X.caught a oe) pz σ H s):s.heap.get? a=some oe:=(I.pin (a,oe) (XY ..)).1
end
theorem un1{j:List Env}{H O:Hp}{q h p B:Heap}(u:Un (frs j) [] H O q h)(w:B.StaysIn p)(y:h.UpToSlots p)(R:h.FunFrames B j)
  (z:∀b o,q.get? b=some o->b∉frs j->(H b=none->B.get? b=some o)/\∃d,B.get? b=some d):Un (frs j) [] H O q p:=by
 have m:∀b∈frs j,∃o,h.get? b=some o/\∀T,o.data≠.fields T:=λb l=>(R.mem l).2;refine⟨λb o e n l _=>w b o ((z b o e l).1 n),λb o e n l c=>?_,λb o e n c=>u.free b o e n c,λb o e c=>?_,u.tups,u.frzs,u.tbls⟩
 .obtain⟨Y,P⟩:=u.slot b o e n l c;obtain⟨U,f,L⟩:=m b l;rw[P]at f;cases f;obtain⟨g,N⟩:=y b _ P L;exact⟨g,N⟩
 .by_cases l:b∈frs j
  .obtain⟨U,f,L⟩:=m b l;obtain⟨g,N⟩:=y b _ f L;exact⟨_,N⟩
  .obtain⟨d,W⟩:=(z b o e l).2;exact⟨d,w b d W⟩
theorem hok1{P:Xh}{w:Xd}{j:Hp}{h g B:Heap}(l:HOk P w j h)(st:B.StaysIn h)(y:B.StaysIn g)(own:∀b u,j b=some u->∃o,B.get? b=some o):HOk P w j g:=λb u e=>by
 refine(l b u e).stay (λc v m r=>?_) (λ_ z=>z) λ_ _ z=>z;obtain⟨o,d⟩:∃o,B.get? c=some o:=by
  rcases m with rfl|m
  .exact own _ _ e
  .exact own _ _ m
 have:=st c o d;rw[r]at this;cases this;exact y c _ d
theorem Inv.gone{X:Cx}{U:List (Addr×Obj)}{N:St}{H:Hp}{s:X0}{O tk:Nat}{n:Str}{v:Option Value}{m:Str->Option Value}{h':Heap}(I:Inv X U N H s)(Y:X.N.Nodup)(P:X.N[O]?=some n)
  (Z:∀(i:Nat)(x:Str)(v:V),X.N[i]?=some x->N[i]?=some (some v)->Vis X.env.scope x->∃u,RelV v u/\Look X.env s.heap m x u)(A:s.heap.Ns X.env.locals m)
  (R:h'.Ns X.env.locals (λy=>if y=n then v else m y))(l:Ur X.env.locals s.heap h'):Inv X U (N.set O none) H {s with heap:=h',toks:=tk}:=by
 have cne:=I.cne;obtain⟨h,_,_,B,_⟩:=id A;have ne:∀b o,X.s₀.heap.get? b=some o->b≠X.env.locals:=λb o e=>XN (YH (Xq e) I.ok.above);refine⟨I.ok,I.os,I.bare,⟨λb o e n T f=>(l.2 b (ne b o e)).trans (I.base.keep b o e n T f),λb o e n T f=>?_,I.base.free,λb o e f=>?_,I.base.tups,I.base.frzs,I.base.tbls⟩,⟨_,R,λj y C w g D=>?_⟩,λy c e=>?_,I.free,I.freeC,λp E=>?_,λb F e=>?_,by simpa using I.len⟩
 .obtain⟨G,w⟩:=I.base.slot b o e n T f;exact⟨G,(l.2 b (ne b o e)).trans w⟩
 .obtain⟨J,w⟩:=I.base.there b o e f;exact⟨J,(l.2 b (ne b o e)).trans w⟩
 .by_cases hj:j=O
  .subst hj;rw[Zi]at g;rw[if_pos rfl]at g;split at g<;>cases g
  .rw[ZF (ZM hj)]at g;obtain⟨M,Q,q⟩:=Z j y C w g D;refine⟨M,Q,?_⟩;rcases q with⟨k,e⟩|⟨k,c,e,z⟩
   .refine .inl ⟨k,?_⟩;have:y≠n:=λe=>hj (CW Y w (e▸P));simp[this,e]
   .exact .inr ⟨k,c,e,z.sameBut l (cne y c e)⟩
 .obtain⟨W,z⟩:=I.cell y c e;exact⟨W,z.sameBut l (cne y c e)⟩
 .obtain⟨e,n,ne,S,d⟩:=I.pin p E;exact⟨(l.2 p.1 ne).trans e,n,ne,S,d⟩
 .refine(I.hok b F e).stay (λc W L q=>(l.2 c ?_).trans q) (λ_ q=>q) λ_ _ q=>q;rintro rfl;rcases L with rfl|L
  .rw[I.free]at e;cases e
  .rw[I.free]at L;cases L
section
variable{X:Cx}{pz:List (Addr×Obj)}{σ:St}{H1:Hp}{s1 s':X0}{e:Value}{R:Addr->Hp->Prop}{Fn n:Str}{F:Addr}{ni:Nat}{b₀:Stmt}{suite:List Stmt}{pos fp:Pos}{rest:List ExceptHandler}{Q:Flow->X0->Prop}
theorem _kw(I1:Inv X pz σ H1 s1)(hc:CX1 X.prog X.w X.stack H1 s1 (λc _ g=>∃C,c=.ref C/\R C g) e s')(y:X.stack=X.env::X.outer)(O:X.env.frame=some X.env.locals)
  (hF:XCls X.K F veMro)(hC:∀C g,R C g->XCls X.K C (.ref F::veMro))(hgF:Gl X Fn)(hmF:X.mg Fn=some (.ref F))(hdb:(Fn==("__debug__":Str))=false)
  (nd:X.N.Nodup)(A:X.N[ni]?=some n)(P:X.env.scope.names.lookup n=some .local)
  (k:∀a w C g s6,w.cls=.ref C->R C g->Inv (X.caught a w) pz (σ.set ni (some (.ref a))) g s6->
    X3 (X4 X.prog X.w) (X.A.mark (some (.ref a))) (execs (b₀::suite) X.env) (λf s7=>∃p L,Inv (X.caught a w) pz p L s7/\∀b,Inv X pz (p.set ni none) L b->Q f b) (λ_ _=>False) s6):
  X3 (X4 X.prog X.w) X.A (noteFrame e X.env) (λ_ D=>X3 (X4 X.prog X.w) X.A (setFlight e none) (λ_ E=>
   X3 (X4 X.prog X.w) X.A (handleBy e X.env (.ExceptHandler (some (.Name Fn fp)) (some n) (b₀::suite) pos::rest)) Q X.xe E) X.xe D) X.xe s':=by
 obtain⟨a,C,t,B,g,rfl,os,G,un,hok,fl,cov,I,C',ec,q⟩:=hc;cases ec;have J:=fl;rw[y]at J;have inv:∀(j:Heap)(U:Nat),Vn B X.stack a (.ref C) (.ref t) j->s'.heap.UpToSlots j->Inv X pz σ g {s' with heap:=j,toks:=U}:=λj U f5 M=>
  I1.call' (s':={s' with heap:=j,toks:=U}) os (un1 un f5.1 M fl.2.2.1 cov) (hok1 hok fl.1 f5.1 I) G (λ_ z=>nomatch z)
 have fresh:g a=none:=by
  cases z:g a with
  |none=>rfl
  |some u=>obtain⟨o,d⟩:=I a u z;rw[fl.2.1]at d;cases d
 have S:∀(j:Heap),Vn B X.stack a (.ref C) (.ref t) j->a∉frs X.stack:=λj f5 z=>by
  obtain⟨w,vs,T,oT,ts,he,_,W,_⟩:=f5.2.2.2;obtain⟨_,o,d,nf⟩:=f5.2.2.1.mem z;rw[he]at d;cases d;exact nf vs W
 have H:∀(j:Heap),Vn B X.stack a (.ref C) (.ref t) j->∃w,j.get? a=some w/\w.cls=.ref C/\∀v,w.data≠.cell v:=λj f5=>by
  obtain⟨w,vs,T,oT,ts,he,Y,W,_⟩:=f5.2.2.2;exact⟨w,he,Y.1,λv z=>by rw[W]at z;cases z⟩
 have s:∀(j:Heap)(U:Nat)w,Vn B X.stack a (.ref C) (.ref t) j->s'.heap.UpToSlots j->j.get? a=some w->(∀v,w.data≠.cell v)->Inv (X.caught a w) pz σ g {s' with heap:=j,toks:=U}:=λj U w f5 M d W=>by
  have na:=S j f5;rw[y]at na;refine(inv j U f5 M).caught d fresh (λz=>na ?_) (λz=>na ?_) W
  .unfold frs;rw[W5,O,z];exact XY ..
  .unfold frs;rw[W5,O];exact XU _ z
 have cC:=hC C g q;obtain⟨nm,qn,N,bs,hdct,sn,sub,ab,col,dd,k0,k1,k2,k3,k5,l,_⟩:=cC;obtain⟨nm',qn',N',bs',hdct',sn',sub',ab',col',dd',k0',k1',k2',k3',k5',l',_⟩:=hF;refine wpAny_looks_onW (by rw[I1.ok.frames,y]) O J λh4 hh4 u4=>?_
 refine wpAny_landsW hh4 λj f5 M=>?_;have i:=u4.trans M;rw[<-y]at f5;obtain⟨w,d,Y,W⟩:=H j f5;have I5:=s j s'.toks w f5 i d W;refine wpAny_handleBy_cons (codeAny_handlers_test ?_) (by intro q;cases q)
 refine Wl (X:=X.caught a w) I5 hgF hmF ?_ hdb;refine _aD (I5.kIn _ _ l) (I5.kIn _ _ l') d Y (by decide+kernel) (by simp) ?_
 refine codeAny_handlers_suite_as ?_;refine lands_againW f5 λh6 f6 u6=>?_;obtain⟨Z,ho6,x,hd6⟩:=H h6 f6;have I6:=s h6 s'.toks Z f6 (i.trans u6) ho6 hd6;refine Bk (X:=X.caught a Z) (v:=.ref a) (u:=.ref a) I6 nd A (.inl P) rfl (λs7 I7=>?_) (.inr P);refine Yg (k a Z C g s7 x q I7) (λf b ⟨p,L,I8,hQ⟩=>?_) λ_ _ z=>XS z;have I9:Inv X pz p L b:=I8.uncaught I1.ok;obtain⟨m,hm,hl⟩:=id I9.loc;have h:(X.env.scope.kind==.class||(X.env.scope.kind==.module&&X.env.locals != X.env.globals))=false:=by rw[I9.ok.kind];rfl
 refine wpAny_nameGoes_keeps P hm h λh9 v hn9 hs9=>hQ _ ?_;exact I9.gone nd A hl hm hn9 hs9
end
end L2
namespace L2
set_option genInjectivity false
open PySem PySem.Spec PyProof.Rows
section
variable{X:Cx}{xe':Value->X0->Prop}{pz:List (Addr×Obj)}{σ:St}{H:Hp}{s:X0}{k:Nat}{fa:Addr}{fd:Xi}{ps:List Str}{sp:Sp}{x:Str}{p pos:Pos}{e:Expr}{es:List Expr}{t:TA}{Q:VK}{E:XK}
theorem _hV(I:Inv X pz σ H s)(F:FnOk X.prog X.w X.K X.mg X.base (CX1 X.prog X.w) k fa fd ps sp)(N:Room k X.A)(O:Gl X x)(P:X.mg x=some (.ref fa))(R:YV X.K (.ref fa)=true)(T:Binds X.K fd ps [])(U:PA X.nox (e::es) t)
  (c:(x==("__debug__":Str))=false)(W:Xs (e::es) X.env=(false,eval e X.env)::Xs es X.env)(f:(Yl pos (Xs es X.env)).any (·.1)=false)(h:t σ H fun L j=>sp L j Q E)
  (Y:∀j l e g,Inv X pz σ j l->CX1 X.prog X.w X.stack j l E e g->xe' e g):X3 (X4 X.prog X.w) X.A (eval (.Call (.Name x p) (e::es) [] pos) X.env) (EP X pz σ Q) xe' s:=by
 refine Uk (Wl I O P ?_ c);refine PySem.W.callWith_K (h₀:=X.base) I.ok.mod.kin R (Yg (U pos pz s σ H _ (I.wish _) h) (λd l w=>?_) λ_ _ z=>XS z) W f;obtain⟨L,j,y,r,q⟩:=w;have y:Inv X pz σ j l:=y.unwish;have Z:(d++[]).length=ps.length:=by rw[U4,<-r.length];exact F.len _ _ _ _ q
 have m:=T l d y.kIn Z;rw[U4]at m;refine⟨y.kIn,wpAny_call (Vb (F.run X.A X.stack l j ⟨d,[]⟩ d L Q E N y.env0 m r q) λr g w=>?_)⟩;cases r with
 |error e=>exact Y j l e g y w
 |ok A=>
  cases A with
  |ret u=>exact y.after w
  |next=>exact XS w
  |brk=>exact XS w
  |cont=>exact XS w
end
theorem DN{F:Addr}{T:Value}(h:veMro.contains T=true):(XE F::veMro).contains T=true:=by rw[Vi,h,Vo]
section
variable{X:Cx}{a C F:Addr}{oe:Obj}
theorem Jo(l:oe.cls=.ref C)(u:XCls X.K C (.ref F::veMro))(m:Ux X.K C=true):YI (X.caught a oe) (.builtin "isinstance") (fun w H Q=>
  (∃j b,w=[.ref a,.ref j]/\(if b then Wc X.K (.ref C) j else Uw X.K C j)=true/\Q (.bl b) H)\/(w=[.ref a,.ty "ValueError"]/\Q (.bl true) H)):=by
 intro g s d H c y Q I r h;have z:=I.pinA;rcases h with⟨j,b,rfl,e,q⟩|⟨rfl,q⟩
 .match y,r with
  |[u1,u2],.cons h1 (.cons h2 .nil)=>
   cases h1;cases h2;refine _cR (K:=X.K) (s:=s) I.kIn u m (DN (by decide+kernel)) (DN (by decide+kernel)) z l e λt=>?_
   exact⟨.bl b,H,I.tok t,rfl,q⟩
 .match y,r with
  |[u1,u2],.cons h1 (.cons h2 .nil)=>
   cases h1;cases h2;exact _dJ (K:=X.K) (s:=s) I.kIn u (DN (by decide+kernel)) z l ⟨.bl true,H,I,rfl,q⟩
end
def DO(G:GI)(j:Scope)(n:Str):List Str->List Expr->Bool
 |[],l=>non0 l
 |c::cs,l=>(hd1 l).any λq=>(Zm q.1).any λr=>(Yp r.1).any λf=>(the2 r.2.1).any λy=>(Yp y.1).any λv=>(Yp y.2).any λw=>
   non0 r.2.2.1&&decide (f=("isinstance":Str))&&glB j f&&G.bl.contains f&&decide (v=n)&&decide (w=c)&&glB j c&&DO G j n cs q.2
section
variable{X:Cx}{a C F:Addr}{oe:Obj}{G:GI}{ni:Nat}{n:Str}{b:Str->Bool}
theorem _nU(e:oe.cls=.ref C)(R:XCls X.K C (.ref F::veMro))(T:Ux X.K C=true)(bls:∀x,G.bl.contains x=true->X.mg x=none)(L:X.N[ni]?=some n)(N:X.env.scope.names.lookup n=some .local)(hd1:(n==("__debug__":Str))=false)(hd2:(n==("__classdict__":Str))=false):
  ∀(d:List Str)(j:List Expr),DO G X.env.scope n d j=true->(∀y∈d,(y="ValueError"/\X.mg y=none/\b y=true)\/∃q,X.mg y=some (.ref q)/\(if b y then Wc X.K (.ref C) q else Uw X.K C q)=true)->
  PA (X.caught a oe) j (λz H Q=>z[ni]?=some (some (.ref a))/\Q (d.map λy=>V.bl (b y)) H)/\(Xs j X.env).all (λx=>!x.1)=true:=by
 intro d
 induction d with
 |nil=>
  intro j h _;obtain rfl:=Yq h;exact⟨pa_nil.weak λz H Q u=>u.2,rfl⟩
 |cons y d J=>
  intro j h U;replace h:=X9 h;obtain⟨⟨x,W⟩,M,h⟩:=h;obtain rfl:=_o M;replace h:=X9 h;obtain⟨⟨f,l,ks,S⟩,o,h⟩:=h;obtain rfl:=_Q o;replace h:=X9 h;obtain⟨f,i,h⟩:=h;obtain⟨pf,rfl⟩:=Yt i;replace h:=X9 h;obtain⟨⟨y1,y2⟩,h4,h⟩:=h;obtain rfl:=Bz h4;replace h:=X9 h;obtain⟨v,h5,h⟩:=h;obtain⟨p,rfl⟩:=Yt h5;replace h:=X9 h;obtain⟨w,h6,h⟩:=h;obtain⟨g,rfl⟩:=Yt h6;simp only[XM]at h;obtain⟨⟨⟨⟨⟨⟨⟨a1,a2⟩,a3⟩,Y⟩,a5⟩,a6⟩,a7⟩,a8⟩:=h;obtain rfl:=Yq a1;obtain rfl:=Xr a2;obtain rfl:=Xr a5;obtain rfl:=Xr a6;obtain⟨Z,A,B⟩:=YT a3;obtain⟨D,E,e3⟩:=YT a7;obtain⟨ih,is⟩:=J W a8 λc e=>U c (XU _ e);refine⟨?_,by show(!false&&(Xs W X.env).all _)=true;rw[is];rfl⟩
  have pv:PE (X.caught a oe) (.Name v p) (tVar ni):=Bl L (.inl N) hd1 hd2;have hd:PE (X.caught a oe) (.Call (.Name ("isinstance":Str) pf) [.Name v p,.Name w g] [] S) (fun z H Q=>z[ni]?=some (some (.ref a))/\Q (.bl (b w)) H):=by
   rcases U w (XY ..)with⟨rfl,m,O⟩|⟨q,m,O⟩
   .have P:PE (X.caught a oe) (.Name ("ValueError":Str) g) (tC (.ty "ValueError")):=fun pz s z H Q I h=>_N (X:=X.caught a oe) I D m (by decide+kernel:Yu ("ValueError":Str)=some (.type "ValueError")) ⟨.ty "ValueError",H,I,rfl,h⟩ e3 E
    refine(D3 (Jo e R T) Z (bls _ Y) Hw (YR pv (YR P pa_nil)) B A).weak λz H Q u=>?_;exact⟨.ref a,u.1,.inr ⟨rfl,O▸u.2⟩⟩
   .have P:PE (X.caught a oe) (.Name w g) (tC (.ref q)):=GD (X:=X.caught a oe) D m rfl E;refine(D3 (Jo e R T) Z (bls _ Y) Hw (YR pv (YR P pa_nil)) B A).weak λz H Q u=>?_;exact⟨.ref a,u.1,.inl ⟨q,b w,rfl,O,u.2⟩⟩
  refine(YR hd ih).weak λz H Q u=>?_;exact⟨u.1,u.1,u.2⟩
end
end L2
namespace L2
set_option genInjectivity false
open PySem PySem.Spec PyProof.Rows
inductive SE where
 |tt
 |isi (c:Str)
 |is2 (c d:Str)
 |nt (e:SE)
 |an (a b:SE)
noncomputable def xsub(c j:Str):Bool:=decide (j="ValueError")||decide (j=c)
def SE.val(k:Str):SE->Bool
 |.tt=>true
 |.isi c=>xsub k c
 |.is2 c d=>xsub k c||xsub k d
 |.nt e=>!e.val k
 |.an a b=>a.val k&&b.val k
def Grow(K:X1)(H j:Hp):Prop:=Kp H j/\∀M,RH K M H->RH K M j
section
variable{X:Cx}{a C F:Addr}{oe:Obj}{G:GI}{ni:Nat}{n c:Str}{xc:List Str}
structure Sub (X:Cx)(C:Addr)(c:Str)(xc:List Str):Prop where
 ve:X.mg "ValueError"=none
 own:∀c',xc.contains c'=true->c'≠"ValueError"/\∃C',X.mg c'=some (.ref C')/\U6 X.K (.ref C) (.ref C')=some (xsub c c')
 tve:U6 X.K (.ref C) (.type "ValueError")=some true
end
end L2
namespace L2
set_option genInjectivity false
open PySem PySem.Spec PyProof.Rows
structure TryD where
 i:Option Nat
 j:Nat
 e:IE
 es:IEs
 ni:Nat
 k:Nat
 cs:List Str
noncomputable def DP:Stmt->Option (Stmt×Str×Str×Stmt)
 |.Try [b] [.ExceptHandler (some (.Name F _)) (some n) [s] _] [] [] _=>some (b,F,n,s)
 |_=>none
theorem _hX{st:Stmt}{q:Stmt×Str×Str×Stmt}(h:DP st=some q):∃l u j,st=.Try [q.1] [.ExceptHandler (some (.Name q.2.1 l)) (some q.2.2.1) [q.2.2.2] u] [] [] j:=by
 unfold DP at h;split at h
 .cases h;exact⟨_,_,_,rfl⟩
 .cases h
structure TryB where
 i:Option Nat
 j:Nat
 e:IE
 es:IEs
 hc:Option Str
 ni:Option Nat
 k:Nat
 su:SE
noncomputable def stO(i:Option Nat)(x:MV)(j:Sm):Sm:=match i with
 |none=>j
 |some i=>j.set i (some x)
section
variable(Φ:List (Str×SpM))(Ψ:List (Str×SpX))(xc:List Str)
def wTry(D:TryD)(E:EndM)(j:Sm)(M:MH):Prop:=wE Φ D.e j M λv M1=>wEs Φ D.es j M1 λw M2=>∃f u,Ψ[D.j]?=some (f,u)/\
 u (v::w) M2 (λx l=>E.nx (stO D.i x j) l) λc l=>xc.contains c=true/\∀p,l p=none->E.nx ((j.set D.k (some (.ref p))).set D.ni none) (updM l p (.lst (D.cs.map λy=>.bl (xsub c y))))
inductive IT where|pl (s:IS)|tr (D:TryD)|tb (D:TryB)
def wT:IT->EndM->Sm->MH->Prop
 |.pl s=>wS Φ s
 |.tr D=>wTry Φ Ψ xc D
 |.tb _=>λ_ _ _=>False
noncomputable def wTs:List IT->EndM->Sm->MH->Prop
 |[],D,j,M=>D.nx j M
 |s::r,D,j,M=>wT Φ Ψ xc s {nx:=λj M=>wTs r D j M,rt:=D.rt,bk:=D.bk,ct:=D.ct} j M
end
section
variable{Φ:List (Str×SpM)}{Ψ:List (Str×SpX)}{xc:List Str}
theorem Jp(w:∀(j:Nat)f u,Φ[j]?=some (f,u)->MonW u)(m:∀(j:Nat)f u,Ψ[j]?=some (f,u)->MonX u)(s:IT){D g:EndM} {q:Sm} {M:MH} (l:D.Le g)(h:wT Φ Ψ xc s D q M):wT Φ Ψ xc s g q M:=by
 cases s with
 |pl s=>exact BC w s l h
 |tr d=>exact X7 w d.e (λv M1 L=>mon_es w d.es (λP M2 ⟨f,u,e,N⟩=>⟨f,u,e,m _ f u e (λ_ _ z=>l.nx _ _ z) (λc R ⟨z,y⟩=>⟨z,λp O=>l.nx _ _ (y p O)⟩) N⟩) L) h
 |tb d=>exact h.elim
theorem DQ(u:∀(j:Nat)f w,Φ[j]?=some (f,w)->MonW w)(y:∀(j:Nat)f w,Ψ[j]?=some (f,w)->MonX w):∀(s:List IT){D m:EndM} {z:Sm} {M:MH},D.Le m->wTs Φ Ψ xc s D z M->wTs Φ Ψ xc s m z M
 |[],D,m,z,M,l,h=>by exact l.nx _ _ h
 |s::r,D,m,z,M,l,h=>by
  refine Jp u y s ?_ h;exact⟨λz M g=>DQ u y r l g,l.rt,l.bk,l.ct⟩
end
def Jq(G:GX)(l:Scope)(N:List Str)(i:Option Nat)(j:Nat)(e:IE)(u:IEs)(b:Stmt):Bool:=match i with
 |none=>(asEx b).any λv=>chkC G l N j e u v
 |some i=>(VM b).any λq=>(the1 q.1).any λt=>(Yp t).any λx=>decide (N[i]?=some x)&&locB l x&&chkC G l N j e u q.2
def Jr(G:GX)(j:Scope)(N:List Str)(D:TryD)(n:Str)(s:Stmt):Bool:=
 (VM s).any λq=>(the1 q.1).any λt=>(Yp t).any λx=>(WB q.2).any λl=>decide (N[D.k]?=some x)&&locB j x&&DO G.g j n D.cs l
def Jt(G:GX)(l:Str)(j:Scope)(N:List Str)(D:TryD)(st:Stmt):Bool:=(DP st).any λq=>
 decide (q.2.1=l)&&glB j l&&decide (N[D.ni]?=some q.2.2.1)&&decide (j.names.lookup q.2.2.1=some .local)&& !(q.2.2.1==("__debug__":Str))&& !(q.2.2.1==("__classdict__":Str))&& !(D.k==D.ni)&&decide (D.cs.length<=100)&&
 D.cs.all (fun c=>decide (c="ValueError")||G.xc.contains c)&&Jq G j N D.i D.j D.e D.es q.1&&Jr G j N D q.2.2.1 q.2.2.2
def chkT(G:GX)(l:Str)(j:Scope)(N:List Str):IT->Stmt->Bool
 |.pl s,st=>chkS G.g j N s st
 |.tr D,st=>Jt G l j N D st
 |.tb _,_=>false
def BG(G:GX)(j:Str)(u:Scope)(N:List Str):List IT->List Stmt->Bool
 |[],l=>non0 l
 |s::r,l=>(hd1 l).any λq=>chkT G j u N s q.1&&BG G j u N r q.2
structure Exs (K:X1)(mg:Str->Option Value)(xb:Str)(xc:List Str):Prop where
 ve:mg "ValueError"=none
 bas:∃F,mg xb=some (.ref F)/\XCls K F veMro/\∀c,xc.contains c=true->∃C,mg c=some (.ref C)/\XA K Xl c=some (some (.ref C))/\XCls K C (.ref F::veMro)/\Ux K C=true/\
  ∀c',xc.contains c'=true->∃C',mg c'=some (.ref C')/\(if decide (c'=c)then Wc K (.ref C) C' else Uw K C C')=true
structure Tok (X:Cx)(G:GX)(xb:Str)(Φ:List (Str×SpM))(Ψ:List (Str×SpX)):Prop where
 c:Cok X.nox G.g Φ
 stk:X.stack=X.env::X.outer
 frm:X.env.frame=some X.env.locals
 exs:Exs X.K X.mg xb G.xc
 vx:G.xc.contains "ValueError"=false
 mon:∀(j:Nat)f sp,Ψ[j]?=some (f,sp)->MonX sp
 fnn:∀(j:Nat)f,G.xf[j]?=some f->∃sp,Ψ[j]?=some (f,sp)
 fns:∀(j:Nat)f sp,G.xf[j]?=some f->Ψ[j]?=some (f,sp)->∃k fa fd ps,Room k X.A/\FnOk X.prog X.w X.K X.mg X.base (CX1 X.prog X.w) k fa fd ps (Yw X.K sp)/\X.mg f=some (.ref fa)/\YV X.K (.ref fa)=true/\Binds X.K fd ps []
set_option tactic.hygienic true in
theorem RS.gone{K:X1}{H:Hp}{l:Sm}{z:St}(h:RS K H l z){m:MV}{v:V}(r:RM K H m v)(k u:Nat)(w:Option V):RS K H ((l.set k (some m)).set u none) (((z.set u w).set k (some v)).set u none):=by
 refine⟨by simp[h.1],λj x e=>?_⟩
 by_cases hj:u=j
 .subst hj;rw[Zi,if_pos rfl]at e;split at e<;>cases e
 .rw[ZF hj]at e ⊢;by_cases hk:k=j
  .subst hk;rw[Zi,if_pos rfl]at e;split at e
   .rename_i y
    cases e;refine⟨v,?_,r⟩;rw[Zi,if_pos rfl,if_pos (by simpa [<-h.1]using y)]
   .cases e
  .rw[ZF hk]at e ⊢;rw[ZF hj];exact h.2 j x e
section
variable{X:Cx}{G:GX}{xb:Str}{Φ:List (Str×SpM)}{Ψ:List (Str×SpX)}
def Cau(X:Cx)(u:List Str)(H:Hp)(R:Str->MH->Prop)(C:Addr)(j:Hp):Prop:=∃c l,u.contains c=true/\XA X.K Xl c=some (some (.ref C))/\Kp H j/\RH X.K l j/\R c l
theorem Ju(x:Tok X G xb Φ Ψ){j:Nat}{a:IE}{w:IEs}{v:Expr}(h:chkC G X.env.scope X.N j a w v=true){L:List (Addr×Obj)}{s:X0}{d:St}{l:Sm}{H:Hp}{M:MH}{Q:VK}{R:Str->MH->Prop}{z:Value->X0->Prop}(I:Inv X L d H s)(A:RS X.K H l d)(n:RH X.K M H)
  (hw:wE Φ a l M λv M1=>wEs Φ w l M1 λN M2=>∃f g,Ψ[j]?=some (f,g)/\g (v::N) M2 (Dn X.K H Q) λc b=>G.xc.contains c=true/\R c b)
  (hx:∀O B e D,Inv X L d O B->CX1 X.prog X.w X.stack O B (λc _ q=>∃C,c=.ref C/\Cau X G.xc H R C q) e D->z e D):
  X3 (X4 X.prog X.w) X.A (eval v X.env) (EP X L d Q) z s/\V6 v=true:=by
 obtain⟨f,p,y,ys,p2,rfl,J,h2,P,S⟩:=Jn h;obtain⟨g1,g2,g3⟩:=YT h2;obtain⟨g,T⟩:=x.fnn j f J;obtain⟨k,fa,fd,ps,hr,F,hm,hk,hb⟩:=x.fns j f g J T;have c:=x.c;have ha:PA X.nox (y::ys) (Ua (liE X.K (wE Φ a)) (liA X.K (wEs Φ w))):=YR (X:=X.nox) (sE a c P).pe (sA w c S) (Y8 P);refine⟨_hV (E:=λc _ q=>∃C,c=.ref C/\Cau X G.xc H R C q) I F hr g1 hm hk hb ha g2 (Y8 P) (V5 (Uv (l:=p2) S)).2 ?_ hx,rfl⟩;refine⟨l,M,A,n,X7 c.mon a (λv M1 q1=>?_) hw⟩;intro u O U r1 W;refine⟨l,M1,A.mono U,W,mon_es c.mon w (λN M2 ⟨f',sp',e,q2⟩=>?_) q1⟩;rw[T]at e;cases e;intro us H2 Y r2 Z;refine⟨v::N,M2,.cons (r1.mono Y) r2,Z,x.mon j f g T (λm o hq=>hq.on (U.trans Y)) (λc' o i C q e' kk rr=>?_) q2⟩;exact⟨C,rfl,c',o,i.1,e',U.trans (Y.trans kk),rr,i.2⟩
theorem _f8(x:Tok X G xb Φ Ψ){D:TryD}{F C a:Addr}{c n:Str}{d:Obj}{st:Stmt}{e:List (Addr×Obj)}{O:St}{g:Hp}{P:X0}{Q:Flow->X0->Prop}(A:d.cls=.ref C)(B:XCls X.K C (.ref F::veMro))(E:Ux X.K C=true)
  (J:∀m∈D.cs,(m="ValueError"/\X.mg m=none/\xsub c m=true)\/∃R,X.mg m=some (.ref R)/\(if xsub c m then Wc X.K (.ref C) R else Uw X.K C R)=true)
  (T:X.N[D.ni]?=some n)(U:X.env.scope.names.lookup n=some .local)(M:(n==("__debug__":Str))=false)(S:(n==("__classdict__":Str))=false)(hk:D.k≠D.ni)(H:D.cs.length<=100)(h:Jr G X.env.scope X.N D n st=true)(W:∀y,X.fn y=true)
  (Y:D.ni<O.length)(I:Inv (X.caught a d) e (O.set D.ni (some (.ref a))) g P)
  (o:∀p,g p=none->∀L,Inv X e (((O.set D.ni (some (.ref a))).set D.k (some (.ref p))).set D.ni none) (upd g p (.lst (D.cs.map λm=>V.bl (xsub c m)))) L->Q .next L):
  X3 (X4 X.prog X.w) (X.A.mark (some (.ref a))) (execs [st] X.env) (λf Z=>∃j w,Inv (X.caught a d) e j w Z/\∀L,Inv X e (j.set D.ni none) w L->Q f L) (λ_ _=>False) P:=by
 replace h:=X9 h;obtain⟨⟨ts,v⟩,s,h⟩:=h;obtain⟨p,rfl⟩:=WG s;replace h:=X9 h;obtain⟨t,i,h⟩:=h;obtain rfl:=_n i;replace h:=X9 h;obtain⟨y,h3,h⟩:=h;obtain⟨px,rfl⟩:=Yt h3;replace h:=X9 h;obtain⟨l,h4,h⟩:=h;obtain⟨pl,rfl⟩:=Dv h4;simp only[XM]at h;obtain⟨⟨a1,a2⟩,a3⟩:=h;obtain⟨N,_⟩:=_nU (X:=X) (a:=a) (oe:=d) (b:=xsub c) A B E x.c.bls T U M S D.cs l a3 J;have ps:=Bn (X:=X.caught a d) (pos:=p) (j:=px) x.c.nd (Xr a1) (V3 a2) (GU (pos:=pl) N) rfl (.inl (W _));have:=QB ps e P _ g {nx:=λj w=>∃p,g p=none/\j=(O.set D.ni (some (.ref a))).set D.k (some (.ref p))/\w=upd g p (.lst (D.cs.map λm=>V.bl (xsub c m))),rt:=λ_ _=>False} I ⟨by rw[Zi,if_pos rfl,if_pos Y],by rw[X5];exact Y7 H (by decide),λp N=>⟨p,N,rfl,rfl⟩⟩
 refine Yg this (λf Z q=>?_) λ_ _ z=>z;cases f with
 |next=>
  obtain⟨j,w,I',p,N,rfl,rfl⟩:=q;exact⟨_,_,I',o p N⟩
 |ret u=>obtain⟨_,_,_,_,_,z⟩:=q;exact z.elim
 |brk=>obtain⟨_,_,_,z⟩:=q;exact z.elim
 |cont=>obtain⟨_,_,_,z⟩:=q;exact z.elim
end
end L2
namespace L2
set_option genInjectivity false
open PySem PySem.Spec PyProof.Rows
theorem RMs.bls{K:X1}{H:Hp}(b:Str->Bool):∀j:List Str,RMs K H (j.map λc=>.bl (b c)) (j.map λc=>.bl (b c))
 |[]=>.nil
 |_::j=>.cons (.bl _) (RMs.bls b j)
section
variable{X:Cx}{G:GX}{xb:Str}{Φ:List (Str×SpM)}{Ψ:List (Str×SpX)}
theorem sTry(x:Tok X G xb Φ Ψ)(hf:∀y,X.fn y=true)(D:TryD){st:Stmt}(h:Jt G xb X.env.scope X.N D st=true):PS X st (liSt X.K (wTry Φ Ψ G.xc D)):=by
 replace h:=X9 h;obtain⟨⟨b,Fn,n,su⟩,O,h⟩:=h;obtain⟨fp,S,pos,rfl⟩:=_hX O;simp only[XM,Wd]at h;obtain⟨⟨⟨⟨⟨⟨⟨⟨⟨⟨a1,a2⟩,a3⟩,a4⟩,a5⟩,a6⟩,a7⟩,a8⟩,a9⟩,j⟩,b2⟩:=h;have w:Fn=xb:=Xr a1;subst w;obtain⟨g1,g2,g3⟩:=YT a2;obtain⟨F,mF,cF,cs⟩:=x.exs.bas;intro pz s o H E I g;obtain⟨σm,M,P,rh,g⟩:=g;have hx:∀l R e s',Inv X pz o l R->CX1 X.prog X.w X.stack l R (λc _ H'=>∃C,c=.ref C/\Cau X G.xc H (λc M3=>∀p,M3 p=none->(liD X.K H E).nx ((σm.set D.k (some (.ref p))).set D.ni none) (updM M3 p (.lst (D.cs.map λd=>.bl (xsub c d))))) C H') e s'->
   X3 (X4 X.prog X.w) X.A (noteFrame e X.env) (λ_ T=>X3 (X4 X.prog X.w) X.A (setFlight e none) (λ_ U=>X3 (X4 X.prog X.w) X.A (handleBy e X.env [.ExceptHandler (some (.Name Fn fp)) (some n) [su] S]) (SP X pz E) X.xe U) X.xe T) X.xe s':=by
  intro l R e s' N W;refine _kw N W x.stk x.frm cF (λC H' ⟨c,M3,W,hn,_⟩=>?_) g1 mF g2 x.c.nd (Xr a3) (Xr a4) ?_
  .obtain⟨C',m',Y,xc,_⟩:=cs c W;rw[hn]at Y;cases Y;exact xc
  rintro a oe C H' s6 Z ⟨c,M3,W,hn,kk,rr,hR⟩ I6;obtain⟨C',m',Y,xC,xA,sub⟩:=cs c W;rw[hn]at Y;cases Y;refine _f8 x Z xC xA (c:=c) (λd hc'=>?_) (Xr a3) (Xr a4) a5 a6 (by simpa using a7) (Xr a8) b2 hf ?_ I6 λp S s8 I8=>?_
  .have:=Uo.mp a9 d hc';rw[Bool.or_eq_true]at this;by_cases ev:d="ValueError"
   .subst ev;exact .inl ⟨rfl,x.exs.ve,rfl⟩
   .rcases this with z|z
    .exact absurd (Xr z) ev
    .obtain⟨C',m'',q⟩:=sub d z;refine .inr ⟨C',m'',?_⟩;unfold xsub;rw[decide_eq_false ev,Bool.false_or];exact q
  .have:=(Xz.mp (Xr a3)).1;rw[N.len];exact this
  .have k2:=Kp.new S (.lst (D.cs.map λd=>V.bl (xsub c d)));exact⟨_,_,I8,hR p (rr.free S) _ _ (kk.trans k2) (RS.gone (P.mono (kk.trans k2)) (.ref p) _ _ _) (rr.put k2 (RMs.bls _ _))⟩
 refine wpAny_Try_except (wpAny_execs_cons ?_);unfold Jq at j;unfold wTry stO at g;cases ei:D.i with
 |none=>
  rw[ei]at j g;replace j:=X9 j;obtain⟨v,O,j⟩:=j;obtain⟨p,rfl⟩:=DG O;obtain⟨w1,w2⟩:=Ju (Q:=λ_ l=>E.nx o l) x j I P rh (X7 x.c.mon _ (λv M1 q1=>mon_es x.c.mon _ (λvs M2 ⟨f,A,w,q2⟩=>⟨f,A,w,x.mon _ f A w (λm M' z u l B J L=>z _ _ B (P.mono B) L) (λ_ _ z=>z) q2⟩) q1) g) hx;refine wpAny_Expr_any (Yg w1 (λu R ⟨v,l,N,J,q⟩=>?_) λ_ _ z=>z) I.quiet (DI w2);exact UH (UH ⟨o,l,N,q⟩)
 |some i=>
  rw[ei]at j g;replace j:=X9 j;obtain⟨⟨ts,v⟩,O,j⟩:=j;obtain⟨p,rfl⟩:=WG O;replace j:=X9 j;obtain⟨t,h2,j⟩:=j;obtain rfl:=_n h2;replace j:=X9 j;obtain⟨y,h3,j⟩:=j;obtain⟨px,rfl⟩:=Yt h3;simp only[XM]at j;obtain⟨⟨c1,c2⟩,c3⟩:=j;obtain⟨w1,w2⟩:=Ju (Q:=λv l=>E.nx (o.set i (some v)) l) x c3 I P rh (X7 x.c.mon _ (λv M1 q1=>mon_es x.c.mon _ (λvs M2 ⟨f,A,w,q2⟩=>⟨f,A,w,x.mon _ f A w (λm M' z u l B J L=>z _ _ B ((P.mono B).set J i) L) (λ_ _ z=>z) q2⟩) q1) g) hx;refine wpAny_Assign_Name (Yg w1 (λu R ⟨v,l,N,J,q⟩=>?_) λ_ _ z=>z) (DH w2);exact Bk N x.c.nd (Xr c1) (V3 c2) J (λs2 I2=>UH (UH ⟨_,l,I2,q⟩)) (.inl (hf _))
theorem sT(x:Tok X G xb Φ Ψ)(l:∀y,X.fn y=true)(j:IT){st:Stmt}(h:chkT G xb X.env.scope X.N j st=true):PS X st (liSt X.K (wT Φ Ψ G.xc j)):=by
 cases j with
 |pl s=>exact PS.nox (sS s x.c l h)
 |tr d=>exact sTry x l d h
 |tb d=>exact absurd h Xu
theorem sTs(x:Tok X G xb Φ Ψ)(q:∀y,X.fn y=true):∀(p:List IT){j:List Stmt},BG G xb X.env.scope X.N p j=true->PSs X j (liSt X.K (wTs Φ Ψ G.xc p))
 |[],j,h=>by
  obtain rfl:=Yq h;refine pss_nil.weak λD e H l=>?_;obtain⟨w,M,g,d,l⟩:=l;exact l e H (Kp.refl _) g d
 |s::r,j,h=>by
  replace h:=X9 h;obtain⟨⟨y,P⟩,L,h⟩:=h;obtain rfl:=_o L;rw[XM]at h;refine(CY (sT x q s h.1) (sTs x q r h.2)).weak λD e H l=>?_;obtain⟨w,M,g,d,l⟩:=l;refine⟨w,M,g,d,?_⟩;refine Jp x.c.mon x.mon s ?_ l;refine⟨λu m z N R O c f=>?_,λv m z=>z,λu m z=>z,λu m z=>z⟩;exact⟨u,m,c,f,DQ x.c.mon x.mon r (liD.on O) z⟩
end
end L2
namespace L2
set_option genInjectivity false
open PySem PySem.Spec PyProof.Rows
def clsB(K:X1)(C:Addr)(j:List Value):Bool:=match K.lookup C with
 |some ⟨.type "type",_,.cls cd,sl⟩=>(match cd.mro,sl.toList with
  |.ref C'::bm',[_,_,_,_,some (.builtin n),_]=>C'==C&&n=="ValueError.__new__"&& !cd.hasDel&&decide (bm'=j)&&nsOk K cd.ns
  |_,_=>false)
 |_=>false
set_option tactic.hygienic true in
theorem Jv{K:X1}{C:Addr}{y:List Value}(q:clsB K C y=true):XCls K C y:=by
 unfold clsB at q;split at q
 .rename_i U d z c
  split at q
  .rename_i W f p e L N n O m g
   simp only[XM,beq_iff_eq,Wd,decide_eq_true_eq]at q;obtain⟨⟨⟨⟨rfl,rfl⟩,j⟩,rfl⟩,u⟩:=q;obtain⟨Y,bs,P,Z,A,B,D,sub,E,R,T⟩:=d;dsimp only at m j u;subst m j;have w:z=#[p,e,L,N,some (.builtin "ValueError.__new__"),O]:=by
    obtain⟨l⟩:=z;simp only at g;rw[g]
   subst w;exact⟨_,_,_,_,_,_,_,_,_,_,_,_,_,_,_,c,u⟩
  .cases q
 .cases q
noncomputable def WH(K:X1)(c:Str):Option Addr:=match XA K Xl c with
 |some (some (.ref C))=>some C
 |_=>none
theorem BH{K:X1}{c:Str}{C:Addr}(h:WH K c=some C):XA K Xl c=some (some (.ref C)):=by
 unfold WH at h;split at h
 .cases h;assumption
 .cases h
def exsB(K:X1)(w:Str)(j:List Str):Bool:=(WH K w).any λF=>clsB K F veMro&&j.all λc=>(WH K c).any λC=>clsB K C (.ref F::veMro)&&Ux K C&&j.all λl=>(WH K l).any λu=>if decide (l=c)then Wc K (.ref C) u else Uw K C u
theorem _mt{K:X1}{h:Heap}{u:Str->Option Value}{w:Str}{y:List Str}(e:exsB K w y=true)(v:XA K Xl "ValueError"=some none)(X:K.In h)(G:h.Ns Xl u):Exs K u w y:=by
 unfold exsB at e;obtain⟨F,m,e⟩:=X9 e;rw[XM]at e;refine⟨YO X G v,F,YG X G (BH m),Jv e.1,λc g=>?_⟩;obtain⟨C,z,q⟩:=X9 (Uo.mp e.2 c (by simpa using g))
 simp only[XM]at q;refine⟨C,YG X G (BH z),BH z,Jv q.1.1,q.1.2,λd j=>?_⟩;obtain⟨f,l,p⟩:=X9 (Uo.mp q.2 d (by simpa using j))
 exact⟨f,YG X G (BH l),p⟩
structure FtX (P:Xh)(w:Xd)(K:X1)(mg:Str->Option Value)(base:Heap)(k:Nat)(xf:List Str)(Ψ:List (Str×SpX)):Prop where
 mon:∀(j:Nat)f sp,Ψ[j]?=some (f,sp)->MonX sp
 fnn:∀(j:Nat)f,xf[j]?=some f->∃sp,Ψ[j]?=some (f,sp)
 fns:∀(j:Nat)f sp,xf[j]?=some f->Ψ[j]?=some (f,sp)->∃fa fd ps,FnOk P w K mg base (CX1 P w) k fa fd ps (Yw K sp)/\mg f=some (.ref fa)/\YV K (.ref fa)=true/\Binds K fd ps []
theorem YZ{P:Xh}{w:Xd}{K:X1}{y:Str->Option Value}{l:Heap}{k:Nat}{g:List Str}{u:List (Str×SpX)}(q:u.map (·.1)=g)(L:∀p∈u,MonX p.2)
  (N:∀p∈u,∃z d c,FnOk P w K y l (CX1 P w) k z d c (Yw K p.2)/\y p.1=some (.ref z)/\YV K (.ref z)=true/\Binds K d c []):FtX P w K y l k g u where
 mon:=λj f m h=>L (f,m) (Y5 h)
 fnn:=λj f h=>by
  rw[<-q,Xj]at h;cases e:u[j]? with
  |none=>rw[e]at h;cases h
  |some p=>rw[e]at h;cases h;exact⟨p.2,rfl⟩
 fns:=λj f m O h=>N (f,m) (Y5 h)
theorem Jw{P:Xh}{w:Xd}{K:X1}{L:Str->Option Value}{l:Heap}{G:GI}{O:List (Str×SpM)}{R:CXT}{u:Str}{g:Scope}{f:Addr}{N y:List Str}{k:Nat}{d:Value}{A:Xn}{z:List Env}{s:X0}{H:Hp}{E:XK}
  (S:FnScope N y g)(T:Fts P w K L l k G O)(e:Room k (A.deeper (envOfC u g s.heap.objs.size f d))):Cok (cxOf R P w K L l N u g f d A z s H E).nox G O:=
 ⟨(by have:=e.un;show(A.deeper _).units+70<cLine;lia),rfl,rfl,(by show(if g.kind.isAnnotationScope then CU else g.kind)=.function;rw[S.kind];rfl),S.nd,T.bls,T.gls,T.fnn,T.mon,
  (λj f q U p=>let⟨fa,fd,y,F,hm,hk,hb⟩:=T.fns j f q U p;⟨k,fa,fd,y,e,F,hm,hk,hb⟩),
  (λj c m h=>let⟨f,q,p,C,fa,fd,y,F,hC,cl,hm,hb⟩:=T.mts j c m h;⟨f,q,p,k,C,fa,fd,y,e,F,hC,cl,hm,hb⟩),
  (λj c h=>let⟨f,q,p,k',C,fa,fd,y,hk,F,hC,hm,mk1,hb⟩:=T.mks j c h;⟨f,q,p,k',C,fa,fd,y,e.mono hk,F,hC,hm,mk1,hb⟩),T.cls⟩
theorem Fun.okX{P:Xh}{w:Xd}{K:X1}{g:Str->Option Value}{l:Heap}{G:GX}{xb:Str}{U:List (Str×SpM)}{W:List (Str×SpX)}{x u:Str}{st:Stmt}{f:Addr}{L:Xi}{N d:List Str}{k:Nat}{p:SpX}
  (F:Fun K x u st f L)(S:FnScope N d (X8 st))(T:Fts P w K g l k G.g U)(O:FtX P w K g l k G.xf W)(Ex:Exs K g xb G.xc)(R:IXs)(Y:chkXs G (X8 st) N R (Xo st)=true)
  (len:∀y M Q X,p y M Q X->y.length=d.length)(h:∀y M Q X,p y M Q X->wXs U W X R {nx:=λ_ Z=>Q .non Z,rt:=Q} (Ud N.length y) M):FnOk P w K g l (CX1 P w) (k+1) f L d (Yw K p):=by
 obtain⟨oc,od,kV,doc,pm,an,B,ct,osl,rfl,lk,D⟩:=F.ex;refine Hc lk D S (λy H Q E hs=>?_) λA m s H y Q E b J=>?_
 .obtain⟨o,M,r,a,q⟩:=hs;rw[<-r.length];exact len _ _ _ _ q
 obtain⟨o,M,r,a,q⟩:=J;have x:BF (cxOf (CX1 P w) P w K g l N u (X8 st) f B A m s H E) G U W H E:=
  ⟨Jw S T b,S.nd,rfl,own1,_nS,λpz σ H s h' e C y I i q=>_ld I i q,O.mon,O.fnn,(λj f p hg hj=>let⟨fa,L,d,F,i,hk,hb⟩:=O.fns j f p hg hj;⟨k,fa,L,d,b,F,i,hk,hb⟩),
   λc Y=>let⟨F,mF,cF,cs⟩:=Ex.bas;let⟨C,m1,n1,xC,_⟩:=cs c Y;⟨C,F,m1,n1,cF,xC⟩⟩
 refine⟨_,sXs x (ex:=liEx K E H) (λ_ _ z=>z) (λ_=>rfl) R Y,Kp.refl _,Ud N.length o,M,DJ r,a,?_⟩;refine mon_xs T.mon O.mon R (λ_ _ z=>z) ?_ (h o M _ _ q);exact⟨λσ Z z σv H' k1 rs' n=>z _ _ k1 .non n,λv Z z=>z,λ_ _ z=>z.elim,λ_ _ z=>z.elim⟩
theorem Fun.okT{P:Xh}{w:Xd}{K:X1}{m:Str->Option Value}{l:Heap}{G:GX}{e:Str}{Φ:List (Str×SpM)}{Ψ:List (Str×SpX)}{x u:Str}{st:Stmt}{f:Addr}{d:Xi}{N g:List Str}{k:Nat}{sp:SpM}
  (F:Fun K x u st f d)(S:FnScope N g (X8 st))(T:Fts P w K m l k G.g Φ)(c:FtX P w K m l k G.xf Ψ)(B:Exs K m e G.xc)(C:G.xc.contains "ValueError"=false)(p:List IT)(D:BG G e (X8 st) N p (Xo st)=true)
  (len:∀vs M Q,sp vs M Q->vs.length=g.length)(h:∀vs M Q,sp vs M Q->wTs Φ Ψ G.xc p {nx:=λ_ L=>Q .non L,rt:=Q} (Ud N.length vs) M):FnOk P w K m l CX0 (k+1) f d g (liSp K sp):=by
 refine F.ok S (λvs H Q E O=>?_) λR A y s H vs Q E Y O=>?_
 .obtain⟨U,M,r,Z,q⟩:=O;rw[<-r.length];exact len _ _ _ q
 obtain⟨U,M,r,Z,q⟩:=O;have x:Tok (cxOf CX0 P w K m l N u (X8 st) f R A y s H E).nox G e Φ Ψ:=
  ⟨Jw (R:=CX0) (E:=E) S T Y,rfl,rfl,B,C,c.mon,c.fnn,(λj f sp I J=>let⟨fa,d,g,F,hm,hk,hb⟩:=c.fns j f sp I J;⟨k,fa,d,g,Y,F,hm,hk,hb⟩)⟩
 refine⟨_,sTs x (λ_=>rfl) p D,Ud N.length U,M,DJ r,Z,?_⟩;refine DQ T.mon c.mon p ?_ (h U M _ q);exact⟨λn L z X b o i W=>z _ _ o .non W,λv L z=>z,λ_ _ z=>z.elim,λ_ _ z=>z.elim⟩
end L2
namespace L2
open PySem PySem.Spec PyProof.Rows
section
variable{Φ:List (Str×SpM)}{Ψ:List (Str×SpX)}{ex:Str->MH->Prop}{xc:List Str}{D:EndM}{σ:Sm}{M:MH}
theorem _mK:wXs Φ Ψ ex .nil D σ M=D.nx σ M:=rfl
theorem _kP{s:IX}{r:IXs}:wXs Φ Ψ ex (.cons s r) D σ M=wX Φ Ψ ex s {nx:=λσ M=>wXs Φ Ψ ex r D σ M,rt:=D.rt,bk:=D.bk,ct:=D.ct} σ M:=rfl
theorem x_pl{s:IS}:wX Φ Ψ ex (.pl s) D σ M=wS Φ s D σ M:=rfl
theorem x_rs{c:Str}{e:IE}:wX Φ Ψ ex (.rs c e) D σ M=wE Φ e σ M λ_ M1=>ex c M1:=rfl
theorem x_rf{c:Str}{i:Nat}:wX Φ Ψ ex (.rf c i) D σ M=∃x,σ[i]?=some (some (.str x))/\ShortT x/\ex c M:=rfl
theorem x_cl{j:Nat}{e:IE}{l:IEs}:wX Φ Ψ ex (.cl j e l) D σ M=wE Φ e σ M λv M1=>wEs Φ l σ M1 λw M2=>∃f u,Ψ[j]?=some (f,u)/\u (v::w) M2 (λ_ y=>D.nx σ y) ex:=rfl
theorem x_rt{j:Nat}{e:IE}{l:IEs}:wX Φ Ψ ex (.rt j e l) D σ M=wE Φ e σ M λv M1=>wEs Φ l σ M1 λw M2=>∃f u,Ψ[j]?=some (f,u)/\u (v::w) M2 D.rt ex:=rfl
theorem _mM{t:ITg}{s:ISr}{b:IXs}:wX Φ Ψ ex (.for_ t s b) D σ M=wSr Φ s σ M λS M1=>S.flat/\∃J:Nat->Sm->MH->Prop,J 0 σ M1/\(∀i σ M,J i σ M->S.ok M)/\
   (∀i x σ M,S.items[i]?=some x->J i σ M->wTg t x σ λj=>wXs Φ Ψ ex b {nx:=J (i+1),rt:=D.rt,bk:=D.nx,ct:=J (i+1)} j M)/\∀σ M,J S.len σ M->D.nx σ M:=rfl
theorem _mN:wTs Φ Ψ xc [] D σ M=D.nx σ M:=rfl
theorem _kW{s:IT}{r:List IT}:wTs Φ Ψ xc (s::r) D σ M=wT Φ Ψ xc s {nx:=λσ M=>wTs Φ Ψ xc r D σ M,rt:=D.rt,bk:=D.bk,ct:=D.ct} σ M:=rfl
theorem t_pl{s:IS}:wT Φ Ψ xc (.pl s) D σ M=wS Φ s D σ M:=rfl
theorem t_tr{i:Option Nat}{j u k:Nat}{e:IE}{w:IEs}{y:List Str}:wT Φ Ψ xc (.tr ⟨i,j,e,w,u,k,y⟩) D σ M=wE Φ e σ M λv M1=>wEs Φ w σ M1 λm M2=>∃f z,Ψ[j]?=some (f,z)/\
 z (v::m) M2 (λx l=>D.nx (stO i x σ) l) λc l=>xc.contains c=true/\∀p,l p=none->D.nx ((σ.set k (some (.ref p))).set u none) (updM l p (.lst (y.map λg=>.bl (xsub c g)))):=rfl
theorem _hN{a:Str}{b:SpX}{R:SpX->Prop}:(∃f j,(a=f/\b=j)/\R j)↔R b:=⟨fun⟨_,_,⟨_,e⟩,h⟩=>e▸h,λh=>⟨a,b,⟨rfl,rfl⟩,h⟩⟩
theorem sto0{x:MV}:stO none x σ=σ:=rfl
theorem _mJ{c j:Str}:xsub c j=(decide (j="ValueError")||decide (j=c)):=rfl
end
end L2
namespace My
open PySem L2
noncomputable abbrev XB:Str:="FerryError"
noncomputable abbrev XC:List Str:=["NoName","Twice","NoWidth","NoWord","TooMany","Unknown","NoFerry","NoStep","NoCode","NoText"]
noncomputable def top(i:Nat):Stmt:=PySem.Challenge.pw_bellferry_k22_worlds_refused.main.body.getD i (.Pass ⟨0,0,0,0⟩)
abbrev WI:Stmt:=top 14
abbrev WJ:Stmt:=top 15
abbrev WK:Stmt:=top 16
abbrev WL:Stmt:=top 17
abbrev WM:Stmt:=top 19
abbrev WN:Stmt:=top 20
abbrev WO:Stmt:=top 21
abbrev WP:Stmt:=top 22
abbrev WQ:Stmt:=top 33
abbrev WR:Stmt:=top 34
abbrev WT:Stmt:=top 35
abbrev WU:Stmt:=top 36
abbrev WV:Stmt:=top 37
abbrev WW:Stmt:=top 38
abbrev WX:Stmt:=top 39
abbrev WY:Stmt:=top 40
abbrev WZ:Stmt:=top 41
abbrev A0:Stmt:=top 42
abbrev A1:Stmt:=top 43
abbrev A2:Stmt:=top 44
abbrev A3:Stmt:=top 45
abbrev A4:Stmt:=top 46
abbrev A5:Stmt:=top 48
abbrev A6:Stmt:=top 49
abbrev A7:Stmt:=top 50
abbrev A8:Stmt:=top 51
abbrev A9:Stmt:=top 52
abbrev Aa:Stmt:=top 53
abbrev Ab:Stmt:=top 54
abbrev Ac:Stmt:=top 55
abbrev Ad:Stmt:=top 56
abbrev Ae:Stmt:=top 57
abbrev Af:Stmt:=top 58
abbrev Ag:Stmt:=top 59
abbrev Ah:Stmt:=top 60
abbrev Ai:Stmt:=top 61
abbrev Aj:Stmt:=top 62
abbrev Ak:Stmt:=top 63
abbrev Al:Stmt:=top 64
abbrev Am:Stmt:=top 65
abbrev An:Stmt:=top 66
abbrev Ao:Stmt:=top 67
set_option genInjectivity false in
set_option genSizeOf false in
structure Adr where
 bG:Addr
 cO:Xi
 di:Addr
 cX:Xi
 bP:Addr
 cZ:Xi
 bh:Addr
 dj:Xi
 bZ:Addr
 dv:Xi
 cV:Addr
 cq:Xi
 cL:Addr
 cm:Xi
 bC:Addr
 cN:Xi
 cf:Addr
 bI:Xi
 cB:Addr
 de:Xi
 dq:Addr
 bR:Xi
 bc:Addr
 bo:Xi
 cD:Addr
 cK:Xi
 dB:Addr
 bM:Xi
 cr:Addr
 cR:Xi
 bV:Addr
 cH:Xi
 dr:Addr
 bK:Xi
 cv:Addr
 cz:Xi
 dF:Addr
 cw:Xi
 bY:Addr
 dE:Xi
 bO:Addr
 dG:Xi
 bN:Addr
 dA:Xi
 df:Addr
 ck:Xi
 c7:Addr
 dn:Xi
 bE:Addr
 dH:Xi
 bB:Addr
 bj:Xi
 bQ:Addr
 bx:Xi
 cg:Addr
 bf:Xi
 bF:Addr
 cU:Xi
 bS:Addr
 bW:Xi
 bq:Addr
 c8:Xi
 bn:Addr
 cQ:Xi
 cP:Addr
 c9:Xi
 dz:Addr
 cS:Xi
 dt:Addr
 cx:Xi
 bJ:Addr
 cM:Xi
 cy:Addr
 bp:Xi
 cJ:Addr
 dk:Xi
 br:Addr
 cu:Xi
 cG:Addr
 cb:Xi
 bH:Addr
 bX:Xi
 dc:Addr
 be:Xi
structure Txt (K:X1)(mg:Str->Option Value)(t:Adr):Prop where
 ao:FnT K mg "is_whole" ["value"] WI t.bG t.cO
 b4:FnT K mg "is_width" ["number"] WJ t.di t.cX
 aR:FnT K mg "two_to" ["exponent"] WK t.bP t.cZ
 aT:FnT K mg "fits" ["width","number"] WL t.bh t.dj
 aA:FnT K mg "parts_within" ["T"] WM t.bZ t.dv
 aE:FnT K mg "size_of" ["T"] WN t.cV t.cq
 ar:FnT K mg "names_read" ["T"] WO t.cL t.cm
 b3:FnT K mg "vars_in" ["T"] WP t.bC t.cN
 b6:FnT K mg "is_name" ["text"] WQ t.cf t.bI
 ah:FnT K mg "refuse_name" ["text","earlier"] WR t.cB t.de
 ai:FnT K mg "refuse_unknown" ["name","known"] WT t.dq t.bR
 bb:FnT K mg "refuse_ferry_names" ["ferries"] WU t.bc t.bo
 aO:FnT K mg "refuse_variables" ["width","pairs"] WV t.cD t.cK
 b8:FnT K mg "refuse_term" ["T","known"] WW t.dB t.bM
 aI:FnT K mg "refuse_step" ["step","known","count","ferry_names"] WX t.cr t.cR
 aG:FnT K mg "refuse_island" ["width","island","ferry_names"] WY t.bV t.cH
 aM:FnT K mg "refuse_islands" ["width","islands","ferry_names"] WZ t.dr t.bK
 aY:FnT K mg "refuse_ferry" ["ferry","island_names"] A0 t.cv t.cz
 ba:FnT K mg "refuse_wrong_end" ["name","step","givers","takers"] A1 t.dF t.cw
 aN:FnT K mg "refuse_wrong_ends" ["islands","ferries"] A2 t.bY t.dE
 ag:FnT K mg "frozen" ["value"] A3 t.bO t.dG
 aV:FnT K mg "made" ["width","islands","ferries"] A4 t.bN t.dA
 aq:FnT K mg "_law_cell" ["script","k"] A5 t.df t.ck
 aa:FnT K mg "_law_mix" ["number","salt"] A6 t.c7 t.dn
 aK:FnT K mg "_law_names" ["number","many"] A7 t.bE t.dH
 am:FnT K mg "_law_word" ["number","width"] A8 t.bB t.bj
 aB:FnT K mg "_law_term" ["number","own","deep"] A9 t.bQ t.bx
 aX:FnT K mg "_law_step" ["number","name","ferries","own","many"] Aa t.cg t.bf
 aZ:FnT K mg "_law_ferries" ["number","names","many"] Ab t.bF t.cU
 aP:FnT K mg "_law_world" ["script","start"] Ac t.bS t.bW
 aL:FnT K mg "_law_made" ["parts"] Ad t.bq t.c8
 ay:FnT K mg "_law_bad_name" ["number","name"] Ae t.bn t.cQ
 aj:FnT K mg "_law_fresh" ["stem","known"] Af t.cP t.c9
 ac:FnT K mg "_law_exchanged" ["things","at","thing"] Ag t.dz t.cS
 aH:FnT K mg "_law_wrong_step" ["number","parts","at"] Ah t.dt t.cx
 aw:FnT K mg "_law_island_fault" ["number","parts","at"] Ai t.bJ t.cM
 ak:FnT K mg "_law_end_fault" ["number","parts","at"] Aj t.cy t.bp
 aW:FnT K mg "_law_step_fault" ["number","parts"] Ak t.cJ t.dk
 aJ:FnT K mg "_law_fault" ["rank","number","parts"] Al t.br t.cu
 aQ:FnT K mg "_law_spoiled" ["one","two","parts"] Am t.cG t.cb
 aU:FnT K mg "_law_kin" ["parts"] An t.bH t.bX
 cA:FnT K mg "law" ["script"] Ao t.dc t.be
 ce:mg "ValueError"=none
 dC:mg "all"=none
 bD:mg "bool"=none
 c0:mg "dict"=none
 bT:mg "int"=none
 dw:mg "isinstance"=none
 bL:mg "len"=none
 cI:mg "list"=none
 bA:mg "max"=none
 ci:mg "min"=none
 bg:mg "range"=none
 cY:mg "set"=none
 bu:mg "sorted"=none
 dh:mg "tuple"=none
 dy:∃tk,mg "MOST_WIDTH"=some (.int 64 tk)
 bw:∃tk,mg "MOST_LETTERS"=some (.int 8 tk)
 dD:∃tk,mg "MOST_ISLANDS"=some (.int 5 tk)
 cT:∃tk,mg "MOST_FERRIES"=some (.int 6 tk)
 cE:∃tk,mg "MOST_VARS"=some (.int 6 tk)
 bU:∃tk,mg "MOST_STEPS"=some (.int 12 tk)
 c6:∃tk,mg "MOST_PARTS"=some (.int 30 tk)
 du:∃tk,mg "MOST_DEPTH"=some (.int 8 tk)
 cW:∃tk,mg "MOST_K"=some (.int 3 tk)
 cj:∃tk,mg "MOST_STAGES"=some (.int 3 tk)
 ex:Exs K mg XB XC
theorem _dc:FnScope ["value"] ["value"] (X8 WI):=mkSc
theorem _db:FnScope ["number"] ["number"] (X8 WJ):=mkSc
theorem _fl:FnScope ["exponent","answer","k"] ["exponent"] (X8 WK):=mkSc
theorem _jb:FnScope ["width","number"] ["width","number"] (X8 WL):=mkSc
theorem _9M:FnScope ["T"] ["T"] (X8 WM):=mkSc
theorem _ew:FnScope ["T","parts","deepest","part","size"] ["T"] (X8 WN):=mkSc
theorem _by:FnScope ["T","names","part"] ["T"] (X8 WO):=mkSc
theorem _ev:FnScope ["T"] ["T"] (X8 WP):=mkSc
theorem _ex:FnScope ["text"] ["text"] (X8 WQ):=mkSc
theorem _av:FnScope ["text","earlier"] ["text","earlier"] (X8 WR):=mkSc
theorem _8B:FnScope ["name","known"] ["name","known"] (X8 WT):=mkSc
theorem _5t:FnScope ["ferries","earlier","ferry"] ["ferries"] (X8 WU):=mkSc
theorem _7g:FnScope ["width","pairs","earlier","pair","name"] ["width","pairs"] (X8 WV):=mkSc
theorem _at:FnScope ["T","known","size","name"] ["T","known"] (X8 WW):=mkSc
theorem _au:FnScope ["step","known","count","ferry_names"] ["step","known","count","ferry_names"] (X8 WX):=mkSc
theorem _9v:FnScope ["width","island","ferry_names","known","step"] ["width","island","ferry_names"] (X8 WY):=mkSc
theorem _8C:FnScope ["width","islands","ferry_names","earlier","island"] ["width","islands","ferry_names"] (X8 WZ):=mkSc
theorem _9L:FnScope ["ferry","island_names"] ["ferry","island_names"] (X8 A0):=mkSc
theorem _7f:FnScope ["name","step","givers","takers"] ["name","step","givers","takers"] (X8 A1):=mkSc
theorem _6o:FnScope ["islands","ferries","givers","takers","island","step"] ["islands","ferries"] (X8 A2):=mkSc
theorem Jx:FnScope ["value"] ["value"] (X8 A3):=mkSc
theorem _ja:FnScope ["width","islands","ferries","island_names","ferry"] ["width","islands","ferries"] (X8 A4):=mkSc
theorem _cl:FnScope ["script","k"] ["script","k"] (X8 A5):=mkSc
theorem _dd:FnScope ["number","salt","mixed"] ["number","salt"] (X8 A6):=mkSc
theorem _bA:FnScope ["number","many","letters","first","step","size","at","stem","names","k","sign"] ["number","many"] (X8 A7):=mkSc
theorem _ch:FnScope ["number","width","far"] ["number","width"] (X8 A8):=mkSc
theorem _ci:FnScope ["number","own","deep","way","more","far","one","two"] ["number","own","deep"] (X8 A9):=mkSc
theorem _cj:FnScope ["number","name","ferries","own","many","takes","gives","way","more","term"] ["number","name","ferries","own","many"] (X8 Aa):=mkSc
theorem _9O:FnScope ["number","names","many","ferries","j","more","giver","taker","ends"] ["number","names","many"] (X8 Ab):=mkSc
theorem _bz:FnScope ["script","start","head","many","names","size","width","ferries","islands","i","more","own","cells","long","pairs","steps"] ["script","start"] (X8 Ac):=mkSc
theorem _ck:FnScope ["parts","islands"] ["parts"] (X8 Ad):=mkSc
theorem _9w:FnScope ["number","name","at"] ["number","name"] (X8 Ae):=mkSc
theorem _bB:FnScope ["stem","known","sign"] ["stem","known"] (X8 Af):=mkSc
theorem _8D:FnScope ["things","at","thing"] ["things","at","thing"] (X8 Ag):=mkSc
theorem _7w:FnScope ["number","parts","at","width","islands","ferries","name","pairs","steps","more","k","none","some","step"] ["number","parts","at"] (X8 Ah):=mkSc
theorem _6p:FnScope ["number","parts","at","width","islands","ferries","name","pairs","steps","way","more","fault","others","own"] ["number","parts","at"] (X8 Ai):=mkSc
theorem _8E:FnScope ["number","parts","at","width","islands","ferries","name","giver","taker","k","stages","more","far","none","ends","fault"] ["number","parts","at"] (X8 Aj):=mkSc
theorem _7x:FnScope ["number","parts","width","islands","ferries","ferry","wrong","others","island","step","at","steps"] ["number","parts"] (X8 Ak):=mkSc
theorem _bC:FnScope ["rank","number","parts","width","islands","ferries","more","extra","at","name","fault"] ["rank","number","parts"] (X8 Al):=mkSc
theorem _9N:FnScope ["one","two","parts","both","late","spoiled","later","fault","first"] ["one","two","parts"] (X8 Am):=mkSc
theorem _de:FnScope ["parts","kin","e"] ["parts"] (X8 An):=mkSc
theorem _l4:FnScope ["script","parts","one","two","spoiled","fault","names","due"] ["script"] (X8 Ao):=mkSc
noncomputable def GB:List Str:=["ValueError","all","bool","dict","int","isinstance","len","list","max","min","range","set","sorted","tuple"]
noncomputable def GL:List (Str×Int):=[("MOST_WIDTH",64),("MOST_LETTERS",8),("MOST_ISLANDS",5),("MOST_FERRIES",6),("MOST_VARS",6),("MOST_STEPS",12),("MOST_PARTS",30),("MOST_DEPTH",8),("MOST_K",3),("MOST_STAGES",3)]
theorem Xx{K:X1}{j:Str->Option Value}{t:Adr}(T:Txt K j t):∀x∈GB,j x=none:=(fMc ⟨T.ce,(fMc ⟨T.dC,(fMc ⟨T.bD,(fMc ⟨T.c0,(fMc ⟨T.bT,(fMc ⟨T.dw,(fMc ⟨T.bL,(fMc ⟨T.cI,(fMc ⟨T.bA,(fMc ⟨T.ci,(fMc ⟨T.bg,(fMc ⟨T.cY,(fMc ⟨T.bu,(fMc ⟨T.dh,nl0⟩)⟩)⟩)⟩)⟩)⟩)⟩)⟩)⟩)⟩)⟩)⟩)⟩)⟩)
theorem Xy{K:X1}{j:Str->Option Value}{t:Adr}(T:Txt K j t):∀p∈GL,∃l,j p.1=some (.int p.2 l):=(fMc ⟨T.dy,(fMc ⟨T.bw,(fMc ⟨T.dD,(fMc ⟨T.cT,(fMc ⟨T.cE,(fMc ⟨T.bU,(fMc ⟨T.c6,(fMc ⟨T.du,(fMc ⟨T.cW,(fMc ⟨T.cj,nl0⟩)⟩)⟩)⟩)⟩)⟩)⟩)⟩)⟩)⟩)
noncomputable def Jy:ISs:=.cons (.ret (.and (.bi .isinst (.var 0) (.cons (.ty .int) .nil)) (.not (.bi .isinst (.var 0) (.cons (.ty .bool) .nil))))) .nil
abbrev DR:ISs:=Jy
def Jz:GI:=⟨GB,GL,[],[],[],[]⟩
theorem _dF:chkSs Jz (X8 WI) ["value"] DR (Xo WI)=true:=by decide+kernel
noncomputable def JA:ISs:=.cons (.ret (.and (.call 0 (.var 0) .nil) (.chn .LtE .LtE (.int 1) (.var 0) (.glb "MOST_WIDTH" 64)))) .nil
abbrev DS:ISs:=JA
def JB:GI:=⟨GB,GL,["is_whole"],[],[],[]⟩
theorem _dE:chkSs JB (X8 WJ) ["number"] DS (Xo WJ)=true:=by decide+kernel
noncomputable def JC:ISs:=.cons (.ret (.var 1)) .nil
noncomputable def JD:ISs:=.cons (.set 1 (.bin .Mult (.var 1) (.int 2))) .nil
def JE:ISs:=.cons (.for_ (.nm 2) (.rng (.var 0)) JD) JC
def JF:ISs:=.cons (.set 1 (.int 1)) JE
abbrev DT:ISs:=JF
def JG:GI:=⟨GB,GL,[],[],[],[]⟩
theorem _gB:chkSs JG (X8 WK) ["exponent","answer","k"] DT (Xo WK)=true:=by decide+kernel
noncomputable def JH:ISs:=.cons (.ret (.and (.call 0 (.var 1) .nil) (.chn .LtE .Lt (.int 0) (.var 1) (.call 1 (.var 0) .nil)))) .nil
abbrev DU:ISs:=JH
def JI:GI:=⟨GB,GL,["is_whole","two_to"],[],[],[]⟩
theorem _ku:chkSs JI (X8 WL) ["width","number"] DU (Xo WL)=true:=by decide+kernel
noncomputable def DV:ISs:=.cons (.ret (.bi .list (.sl (.var 0) (.some (.int 1)) .none) .nil)) .nil
noncomputable def DW:ISs:=.cons (.ret (.lst .nil)) .nil
def JJ:ISs:=.cons (.ite (.or (.cmp .Eq (.ix (.var 0) (.int 0)) (.str "num")) (.cmp .Eq (.ix (.var 0) (.int 0)) (.str "var"))) DW .nil) DV
abbrev DX:ISs:=JJ
def JK:GI:=⟨GB,GL,[],[],[],[]⟩
theorem _ai:chkSs JK (X8 WM) ["T"] DX (Xo WM)=true:=by decide+kernel
noncomputable def JL:ISs:=.cons (.ret (.tup (.cons (.var 1) (.cons (.bin .Add (.var 2) (.int 1)) .nil)))) .nil
noncomputable def JM:ISs:=.cons (.set 2 (.bi .max (.var 2) (.cons (.ix (.var 4) (.int 1)) .nil))) .nil
def JN:ISs:=.cons (.set 1 (.bin .Add (.var 1) (.ix (.var 4) (.int 0)))) JM
def JO:ISs:=.cons (.set 4 (.call 1 (.var 3) .nil)) JN
def JP:ISs:=.cons (.for_ (.nm 3) (.seq (.call 0 (.var 0) .nil)) JO) JL
def JQ:ISs:=.cons (.set 2 (.int 0)) JP
def JR:ISs:=.cons (.set 1 (.int 1)) JQ
abbrev DY:ISs:=JR
def JS:GI:=⟨GB,GL,["parts_within","size_of"],[],[],[]⟩
theorem _eR:chkSs JS (X8 WN) ["T","parts","deepest","part","size"] DY (Xo WN)=true:=by decide+kernel
noncomputable def JT:ISs:=.cons (.ret (.var 1)) .nil
noncomputable def JU:ISs:=.cons (.expr (.mt .extend (.var 1) (.cons (.call 0 (.var 2) .nil) .nil))) .nil
def JV:ISs:=.cons (.for_ (.nm 2) (.seq (.call 1 (.var 0) .nil)) JU) JT
def DZ:ISs:=.cons (.set 1 (.lst .nil)) JV
noncomputable def JW:ISs:=.cons (.ret (.lst (.cons (.ix (.var 0) (.int 1)) .nil))) .nil
def JX:ISs:=.cons (.ite (.cmp .Eq (.ix (.var 0) (.int 0)) (.str "var")) JW .nil) DZ
abbrev E5:ISs:=JX
def JY:GI:=⟨GB,GL,["names_read","parts_within"],[],[],[]⟩
theorem _bU:chkSs JY (X8 WO) ["T","names","part"] E5 (Xo WO)=true:=by decide+kernel
noncomputable def JZ:ISs:=.cons (.ret (.b2 .ssrt (.call 0 (.var 0) .nil))) .nil
abbrev E6:ISs:=JZ
def K0:GI:=⟨GB,GL,["names_read"],[],[],[]⟩
theorem _eQ:chkSs K0 (X8 WP) ["T"] E6 (Xo WP)=true:=by decide+kernel
noncomputable def K1:ISs:=.cons (.ret (.and (.chn .LtE .LtE (.int 1) (.bi .len (.var 0) .nil) (.glb "MOST_LETTERS" 8)) (.bi .all (.comp ["sign"] [] (.seq (.var 0)) (.nm 0) .none (.chn .LtE .LtE (.str "a") (.var 0) (.str "z"))) .nil))) .nil
abbrev E7:ISs:=K1
def K2:GI:=⟨GB,GL,[],[],[],[]⟩
theorem _eS:chkSs K2 (X8 WQ) ["text"] E7 (Xo WQ)=true:=by decide+kernel
noncomputable def K3:IXs:=.cons (.rf "Twice" 0) .nil
def K4:IXs:=.cons (.ite (.cmp .In (.var 0) (.var 1)) K3 .nil) .nil
noncomputable def K5:IXs:=.cons (.rf "NoName" 0) .nil
def K6:IXs:=.cons (.ite (.not (.call 0 (.var 0) .nil)) K5 .nil) K4
abbrev E8:IXs:=K6
def K7:GI:=⟨GB,GL,["is_name"],[],[],[]⟩
def K8:GX:={g:=K7,xf:=[],xc:=XC}
theorem _aI:chkXs K8 (X8 WR) ["text","earlier"] E8 (Xo WR)=true:=by decide+kernel
noncomputable def K9:IXs:=.cons (.rf "Unknown" 0) .nil
def Ka:IXs:=.cons (.ite (.cmp .NotIn (.var 0) (.var 1)) K9 .nil) .nil
abbrev E9:IXs:=Ka
def Kb:GI:=⟨GB,GL,[],[],[],[]⟩
def Kc:GX:={g:=Kb,xf:=[],xc:=XC}
theorem _8P:chkXs Kc (X8 WT) ["name","known"] E9 (Xo WT)=true:=by decide+kernel
noncomputable def Kd:IXs:=.cons (.pl (.expr (.mt .append (.var 1) (.cons (.ix (.var 2) (.int 0)) .nil)))) .nil
def Ke:IXs:=.cons (.cl 0 (.ix (.var 2) (.int 0)) (.cons (.var 1) .nil)) Kd
def Kf:IXs:=.cons (.for_ (.nm 2) (.seq (.var 0)) Ke) .nil
def Kg:IXs:=.cons (.pl (.set 1 (.lst .nil))) Kf
abbrev Ea:IXs:=Kg
def Kh:GI:=⟨GB,GL,[],[],[],[]⟩
def Ki:GX:={g:=Kh,xf:=["refuse_name"],xc:=XC}
theorem _6f:chkXs Ki (X8 WU) ["ferries","earlier","ferry"] Ea (Xo WU)=true:=by decide+kernel
noncomputable def Kj:IXs:=.cons (.rf "NoWord" 4) .nil
def Kk:IXs:=.cons (.ite (.not (.call 0 (.var 0) (.cons (.ix (.var 3) (.int 1)) .nil))) Kj .nil) .nil
def Kl:IXs:=.cons (.pl (.expr (.mt .append (.var 2) (.cons (.var 4) .nil)))) Kk
def Km:IXs:=.cons (.cl 0 (.var 4) (.cons (.var 2) .nil)) Kl
def Kn:IXs:=.cons (.pl (.set 4 (.ix (.var 3) (.int 0)))) Km
def Ko:IXs:=.cons (.for_ (.nm 3) (.seq (.var 1)) Kn) .nil
def Kq:IXs:=.cons (.pl (.set 2 (.lst .nil))) Ko
abbrev Eb:IXs:=Kq
def Kr:GI:=⟨GB,GL,["fits"],[],[],[]⟩
def Ks:GX:={g:=Kr,xf:=["refuse_name"],xc:=XC}
theorem _7r:chkXs Ks (X8 WV) ["width","pairs","earlier","pair","name"] Eb (Xo WV)=true:=by decide+kernel
noncomputable def Kt:IXs:=.cons (.cl 0 (.var 3) (.cons (.var 1) .nil)) .nil
def Ku:IXs:=.cons (.for_ (.nm 3) (.seq (.call 1 (.var 0) .nil)) Kt) .nil
noncomputable def Ec:IXs:=.cons (.rs "TooMany" (.str "a term has at most 30 parts and is at most 8 deep")) .nil
def Kv:IXs:=.cons (.ite (.or (.cmp .Gt (.ix (.var 2) (.int 0)) (.glb "MOST_PARTS" 30)) (.cmp .Gt (.ix (.var 2) (.int 1)) (.glb "MOST_DEPTH" 8))) Ec .nil) Ku
def Kw:IXs:=.cons (.pl (.set 2 (.call 0 (.var 0) .nil))) Kv
abbrev Ed:IXs:=Kw
def Kx:GI:=⟨GB,GL,["size_of","vars_in"],[],[],[]⟩
def Ky:GX:={g:=Kx,xf:=["refuse_unknown"],xc:=XC}
theorem _aG:chkXs Ky (X8 WW) ["T","known","size","name"] Ed (Xo WW)=true:=by decide+kernel
noncomputable def Kz:IXs:=.cons (.cl 1 (.ix (.var 0) (.int 2)) (.cons (.var 1) .nil)) .nil
def KA:IXs:=.cons (.cl 1 (.ix (.var 0) (.int 1)) (.cons (.var 3) .nil)) Kz
noncomputable def KB:IXs:=.cons (.cl 0 (.ix (.var 0) (.int 2)) (.cons (.var 1) .nil)) .nil
def KC:IXs:=.cons (.cl 1 (.ix (.var 0) (.int 1)) (.cons (.var 3) .nil)) KB
noncomputable def KD:IXs:=.cons (.cl 0 (.ix (.var 0) (.int 2)) (.cons (.var 1) .nil)) .nil
def KE:IXs:=.cons (.cl 1 (.ix (.var 0) (.int 1)) (.cons (.var 1) .nil)) KD
noncomputable def Ee:IXs:=.cons (.rs "NoStep" (.str "a jump leads to a step or to the count of them")) .nil
def KF:IXs:=.cons (.ite (.not (.chn .LtE .LtE (.int 0) (.ix (.var 0) (.int 2)) (.var 2))) Ee .nil) .nil
def KG:IXs:=.cons (.cl 0 (.ix (.var 0) (.int 1)) (.cons (.var 1) .nil)) KF
def Ef:IXs:=.cons (.ite (.cmp .Eq (.ix (.var 0) (.int 0)) (.str "put")) KE KG) .nil
def BJ:IXs:=.cons (.ite (.cmp .Eq (.ix (.var 0) (.int 0)) (.str "give")) KC Ef) .nil
def KH:IXs:=.cons (.ite (.cmp .Eq (.ix (.var 0) (.int 0)) (.str "take")) KA BJ) .nil
abbrev Eg:IXs:=KH
def KI:GI:=⟨GB,GL,[],[],[],[]⟩
def KJ:GX:={g:=KI,xf:=["refuse_term","refuse_unknown"],xc:=XC}
theorem _aH:chkXs KJ (X8 WX) ["step","known","count","ferry_names"] Eg (Xo WX)=true:=by decide+kernel
noncomputable def KL:IXs:=.cons (.cl 0 (.var 4) (.cons (.var 3) (.cons (.bi .len (.ix (.var 1) (.int 2)) .nil) (.cons (.var 2) .nil)))) .nil
def KM:IXs:=.cons (.for_ (.nm 4) (.seq (.ix (.var 1) (.int 2))) KL) .nil
def KN:IXs:=.cons (.pl (.set 3 (.comp ["pair"] [] (.seq (.ix (.var 1) (.int 1))) (.nm 0) .none (.ix (.var 0) (.int 0))))) KM
def KO:IXs:=.cons (.cl 1 (.var 0) (.cons (.ix (.var 1) (.int 1)) .nil)) KN
noncomputable def KP:IXs:=.cons (.rs "TooMany" (.str "an island has at most 12 steps")) .nil
def KQ:IXs:=.cons (.ite (.cmp .Gt (.bi .len (.ix (.var 1) (.int 2)) .nil) (.glb "MOST_STEPS" 12)) KP .nil) KO
noncomputable def KR:IXs:=.cons (.rs "TooMany" (.str "an island has at most 6 variables")) .nil
def KS:IXs:=.cons (.ite (.cmp .Gt (.bi .len (.ix (.var 1) (.int 1)) .nil) (.glb "MOST_VARS" 6)) KR .nil) KQ
abbrev Eh:IXs:=KS
def KU:GI:=⟨GB,GL,[],[],[],[]⟩
def KW:GX:={g:=KU,xf:=["refuse_step","refuse_variables"],xc:=XC}
theorem _9z:chkXs KW (X8 WY) ["width","island","ferry_names","known","step"] Eh (Xo WY)=true:=by decide+kernel
noncomputable def KY:IXs:=.cons (.cl 0 (.var 0) (.cons (.var 4) (.cons (.var 2) .nil))) .nil
def KZ:IXs:=.cons (.pl (.expr (.mt .append (.var 3) (.cons (.ix (.var 4) (.int 0)) .nil)))) KY
def L0:IXs:=.cons (.cl 1 (.ix (.var 4) (.int 0)) (.cons (.var 3) .nil)) KZ
def L5:IXs:=.cons (.for_ (.nm 4) (.seq (.var 1)) L0) .nil
def L6:IXs:=.cons (.pl (.set 3 (.bi .list (.var 2) .nil))) L5
abbrev Ei:IXs:=L6
def L7:GI:=⟨GB,GL,[],[],[],[]⟩
def L8:GX:={g:=L7,xf:=["refuse_island","refuse_name"],xc:=XC}
theorem _8Q:chkXs L8 (X8 WZ) ["width","islands","ferry_names","earlier","island"] Ei (Xo WZ)=true:=by decide+kernel
noncomputable def Ej:IXs:=.cons (.rs "NoFerry" (.str "a ferry has 1 to 3 stages")) .nil
def L9:IXs:=.cons (.ite (.not (.chn .LtE .LtE (.int 1) (.ix (.var 0) (.int 4)) (.glb "MOST_STAGES" 3))) Ej .nil) .nil
noncomputable def Ek:IXs:=.cons (.rs "NoFerry" (.str "a ferry's k is 0 to 3")) .nil
def La:IXs:=.cons (.ite (.not (.chn .LtE .LtE (.int 0) (.ix (.var 0) (.int 3)) (.glb "MOST_K" 3))) Ek .nil) L9
noncomputable def Lb:IXs:=.cons (.rs "NoFerry" (.str "a ferry leads to another island")) .nil
def Lc:IXs:=.cons (.ite (.cmp .Eq (.ix (.var 0) (.int 1)) (.ix (.var 0) (.int 2))) Lb .nil) La
def Ld:IXs:=.cons (.cl 0 (.ix (.var 0) (.int 2)) (.cons (.var 1) .nil)) Lc
def Lf:IXs:=.cons (.cl 0 (.ix (.var 0) (.int 1)) (.cons (.var 1) .nil)) Ld
abbrev El:IXs:=Lf
def Lg:GI:=⟨GB,GL,[],[],[],[]⟩
def Lh:GX:={g:=Lg,xf:=["refuse_unknown"],xc:=XC}
theorem _ah:chkXs Lh (X8 A0) ["ferry","island_names"] El (Xo A0)=true:=by decide+kernel
noncomputable def Li:IXs:=.cons (.rf "NoFerry" 0) .nil
def Ap:IXs:=.cons (.ite (.and (.cmp .Eq (.ix (.var 1) (.int 0)) (.str "give")) (.cmp .NotEq (.ix (.var 2) (.ix (.var 1) (.int 1))) (.var 0))) Li .nil) .nil
noncomputable def Lj:IXs:=.cons (.rf "NoFerry" 0) .nil
def Ll:IXs:=.cons (.ite (.and (.cmp .Eq (.ix (.var 1) (.int 0)) (.str "take")) (.cmp .NotEq (.ix (.var 3) (.ix (.var 1) (.int 1))) (.var 0))) Lj .nil) Ap
abbrev Em:IXs:=Ll
def Lm:GI:=⟨GB,GL,[],[],[],[]⟩
def Ln:GX:={g:=Lm,xf:=[],xc:=XC}
theorem _7q:chkXs Ln (X8 A1) ["name","step","givers","takers"] Em (Xo A1)=true:=by decide+kernel
noncomputable def Lo:IXs:=.cons (.cl 0 (.ix (.var 4) (.int 0)) (.cons (.var 5) (.cons (.var 2) (.cons (.var 3) .nil)))) .nil
def Lp:IXs:=.cons (.for_ (.nm 5) (.seq (.ix (.var 4) (.int 2))) Lo) .nil
def Lq:IXs:=.cons (.for_ (.nm 4) (.seq (.var 0)) Lp) .nil
def Lr:IXs:=.cons (.pl (.set 3 (.bi .dictL (.comp ["ferry"] [] (.seq (.var 1)) (.nm 0) .none (.tup (.cons (.ix (.var 0) (.int 0)) (.cons (.ix (.var 0) (.int 2)) .nil)))) .nil))) Lq
def Ls:IXs:=.cons (.pl (.set 2 (.bi .dictL (.comp ["ferry"] [] (.seq (.var 1)) (.nm 0) .none (.tup (.cons (.ix (.var 0) (.int 0)) (.cons (.ix (.var 0) (.int 1)) .nil)))) .nil))) Lr
abbrev En:IXs:=Ls
def Lu:GI:=⟨GB,GL,[],[],[],[]⟩
def Lv:GX:={g:=Lu,xf:=["refuse_wrong_end"],xc:=XC}
theorem _6t:chkXs Lv (X8 A2) ["islands","ferries","givers","takers","island","step"] En (Xo A2)=true:=by decide+kernel
noncomputable def VQ:ISs:=.cons (.ret (.var 0)) .nil
noncomputable def Eo:ISs:=.cons (.ret (.bi .tuple (.comp ["part"] [] (.seq (.var 0)) (.nm 0) .none (.call 0 (.var 0) .nil)) .nil)) .nil
def Ep:ISs:=.cons (.ite (.bi .isinst (.var 0) (.cons (.tup (.cons (.ty .list) (.cons (.ty .tuple) .nil))) .nil)) Eo .nil) VQ
abbrev VR:ISs:=Ep
def Er:GI:=⟨GB,GL,["frozen"],[],[],[]⟩
theorem Lw:chkSs Er (X8 A3) ["value"] VR (Xo A3)=true:=by decide+kernel
noncomputable def Lx:IXs:=.cons (.pl (.ret (.call 0 (.tup (.cons (.var 0) (.cons (.var 1) (.cons (.var 2) .nil)))) .nil))) .nil
def Ly:IXs:=.cons (.cl 3 (.var 1) (.cons (.var 2) .nil)) Lx
noncomputable def Lz:IXs:=.cons (.cl 0 (.var 4) (.cons (.var 3) .nil)) .nil
def LA:IXs:=.cons (.for_ (.nm 4) (.seq (.var 2)) Lz) Ly
def LB:IXs:=.cons (.pl (.set 3 (.comp ["island"] [] (.seq (.var 1)) (.nm 0) .none (.ix (.var 0) (.int 0))))) LA
def LC:IXs:=.cons (.cl 2 (.var 0) (.cons (.var 1) (.cons (.comp ["ferry"] [] (.seq (.var 2)) (.nm 0) .none (.ix (.var 0) (.int 0))) .nil))) LB
def LD:IXs:=.cons (.cl 1 (.var 2) .nil) LC
noncomputable def LF:IXs:=.cons (.rs "TooMany" (.str "a world has at most 6 ferries")) .nil
def LG:IXs:=.cons (.ite (.cmp .Gt (.bi .len (.var 2) .nil) (.glb "MOST_FERRIES" 6)) LF .nil) LD
noncomputable def LH:IXs:=.cons (.rs "TooMany" (.str "a world has at most 5 islands")) .nil
def LI:IXs:=.cons (.ite (.cmp .Gt (.bi .len (.var 1) .nil) (.glb "MOST_ISLANDS" 5)) LH .nil) LG
noncomputable def LJ:IXs:=.cons (.rs "NoWidth" (.str "a width is a whole number from 1 to 64")) .nil
def LK:IXs:=.cons (.ite (.not (.call 1 (.var 0) .nil)) LJ .nil) LI
abbrev Es:IXs:=LK
def LL:GI:=⟨GB,GL,["frozen","is_width"],[],[],[]⟩
def LM:GX:={g:=LL,xf:=["refuse_ferry","refuse_ferry_names","refuse_islands","refuse_wrong_ends"],xc:=XC}
theorem _kt:chkXs LM (X8 A4) ["width","islands","ferries","island_names","ferry"] Es (Xo A4)=true:=by decide+kernel
noncomputable def LN:ISs:=.cons (.ret (.bin .Mod (.bin .Mult (.bin .Mult (.var 1) (.var 1)) (.int 7919)) (.int 1000003))) .nil
noncomputable def LO:ISs:=.cons (.ret (.bin .Mod (.ix (.var 0) (.var 1)) (.int 1000000007))) .nil
def LP:ISs:=.cons (.ite (.cmp .Lt (.var 1) (.bi .len (.var 0) .nil)) LO .nil) LN
abbrev Et:ISs:=LP
def LQ:GI:=⟨GB,GL,[],[],[],[]⟩
theorem _cN:chkSs LQ (X8 A5) ["script","k"] Et (Xo A5)=true:=by decide+kernel
noncomputable def LR:ISs:=.cons (.ret (.bin .Mod (.bin .Mult (.var 2) (.var 2)) (.int 2147483629))) .nil
def LS:ISs:=.cons (.set 2 (.bin .Mod (.bin .Add (.bin .Add (.bin .Mult (.var 0) (.int 69621)) (.bin .Mult (.var 1) (.int 16807))) (.int 1013)) (.int 2147483647))) LR
abbrev Eu:ISs:=LS
def LU:GI:=⟨GB,GL,[],[],[],[]⟩
theorem _dG:chkSs LU (X8 A6) ["number","salt","mixed"] Eu (Xo A6)=true:=by decide+kernel
noncomputable def LV:ISs:=.cons (.ret (.var 8)) .nil
noncomputable def LW:ISs:=.cons (.expr (.mt .append (.var 8) (.cons (.bin .Add (.bin .Add (.sl (.var 7) .none (.some (.var 6))) (.var 10)) (.sl (.var 7) (.some (.bin .Add (.var 6) (.int 1))) .none)) .nil))) .nil
noncomputable def LX:ISs:=.cons (.expr (.mt .append (.var 8) (.cons (.bin .Add (.bin .Mult (.ix (.var 2) (.var 3)) (.bin .Mod (.var 9) (.int 4))) (.var 10)) .nil))) .nil
def LY:ISs:=.cons (.ite (.cmp .Eq (.bin .Mod (.bin .FloorDiv (.var 0) (.int 13312)) (.int 2)) (.int 0)) LW LX) .nil
def LZ:ISs:=.cons (.set 10 (.ix (.var 2) (.bin .Mod (.bin .Add (.var 3) (.bin .Mult (.var 9) (.var 4))) (.int 26)))) LY
def Ma:ISs:=.cons (.for_ (.nm 9) (.rng (.var 1)) LZ) LV
def Mb:ISs:=.cons (.set 8 (.lst .nil)) Ma
def Mc:ISs:=.cons (.set 7 (.mt .join (.str "") (.cons (.comp ["k"] [2,0] (.rng (.var 5)) (.nm 0) .none (.ix (.var 1) (.bin .Mod (.call 0 (.var 2) (.cons (.bin .Add (.int 20) (.var 0)) .nil)) (.int 26)))) .nil))) Mb
def Md:ISs:=.cons (.set 6 (.bin .Mod (.bin .FloorDiv (.var 0) (.int 1664)) (.var 5))) Mc
def Me:ISs:=.cons (.set 5 (.bin .Add (.int 1) (.bin .Mod (.bin .FloorDiv (.var 0) (.int 208)) (.int 8)))) Md
def Mf:ISs:=.cons (.set 4 (.ix (.lst (.cons (.int 1) (.cons (.int 3) (.cons (.int 5) (.cons (.int 7) (.cons (.int 9) (.cons (.int 11) (.cons (.int 15) (.cons (.int 17) .nil))))))))) (.bin .Mod (.bin .FloorDiv (.var 0) (.int 26)) (.int 8)))) Me
def Mg:ISs:=.cons (.set 3 (.bin .Mod (.var 0) (.int 26))) Mf
def Mh:ISs:=.cons (.set 2 (.str "abcdefghijklmnopqrstuvwxyz")) Mg
abbrev Ev:ISs:=Mh
def Mi:GI:=⟨GB,GL,["_law_mix"],[],[],[]⟩
theorem _bW:chkSs Mi (X8 A7) ["number","many","letters","first","step","size","at","stem","names","k","sign"] Ev (Xo A7)=true:=by decide+kernel
noncomputable def Mj:ISs:=.cons (.ret (.bin .Mod (.ix (.lst (.cons (.var 2) (.cons (.var 2) (.cons (.int 0) (.cons (.bin .Sub (.bin .LShift (.int 1) (.var 1)) (.int 1)) .nil))))) (.bin .Mod (.bin .FloorDiv (.var 0) (.int 8)) (.int 4))) (.bin .LShift (.int 1) (.var 1)))) .nil
def Ml:ISs:=.cons (.set 2 (.bin .Add (.bin .Mult (.bin .Add (.bin .Mult (.call 0 (.var 0) (.cons (.int 7) .nil)) (.int 2147483629)) (.call 0 (.var 0) (.cons (.int 8) .nil))) (.int 8)) (.bin .Mod (.var 0) (.int 8)))) Mj
abbrev Ew:ISs:=Ml
def Mm:GI:=⟨GB,GL,["_law_mix"],[],[],[]⟩
theorem _cJ:chkSs Mm (X8 A8) ["number","width","far"] Ew (Xo A8)=true:=by decide+kernel
noncomputable def Mn:ISs:=.cons (.ret (.tup (.cons (.ix (.lst (.cons (.str "plus") (.cons (.str "minus") (.cons (.str "times") (.cons (.str "less") (.cons (.str "same") (.cons (.str "minus") .nil))))))) (.bin .Sub (.var 3) (.int 2))) (.cons (.var 6) (.cons (.var 7) .nil))))) .nil
noncomputable def Mo:ISs:=.cons (.ret (.tup (.cons (.str "pick") (.cons (.call 1 (.call 0 (.var 0) (.cons (.int 4) .nil)) (.cons (.var 1) (.cons (.bin .Sub (.var 2) (.int 1)) .nil))) (.cons (.var 6) (.cons (.var 7) .nil)))))) .nil
def Mp:ISs:=.cons (.ite (.cmp .Eq (.var 3) (.int 8)) Mo .nil) Mn
def Mq:ISs:=.cons (.set 7 (.call 1 (.call 0 (.var 0) (.cons (.int 3) .nil)) (.cons (.var 1) (.cons (.bin .Sub (.var 2) (.int 1)) .nil)))) Mp
def Mr:ISs:=.cons (.set 6 (.call 1 (.call 0 (.var 0) (.cons (.int 2) .nil)) (.cons (.var 1) (.cons (.bin .Sub (.var 2) (.int 1)) .nil)))) Mq
noncomputable def Ms:ISs:=.cons (.ret (.tup (.cons (.str "num") (.cons (.ix (.lst (.cons (.bin .Sub (.bin .Mod (.bin .FloorDiv (.var 4) (.int 8)) (.int 9)) (.int 4)) (.cons (.var 5) (.cons (.bin .Sub (.int 0) (.var 5)) (.cons (.bin .Mod (.bin .FloorDiv (.var 4) (.int 8)) (.int 2)) .nil))))) (.bin .Mod (.bin .FloorDiv (.var 4) (.int 128)) (.int 4))) .nil)))) .nil
def Ey:ISs:=.cons (.set 5 (.call 2 (.var 4) (.cons (.int 64) .nil))) Ms
noncomputable def Mt:ISs:=.cons (.ret (.tup (.cons (.str "var") (.cons (.ix (.var 1) (.bin .Mod (.bin .FloorDiv (.var 4) (.int 3)) (.bi .len (.var 1) .nil))) .nil)))) .nil
def Ez:ISs:=.cons (.ite (.and (.cmp .NotEq (.var 1) (.lst .nil)) (.cmp .Gt (.bin .Mod (.var 4) (.int 3)) (.int 0))) Mt .nil) Ey
def Mu:ISs:=.cons (.ite (.or (.cmp .Eq (.var 2) (.int 0)) (.cmp .Lt (.var 3) (.int 2))) Ez .nil) Mr
def Mv:ISs:=.cons (.set 4 (.call 0 (.var 0) (.cons (.int 1) .nil))) Mu
def Mw:ISs:=.cons (.set 3 (.bin .Mod (.var 0) (.int 9))) Mv
abbrev EA:ISs:=Mw
def Mx:GI:=⟨GB,GL,["_law_mix","_law_term","_law_word"],[],[],[]⟩
theorem _cK:chkSs Mx (X8 A9) ["number","own","deep","way","more","far","one","two"] EA (Xo A9)=true:=by decide+kernel
noncomputable def EB:ISs:=.cons (.ret (.tup (.cons (.str "put") (.cons (.ix (.var 3) (.bin .Mod (.bin .FloorDiv (.var 8) (.int 8)) (.bi .len (.var 3) .nil))) (.cons (.var 9) .nil))))) .nil
noncomputable def EC:ISs:=.cons (.ret (.tup (.cons (.str "jump") (.cons (.var 9) (.cons (.bin .Mod (.bin .FloorDiv (.var 8) (.int 512)) (.bin .Add (.var 4) (.int 1))) .nil))))) .nil
def ED:ISs:=.cons (.ite (.or (.cmp .Eq (.var 7) (.int 7)) (.cmp .Eq (.var 3) (.lst .nil))) EC .nil) EB
noncomputable def Mz:ISs:=.cons (.ret (.tup (.cons (.str "give") (.cons (.ix (.var 6) (.bin .Mod (.var 8) (.bi .len (.var 6) .nil))) (.cons (.var 9) .nil))))) .nil
def EE:ISs:=.cons (.ite (.and (.cmp .Lt (.var 7) (.int 6)) (.cmp .NotEq (.var 6) (.lst .nil))) Mz .nil) ED
def EF:ISs:=.cons (.set 9 (.call 1 (.call 0 (.var 0) (.cons (.int 6) .nil)) (.cons (.var 3) (.cons (.bin .Mod (.bin .FloorDiv (.var 8) (.int 64)) (.int 3)) .nil)))) EE
noncomputable def MA:ISs:=.cons (.ret (.tup (.cons (.str "take") (.cons (.ix (.var 5) (.bin .Mod (.var 8) (.bi .len (.var 5) .nil))) (.cons (.ix (.var 3) (.bin .Mod (.bin .FloorDiv (.var 8) (.int 8)) (.bi .len (.var 3) .nil))) .nil))))) .nil
def MB:ISs:=.cons (.ite (.and (.cmp .Lt (.var 7) (.int 3)) (.and (.cmp .NotEq (.var 5) (.lst .nil)) (.cmp .NotEq (.var 3) (.lst .nil)))) MA .nil) EF
def MC:ISs:=.cons (.set 8 (.call 0 (.var 0) (.cons (.int 5) .nil))) MB
def MD:ISs:=.cons (.set 7 (.bin .Mod (.var 0) (.int 8))) MC
def ME:ISs:=.cons (.set 6 (.comp ["ferry"] [1] (.seq (.var 2)) (.nm 0) (.some (.cmp .Eq (.ix (.var 0) (.int 1)) (.var 1))) (.ix (.var 0) (.int 0)))) MD
def MF:ISs:=.cons (.set 5 (.comp ["ferry"] [1] (.seq (.var 2)) (.nm 0) (.some (.cmp .Eq (.ix (.var 0) (.int 2)) (.var 1))) (.ix (.var 0) (.int 0)))) ME
abbrev EG:ISs:=MF
def MG:GI:=⟨GB,GL,["_law_mix","_law_term"],[],[],[]⟩
theorem _cL:chkSs MG (X8 Aa) ["number","name","ferries","own","many","takes","gives","way","more","term"] EG (Xo Aa)=true:=by decide+kernel
noncomputable def EH:ISs:=.cons (.ret (.var 3)) .nil
noncomputable def MI:ISs:=.cons (.expr (.mt .append (.var 3) (.cons (.bin .Add (.var 8) (.tup (.cons (.bin .Mod (.bin .FloorDiv (.var 5) (.int 64)) (.int 4)) (.cons (.bin .Add (.int 1) (.bin .Mod (.bin .FloorDiv (.var 5) (.int 256)) (.int 3))) .nil)))) .nil))) .nil
def MJ:ISs:=.cons (.set 8 (.tup (.cons (.ix (.var 1) (.bin .Add (.int 5) (.var 4))) (.cons (.ix (.var 1) (.var 6)) (.cons (.ix (.var 1) (.var 7)) .nil))))) MI
def MK:ISs:=.cons (.set 7 (.bin .Mod (.bin .Add (.bin .Add (.var 6) (.int 1)) (.bin .Mod (.bin .FloorDiv (.var 5) (.int 8)) (.bin .Sub (.var 2) (.int 1)))) (.var 2))) MJ
def ML:ISs:=.cons (.set 6 (.bin .Mod (.var 5) (.var 2))) MK
def MM:ISs:=.cons (.set 5 (.call 0 (.var 0) (.cons (.bin .Add (.int 10) (.var 4)) .nil))) ML
def MN:ISs:=.cons (.for_ (.nm 4) (.rng (.bin .Mod (.bin .FloorDiv (.var 0) (.int 8)) (.int 7))) MM) .nil
def MP:ISs:=.cons (.ite (.cmp .Gt (.var 2) (.int 1)) MN .nil) EH
def MQ:ISs:=.cons (.set 3 (.lst .nil)) MP
abbrev EI:ISs:=MQ
def MR:GI:=⟨GB,GL,["_law_mix"],[],[],[]⟩
theorem _ak:chkSs MR (X8 Ab) ["number","names","many","ferries","j","more","giver","taker","ends"] EI (Xo Ab)=true:=by decide+kernel
noncomputable def MS:ISs:=.cons (.ret (.tup (.cons (.var 6) (.cons (.var 8) (.cons (.var 7) .nil))))) .nil
noncomputable def MU:ISs:=.cons (.expr (.mt .append (.var 8) (.cons (.tup (.cons (.ix (.var 4) (.var 9)) (.cons (.var 14) (.cons (.var 15) .nil)))) .nil))) .nil
def MW:ISs:=.cons (.set 15 (.comp ["cell"] [7,11,13,4,9] (.seq (.sl (.var 12) .none (.some (.int 12)))) (.nm 0) .none (.call 4 (.call 2 (.var 0) (.cons (.int 4) .nil)) (.cons (.ix (.var 4) (.var 5)) (.cons (.var 1) (.cons (.var 2) (.cons (.var 3) .nil))))))) MU
def MX:ISs:=.cons (.set 14 (.comp ["j"] [11,6,10] (.rng (.bi .len (.var 11) .nil)) (.nm 0) .none (.tup (.cons (.ix (.var 1) (.var 0)) (.cons (.call 5 (.call 2 (.var 3) (.cons (.var 0) .nil)) (.cons (.var 2) .nil)) .nil))))) MW
def MY:ISs:=.cons (.set 13 (.bi .min (.bi .len (.var 12) .nil) (.cons (.int 12) .nil))) MX
def MZ:ISs:=.cons (.set 12 (.comp ["k"] [0,9,3,1] (.rng2 (.var 1) (.bi .len (.var 0) .nil)) (.nm 0) (.some (.cmp .Eq (.bin .Mod (.bin .Sub (.var 0) (.var 4)) (.var 3)) (.var 2))) (.bin .Mod (.ix (.var 1) (.var 0)) (.int 1000000007)))) MY
def N0:ISs:=.cons (.set 11 (.sl (.var 4) (.some (.int 11)) (.some (.bin .Add (.int 11) (.bin .Mod (.var 10) (.int 5)))))) MZ
def N1:ISs:=.cons (.set 10 (.call 2 (.var 5) (.cons (.bin .Add (.int 20) (.var 9)) .nil))) N0
def N2:ISs:=.cons (.for_ (.nm 9) (.rng (.var 3)) N1) MS
def N3:ISs:=.cons (.set 8 (.lst .nil)) N2
def N4:ISs:=.cons (.set 7 (.call 1 (.var 2) (.cons (.var 4) (.cons (.var 3) .nil)))) N3
def N5:ISs:=.cons (.set 6 (.ix (.lst (.cons (.bin .Add (.int 1) (.bin .Mod (.bin .FloorDiv (.var 5) (.int 4)) (.int 64))) (.cons (.int 64) (.cons (.bin .Add (.int 1) (.bin .Mod (.bin .FloorDiv (.var 5) (.int 4)) (.int 5))) (.cons (.int 8) .nil))))) (.bin .Mod (.var 5) (.int 4)))) N4
def N6:ISs:=.cons (.set 5 (.call 2 (.call 0 (.var 0) (.cons (.int 2) .nil)) (.cons (.int 3) .nil))) N5
def N7:ISs:=.cons (.set 4 (.call 3 (.call 2 (.call 0 (.var 0) (.cons (.int 1) .nil)) (.cons (.int 2) .nil)) (.cons (.int 15) .nil))) N6
def N8:ISs:=.cons (.set 3 (.ix (.lst (.cons (.int 2) (.cons (.int 3) (.cons (.int 4) (.cons (.int 5) (.cons (.int 2) (.cons (.int 3) (.cons (.int 1) (.cons (.int 0) .nil))))))))) (.bin .Mod (.var 2) (.int 8)))) N7
def N9:ISs:=.cons (.set 2 (.call 2 (.call 0 (.var 0) (.cons (.int 0) .nil)) (.cons (.int 1) .nil))) N8
abbrev EJ:ISs:=N9
def Na:GI:=⟨GB,GL,["_law_cell","_law_ferries","_law_mix","_law_names","_law_step","_law_word"],[],[],[]⟩
theorem _bV:chkSs Na (X8 Ac) ["script","start","head","many","names","size","width","ferries","islands","i","more","own","cells","long","pairs","steps"] EJ (Xo Ac)=true:=by decide+kernel
noncomputable def Nb:IXs:=.cons (.rt 0 (.ix (.var 0) (.int 0)) (.cons (.var 1) (.cons (.bi .list (.ix (.var 0) (.int 2)) .nil) .nil))) .nil
def Nc:IXs:=.cons (.pl (.set 1 (.comp ["name","pairs","steps"] [] (.seq (.ix (.var 0) (.int 1))) (.tup (.cons (.nm 0) (.cons (.nm 1) (.cons (.nm 2) .nil)))) .none (.tup (.cons (.var 0) (.cons (.bi .list (.var 1) .nil) (.cons (.bi .list (.var 2) .nil) .nil))))))) Nb
abbrev EK:IXs:=Nc
def Nd:GI:=⟨GB,GL,[],[],[],[]⟩
def Nf:GX:={g:=Nd,xf:=["made"],xc:=XC}
theorem _cM:chkXs Nf (X8 Ad) ["parts","islands"] EK (Xo Ad)=true:=by decide+kernel
noncomputable def Ng:ISs:=.cons (.ret (.bin .Add (.bin .Add (.sl (.var 1) .none (.some (.var 2))) (.ix (.str "A_-1 z~.") (.bin .Mod (.bin .FloorDiv (.var 0) (.int 64)) (.int 5)))) (.sl (.var 1) (.some (.bin .Add (.var 2) (.int 1))) .none))) .nil
noncomputable def Nh:ISs:=.cons (.ret (.bin .Add (.var 1) (.sl (.str "abcdefgh") .none (.some (.bin .Sub (.int 9) (.bi .len (.var 1) .nil)))))) .nil
def Ni:ISs:=.cons (.ite (.cmp .Eq (.bin .Mod (.var 0) (.int 4)) (.int 1)) Nh .nil) Ng
noncomputable def Nj:ISs:=.cons (.ret (.str "")) .nil
def Nk:ISs:=.cons (.ite (.cmp .Eq (.bin .Mod (.var 0) (.int 4)) (.int 0)) Nj .nil) Ni
def Nl:ISs:=.cons (.set 2 (.bin .Mod (.bin .FloorDiv (.var 0) (.int 4)) (.bin .Add (.bi .len (.var 1) .nil) (.int 1)))) Nk
abbrev EL:ISs:=Nl
def Nm:GI:=⟨GB,GL,[],[],[],[]⟩
theorem _9A:chkSs Nm (X8 Ae) ["number","name","at"] EL (Xo Ae)=true:=by decide+kernel
noncomputable def ZbQ:ISs:=.cons (.ret (.str "")) .nil
noncomputable def Nn:ISs:=.cons (.ret (.bin .Add (.sl (.var 0) .none (.some (.int 7))) (.var 2))) .nil
def No:ISs:=.cons (.ite (.cmp .NotIn (.bin .Add (.sl (.var 0) .none (.some (.int 7))) (.var 2)) (.var 1)) Nn .nil) .nil
def Np:ISs:=.cons (.for_ (.nm 2) (.seq (.str "abcdefghijklmnopqrstuvwxyz")) No) ZbQ
abbrev EM:ISs:=Np
def Nq:GI:=⟨GB,GL,[],[],[],[]⟩
theorem _bX:chkSs Nq (X8 Af) ["stem","known","sign"] EM (Xo Af)=true:=by decide+kernel
noncomputable def Nr:ISs:=.cons (.ret (.bin .Add (.bin .Add (.sl (.var 0) .none (.some (.var 1))) (.lst (.cons (.var 2) .nil))) (.sl (.var 0) (.some (.bin .Add (.var 1) (.int 1))) .none))) .nil
abbrev EN:ISs:=Nr
def Nt:GI:=⟨GB,GL,[],[],[],[]⟩
theorem _8R:chkSs Nt (X8 Ag) ["things","at","thing"] EN (Xo Ag)=true:=by decide+kernel
noncomputable def Nu:ISs:=.cons (.ret (.tup (.cons (.tup (.cons (.var 3) (.cons (.call 0 (.var 4) (.cons (.var 2) (.cons (.tup (.cons (.var 6) (.cons (.var 7) (.cons (.var 8) .nil)))) .nil))) (.cons (.var 5) .nil)))) (.cons (.ix (.lst (.cons (.str "Unknown") (.cons (.str "NoStep") .nil))) (.bin .Mod (.var 9) (.int 2))) .nil)))) .nil
def EO:ISs:=.cons (.set 8 (.bin .Add (.bin .Add (.sl (.var 8) .none (.some (.var 10))) (.lst (.cons (.var 13) .nil))) (.sl (.var 8) (.some (.bin .Add (.var 10) (.int 1))) .none))) Nu
def Nv:ISs:=.cons (.set 13 (.ix (.bin .Add (.var 12) (.lst (.cons (.tup (.cons (.str "jump") (.cons (.tup (.cons (.str "num") (.cons (.int 1) .nil))) (.cons (.bin .Sub (.neg (.int 1)) (.bin .Mod (.var 9) (.int 9))) .nil)))) .nil))) (.bin .Mod (.var 9) (.int 4)))) EO
def Nw:ISs:=.cons (.set 12 (.lst (.cons (.tup (.cons (.str "put") (.cons (.var 11) (.cons (.tup (.cons (.str "num") (.cons (.int 0) .nil))) .nil)))) (.cons (.tup (.cons (.str "jump") (.cons (.tup (.cons (.str "num") (.cons (.int 1) .nil))) (.cons (.bin .Add (.int 13) (.bin .Mod (.var 9) (.int 100))) .nil)))) (.cons (.tup (.cons (.str "jump") (.cons (.tup (.cons (.str "var") (.cons (.var 11) .nil))) (.cons (.int 0) .nil)))) .nil))))) Nv
def Ny:ISs:=.cons (.set 11 (.call 1 (.str "v") (.cons (.comp ["pair"] [] (.seq (.var 7)) (.nm 0) .none (.ix (.var 0) (.int 0))) .nil))) Nw
def Nz:ISs:=.cons (.set 10 (.bin .Mod (.bin .FloorDiv (.var 9) (.int 8)) (.bin .Add (.int 1) (.bi .min (.bi .len (.var 8) .nil) (.cons (.int 11) .nil))))) Ny
def NA:ISs:=.cons (.set 9 (.call 2 (.var 0) (.cons (.int 2) .nil))) Nz
def NB:ISs:=.cons (.asg (.cons (.nm 6) (.cons (.nm 7) (.cons (.nm 8) .nil))) (.ix (.var 4) (.var 2))) NA
def NC:ISs:=.cons (.asg (.cons (.nm 3) (.cons (.nm 4) (.cons (.nm 5) .nil))) (.var 1)) NB
abbrev EQ:ISs:=NC
def ND:GI:=⟨GB,GL,["_law_exchanged","_law_fresh","_law_mix"],[],[],[]⟩
theorem _8p:chkSs ND (X8 Ah) ["number","parts","at","width","islands","ferries","name","pairs","steps","more","k","none","some","step"] EQ (Xo Ah)=true:=by decide+kernel
noncomputable def Aq:ISs:=.cons (.ret (.tup (.cons (.tup (.cons (.var 3) (.cons (.call 1 (.var 4) (.cons (.var 2) (.cons (.tup (.cons (.var 6) (.cons (.var 7) (.cons (.var 8) .nil)))) .nil))) (.cons (.var 5) .nil)))) (.cons (.var 11) .nil)))) .nil
noncomputable def ER:ISs:=.cons (.set 6 (.call 0 (.var 10) (.cons (.var 6) .nil))) .nil
noncomputable def NE:ISs:=.cons (.set 11 (.str "Twice")) .nil
def NF:ISs:=.cons (.set 6 (.ix (.var 12) (.bin .Mod (.var 10) (.bi .len (.var 12) .nil)))) NE
noncomputable def NG:ISs:=.cons (.set 11 (.str "TooMany")) .nil
def NH:ISs:=.cons (.set 7 (.bin .Add (.var 7) (.comp ["k"] [] (.rng (.bin .Sub (.int 7) (.bi .len (.var 7) .nil))) (.nm 0) .none (.tup (.cons (.str "") (.cons (.bin .Sub (.int 0) (.int 1)) .nil)))))) NG
noncomputable def NI:ISs:=.cons (.set 11 (.str "TooMany")) .nil
def NJ:ISs:=.cons (.set 8 (.bin .Add (.var 8) (.comp ["k"] [] (.rng (.bin .Sub (.int 13) (.bi .len (.var 8) .nil))) (.nm 0) .none (.tup (.cons (.str "take") (.cons (.str "") (.cons (.str "") .nil))))))) NI
noncomputable def NK:ISs:=.cons (.set 11 (.str "Twice")) .nil
def NL:ISs:=.cons (.set 7 (.bin .Add (.var 7) (.lst (.cons (.tup (.cons (.ix (.ix (.var 7) (.bin .Mod (.var 10) (.bi .len (.var 7) .nil))) (.int 0)) (.cons (.int 0) .nil))) .nil)))) NK
noncomputable def NM:ISs:=.cons (.set 11 (.str "NoWord")) .nil
def NN:ISs:=.cons (.set 7 (.bin .Add (.bin .Add (.sl (.var 7) .none (.some (.int 1))) (.lst (.cons (.tup (.cons (.var 13) (.cons (.ix (.lst (.cons (.bin .Sub (.neg (.int 1)) (.var 10)) (.cons (.bin .Add (.bin .LShift (.int 1) (.var 3)) (.var 10)) .nil))) (.bin .Mod (.bin .FloorDiv (.var 10) (.int 8)) (.int 2))) .nil))) .nil))) (.sl (.var 7) (.some (.int 1)) .none))) NM
def NO:ISs:=.cons (.set 13 (.call 2 (.var 6) (.cons (.comp ["pair"] [] (.seq (.var 7)) (.nm 0) .none (.ix (.var 0) (.int 0))) .nil))) NN
noncomputable def NP:ISs:=.cons (.set 7 (.bin .Add (.lst (.cons (.tup (.cons (.call 0 (.var 10) (.cons (.str "ab") .nil)) (.cons (.int 0) .nil))) .nil)) (.var 7))) .nil
def ES:ISs:=.cons (.ite (.cmp .Eq (.var 9) (.int 5)) NO NP) .nil
def NQ:ISs:=.cons (.ite (.and (.cmp .Eq (.var 9) (.int 4)) (.cmp .NotEq (.var 7) (.lst .nil))) NL ES) .nil
def NR:ISs:=.cons (.ite (.cmp .Eq (.var 9) (.int 3)) NJ NQ) .nil
def NS:ISs:=.cons (.ite (.cmp .Eq (.var 9) (.int 2)) NH NR) .nil
def ET:ISs:=.cons (.ite (.cmp .Eq (.var 9) (.int 1)) NF NS) .nil
def NT:ISs:=.cons (.ite (.or (.cmp .Eq (.var 9) (.int 0)) (.and (.cmp .Eq (.var 9) (.int 1)) (.cmp .Eq (.var 12) (.lst .nil)))) ER ET) Aq
def NU:ISs:=.cons (.set 12 (.bin .Add (.comp ["ferry"] [] (.seq (.var 5)) (.nm 0) .none (.ix (.var 0) (.int 0))) (.comp ["island"] [] (.seq (.sl (.var 4) .none (.some (.var 2)))) (.nm 0) .none (.ix (.var 0) (.int 0))))) NT
def NV:ISs:=.cons (.set 11 (.str "NoName")) NU
def NW:ISs:=.cons (.set 10 (.call 3 (.var 0) (.cons (.int 2) .nil))) NV
def NX:ISs:=.cons (.set 9 (.bin .Mod (.var 0) (.int 7))) NW
noncomputable def NY:ISs:=.cons (.ret (.call 4 (.var 0) (.cons (.var 1) (.cons (.var 2) .nil)))) .nil
def NZ:ISs:=.cons (.ite (.cmp .Gt (.bin .Mod (.var 0) (.int 9)) (.int 6)) NY .nil) NX
def O0:ISs:=.cons (.asg (.cons (.nm 6) (.cons (.nm 7) (.cons (.nm 8) .nil))) (.ix (.var 4) (.var 2))) NZ
def O1:ISs:=.cons (.asg (.cons (.nm 3) (.cons (.nm 4) (.cons (.nm 5) .nil))) (.var 1)) O0
abbrev EU:ISs:=O1
def O2:GI:=⟨GB,GL,["_law_bad_name","_law_exchanged","_law_fresh","_law_mix","_law_wrong_step"],[],[],[]⟩
theorem _6u:chkSs O2 (X8 Ai) ["number","parts","at","width","islands","ferries","name","pairs","steps","way","more","fault","others","own"] EU (Xo Ai)=true:=by decide+kernel
noncomputable def O3:ISs:=.cons (.ret (.tup (.cons (.tup (.cons (.var 3) (.cons (.var 4) (.cons (.call 0 (.var 5) (.cons (.var 2) (.cons (.ix (.var 14) (.bin .Mod (.var 0) (.int 5))) .nil))) .nil)))) (.cons (.var 15) .nil)))) .nil
def EV:ISs:=.cons (.set 15 (.ix (.lst (.cons (.str "Unknown") (.cons (.str "Unknown") (.cons (.str "NoFerry") (.cons (.str "NoFerry") (.cons (.str "NoFerry") .nil)))))) (.bin .Mod (.var 0) (.int 5)))) O3
def O4:ISs:=.cons (.set 14 (.bin .Add (.var 14) (.lst (.cons (.tup (.cons (.var 6) (.cons (.var 7) (.cons (.var 8) (.cons (.var 9) (.cons (.ix (.lst (.cons (.bin .Add (.int 4) (.var 12)) (.cons (.bin .Sub (.int 0) (.var 12)) .nil))) (.bin .Mod (.var 11) (.int 2))) .nil)))))) .nil)))) EV
def O5:ISs:=.cons (.set 14 (.bin .Add (.var 14) (.lst (.cons (.tup (.cons (.var 6) (.cons (.var 7) (.cons (.var 8) (.cons (.ix (.lst (.cons (.bin .Add (.int 4) (.var 12)) (.cons (.bin .Sub (.neg (.int 1)) (.var 12)) .nil))) (.bin .Mod (.var 11) (.int 2))) (.cons (.var 10) .nil)))))) .nil)))) O4
def O6:ISs:=.cons (.set 14 (.lst (.cons (.tup (.cons (.var 6) (.cons (.var 13) (.cons (.var 8) (.cons (.var 9) (.cons (.var 10) .nil)))))) (.cons (.tup (.cons (.var 6) (.cons (.var 7) (.cons (.var 13) (.cons (.var 9) (.cons (.var 10) .nil)))))) (.cons (.tup (.cons (.var 6) (.cons (.var 7) (.cons (.var 7) (.cons (.var 9) (.cons (.var 10) .nil)))))) .nil))))) O5
def O7:ISs:=.cons (.set 13 (.call 1 (.var 7) (.cons (.comp ["island"] [] (.seq (.var 4)) (.nm 0) .none (.ix (.var 0) (.int 0))) .nil))) O6
def O8:ISs:=.cons (.set 12 (.bin .Mod (.var 11) (.bin .Pow (.int 10) (.int 6)))) O7
def O9:ISs:=.cons (.set 11 (.call 2 (.var 0) (.cons (.int 2) .nil))) O8
def Oa:ISs:=.cons (.asg (.cons (.nm 6) (.cons (.nm 7) (.cons (.nm 8) (.cons (.nm 9) (.cons (.nm 10) .nil))))) (.ix (.var 5) (.var 2))) O9
def Ob:ISs:=.cons (.asg (.cons (.nm 3) (.cons (.nm 4) (.cons (.nm 5) .nil))) (.var 1)) Oa
abbrev EW:ISs:=Ob
def Oc:GI:=⟨GB,GL,["_law_exchanged","_law_fresh","_law_mix"],[],[],[]⟩
theorem _8S:chkSs Oc (X8 Aj) ["number","parts","at","width","islands","ferries","name","giver","taker","k","stages","more","far","none","ends","fault"] EW (Xo Aj)=true:=by decide+kernel
noncomputable def Od:ISs:=.cons (.ret (.tup (.cons (.tup (.cons (.var 2) (.cons (.var 3) (.cons (.var 4) .nil)))) (.cons (.str "NoFerry") .nil)))) .nil
def Oe:ISs:=.cons (.set 3 (.call 0 (.var 3) (.cons (.mt .index (.var 3) (.cons (.var 8) .nil)) (.cons (.tup (.cons (.ix (.var 8) (.int 0)) (.cons (.ix (.var 8) (.int 1)) (.cons (.var 11) .nil)))) .nil)))) Od
def Of:ISs:=.cons (.set 11 (.bin .Add (.bin .Add (.sl (.ix (.var 8) (.int 2)) .none (.some (.var 10))) (.lst (.cons (.var 9) .nil))) (.sl (.ix (.var 8) (.int 2)) (.some (.bin .Add (.var 10) (.int 1))) .none))) Oe
def BK:ISs:=.cons (.set 10 (.bin .Mod (.call 1 (.var 0) (.cons (.int 3) .nil)) (.int 12))) Of
noncomputable def Og:ISs:=.cons (.set 9 (.tup (.cons (.str "take") (.cons (.ix (.var 5) (.int 0)) (.cons (.ix (.ix (.ix (.var 8) (.int 1)) (.int 0)) (.int 0)) .nil))))) .nil
def Oh:ISs:=.cons (.set 8 (.ix (.var 7) (.bin .Mod (.call 1 (.var 0) (.cons (.int 2) .nil)) (.bi .len (.var 7) .nil)))) Og
def Oi:ISs:=.cons (.ite (.and (.cmp .Eq (.bin .Mod (.bin .FloorDiv (.var 0) (.int 2)) (.int 2)) (.int 1)) (.cmp .NotEq (.var 7) (.lst .nil))) Oh .nil) BK
def Oj:ISs:=.cons (.set 9 (.tup (.cons (.str "give") (.cons (.ix (.var 5) (.int 0)) (.cons (.tup (.cons (.str "num") (.cons (.bin .Mod (.var 0) (.int 5)) .nil))) .nil))))) Oi
def Ol:ISs:=.cons (.set 8 (.ix (.var 6) (.bin .Mod (.call 1 (.var 0) (.cons (.int 2) .nil)) (.bi .len (.var 6) .nil)))) Oj
def Om:ISs:=.cons (.set 7 (.comp ["island"] [5] (.seq (.var 3)) (.nm 0) (.some (.and (.cmp .NotEq (.ix (.var 0) (.int 0)) (.ix (.var 1) (.int 2))) (.cmp .NotEq (.ix (.var 0) (.int 1)) (.lst .nil)))) (.var 0))) Ol
def On:ISs:=.cons (.set 6 (.comp ["island"] [5] (.seq (.var 3)) (.nm 0) (.some (.cmp .NotEq (.ix (.var 0) (.int 0)) (.ix (.var 1) (.int 1)))) (.var 0))) Om
def Oo:ISs:=.cons (.set 5 (.ix (.var 4) (.bin .Mod (.call 1 (.var 0) (.cons (.int 1) .nil)) (.bi .len (.var 4) .nil)))) On
def Op:ISs:=.cons (.asg (.cons (.nm 2) (.cons (.nm 3) (.cons (.nm 4) .nil))) (.var 1)) Oo
abbrev EX:ISs:=Op
def Oq:GI:=⟨GB,GL,["_law_exchanged","_law_mix"],[],[],[]⟩
theorem _8q:chkSs Oq (X8 Ak) ["number","parts","width","islands","ferries","ferry","wrong","others","island","step","at","steps"] EX (Xo Ak)=true:=by decide+kernel
noncomputable def EY:ISs:=.cons (.ret (.tup (.cons (.tup (.cons (.var 3) (.cons (.var 4) (.cons (.call 2 (.var 5) (.cons (.var 8) (.cons (.bin .Add (.tup (.cons (.var 9) .nil)) (.sl (.ix (.var 5) (.var 8)) (.some (.int 1)) .none)) .nil))) .nil)))) (.cons (.var 10) .nil)))) .nil
noncomputable def Os:ISs:=.cons (.set 10 (.str "Twice")) .nil
def Ot:ISs:=.cons (.set 9 (.ix (.ix (.var 5) (.bin .Mod (.call 4 (.var 1) (.cons (.int 6) .nil)) (.var 8))) (.int 0))) Os
def Ou:ISs:=.cons (.ite (.and (.cmp .Gt (.var 8) (.int 0)) (.cmp .Eq (.bin .Mod (.var 1) (.int 2)) (.int 0))) Ot .nil) EY
def Ov:ISs:=.cons (.set 10 (.str "NoName")) Ou
def Ow:ISs:=.cons (.set 9 (.call 0 (.call 4 (.var 1) (.cons (.int 5) .nil)) (.cons (.ix (.ix (.var 5) (.var 8)) (.int 0)) .nil))) Ov
def Ox:ISs:=.cons (.set 8 (.bin .Mod (.var 6) (.bi .len (.var 5) .nil))) Ow
noncomputable def Oy:ISs:=.cons (.ret (.call 5 (.var 1) (.cons (.var 2) .nil))) .nil
def Oz:ISs:=.cons (.ite (.cmp .Eq (.var 0) (.int 5)) Oy .nil) Ox
noncomputable def OA:ISs:=.cons (.ret (.call 1 (.var 1) (.cons (.var 2) (.cons (.bin .Mod (.call 4 (.var 1) (.cons (.int 1) .nil)) (.bi .len (.var 5) .nil)) .nil)))) .nil
def OB:ISs:=.cons (.ite (.cmp .Eq (.var 0) (.int 4)) OA .nil) Oz
noncomputable def EZ:ISs:=.cons (.ret (.tup (.cons (.var 2) (.cons (.str "") .nil)))) .nil
def F5:ISs:=.cons (.ite (.or (.cmp .Eq (.var 5) (.lst .nil)) (.cmp .Eq (.var 0) (.int 3))) EZ .nil) OB
noncomputable def OC:ISs:=.cons (.ret (.call 3 (.var 1) (.cons (.var 2) (.cons (.bin .Mod (.call 4 (.var 1) (.cons (.int 1) .nil)) (.bi .len (.var 4) .nil)) .nil)))) .nil
def OD:ISs:=.cons (.ite (.and (.cmp .Eq (.var 0) (.int 3)) (.cmp .NotEq (.var 4) (.lst .nil))) OC .nil) F5
noncomputable def OE:ISs:=.cons (.ret (.tup (.cons (.tup (.cons (.var 3) (.cons (.var 4) (.cons (.bin .Add (.var 5) (.comp ["k"] [] (.rng (.bin .Sub (.bin .Add (.int 7) (.bin .Mod (.var 6) (.int 3))) (.bi .len (.var 5) .nil))) (.nm 0) .none (.tup (.cons (.str "") (.cons (.str "") (.cons (.str "") (.cons (.int 9) (.cons (.int 9) .nil)))))))) .nil)))) (.cons (.str "TooMany") .nil)))) .nil
def BL:ISs:=.cons (.ite (.cmp .Eq (.var 0) (.int 1)) OE .nil) OD
noncomputable def OF:ISs:=.cons (.ret (.tup (.cons (.tup (.cons (.var 3) (.cons (.bin .Add (.var 4) (.var 7)) (.cons (.var 5) .nil)))) (.cons (.str "TooMany") .nil)))) .nil
def OG:ISs:=.cons (.set 7 (.comp ["k"] [] (.rng (.bin .Sub (.bin .Add (.int 6) (.bin .Mod (.var 6) (.int 3))) (.bi .len (.var 4) .nil))) (.nm 0) .none (.tup (.cons (.str "") (.cons (.lst .nil) (.cons (.lst .nil) .nil)))))) OF
def OH:ISs:=.cons (.ite (.and (.cmp .Eq (.var 0) (.int 1)) (.cmp .Eq (.bin .Mod (.var 1) (.int 2)) (.int 0))) OG .nil) BL
noncomputable def OI:ISs:=.cons (.ret (.tup (.cons (.tup (.cons (.ix (.lst (.cons (.int 0) (.cons (.bin .Sub (.neg (.int 1)) (.var 6)) (.cons (.bin .Add (.int 65) (.var 6)) .nil)))) (.bin .Mod (.var 1) (.int 3))) (.cons (.var 4) (.cons (.var 5) .nil)))) (.cons (.str "NoWidth") .nil)))) .nil
def OJ:ISs:=.cons (.ite (.cmp .Eq (.var 0) (.int 0)) OI .nil) OH
def OK:ISs:=.cons (.set 6 (.call 4 (.var 1) (.cons (.int 4) .nil))) OJ
def OL:ISs:=.cons (.asg (.cons (.nm 3) (.cons (.nm 4) (.cons (.nm 5) .nil))) (.var 2)) OK
abbrev F6:ISs:=OL
def OM:GI:=⟨GB,GL,["_law_bad_name","_law_end_fault","_law_exchanged","_law_island_fault","_law_mix","_law_step_fault"],[],[],[]⟩
theorem _bY:chkSs OM (X8 Al) ["rank","number","parts","width","islands","ferries","more","extra","at","name","fault"] F6 (Xo Al)=true:=by decide+kernel
noncomputable def BM:ISs:=.cons (.ret (.tup (.cons (.var 5) (.cons (.var 7) .nil)))) .nil
noncomputable def ON:ISs:=.cons (.set 7 (.var 8)) .nil
def F7:ISs:=.cons (.ite (.cmp .NotEq (.var 8) (.str "")) ON .nil) .nil
def OO:ISs:=.cons (.asg (.cons (.nm 5) (.cons (.nm 8) .nil)) (.call 1 (.bi .min (.bin .Mod (.var 0) (.int 6)) (.cons (.bin .Mod (.var 1) (.int 6)) .nil)) (.cons (.bin .FloorDiv (.var 0) (.int 6)) (.cons (.var 5) .nil)))) F7
def F8:ISs:=.cons (.ite (.cmp .NotEq (.bin .Mod (.var 0) (.int 6)) (.bin .Mod (.var 1) (.int 6))) OO .nil) BM
def F9:ISs:=.cons (.asg (.cons (.nm 5) (.cons (.nm 7) .nil)) (.call 1 (.bi .max (.bin .Mod (.var 0) (.int 6)) (.cons (.bin .Mod (.var 1) (.int 6)) .nil)) (.cons (.bin .FloorDiv (.var 1) (.int 6)) (.cons (.var 2) .nil)))) F8
noncomputable def OP:ISs:=.cons (.ret (.call 0 (.bin .FloorDiv (.var 0) (.int 144)) (.cons (.var 5) (.cons (.bin .Mod (.call 3 (.var 0) (.cons (.int 9) .nil)) (.var 4)) .nil)))) .nil
def OQ:ISs:=.cons (.asg (.cons (.nm 5) (.cons (.nm 6) .nil)) (.call 0 (.bin .FloorDiv (.var 1) (.int 6)) (.cons (.var 2) (.cons (.var 4) .nil)))) OP
def OR:ISs:=.cons (.set 4 (.bin .Add (.int 1) (.bin .Mod (.call 3 (.var 1) (.cons (.int 8) .nil)) (.bin .Sub (.bi .len (.ix (.var 2) (.int 2)) .nil) (.int 1))))) OQ
def Fa:ISs:=.cons (.ite (.and (.cmp .Eq (.var 3) (.int 2)) (.cmp .Gt (.bi .len (.ix (.var 2) (.int 2)) .nil) (.int 1))) OR .nil) F9
noncomputable def OS:ISs:=.cons (.ret (.call 2 (.bin .FloorDiv (.var 0) (.int 144)) (.cons (.var 5) (.cons (.bin .Mod (.call 3 (.var 0) (.cons (.int 9) .nil)) (.var 4)) .nil)))) .nil
def OT:ISs:=.cons (.asg (.cons (.nm 5) (.cons (.nm 6) .nil)) (.call 2 (.bin .FloorDiv (.var 1) (.int 6)) (.cons (.var 2) (.cons (.var 4) .nil)))) OS
def OU:ISs:=.cons (.set 4 (.bin .Add (.int 1) (.bin .Mod (.call 3 (.var 1) (.cons (.int 8) .nil)) (.bin .Sub (.bi .len (.ix (.var 2) (.int 1)) .nil) (.int 1))))) OT
def OV:ISs:=.cons (.ite (.and (.cmp .Eq (.var 3) (.int 1)) (.cmp .Gt (.bi .len (.ix (.var 2) (.int 1)) .nil) (.int 1))) OU .nil) Fa
def OW:ISs:=.cons (.set 3 (.bin .Mod (.bin .FloorDiv (.var 0) (.int 36)) (.int 4))) OV
abbrev Fb:ISs:=OW
def OX:GI:=⟨GB,GL,["_law_end_fault","_law_fault","_law_island_fault","_law_mix"],[],[],[]⟩
theorem _aj:chkSs OX (X8 Am) ["one","two","parts","both","late","spoiled","later","fault","first"] Fb (Xo Am)=true:=by decide+kernel
noncomputable abbrev Fc:List IT:=[.pl (.set 1 (.lst .nil)),.tr ⟨none,0,(.var 0),.nil,2,1,["ValueError","NoName","Twice","NoWidth","NoWord","TooMany","Unknown","NoFerry","NoStep","NoCode","NoText"]⟩,.pl (.ret (.var 1))]
def OY:GI:=⟨GB,GL,[],[],[],[]⟩
def OZ:GX:={g:=OY,xf:=["_law_made"],xc:=XC}
theorem _dH:BG OZ XB (X8 An) ["parts","kin","e"] Fc (Xo An)=true:=by decide+kernel
noncomputable def Fd:ISs:=.cons (.ret (.and (.cmp .Eq (.call 1 (.var 4) .nil) (.var 7)) (.cmp .Eq (.call 1 (.var 1) .nil) (.lst .nil)))) .nil
noncomputable def P0:ISs:=.cons (.set 7 (.bin .Add (.lst (.cons (.bl true) .nil)) (.comp ["name"] [5] (.seq (.var 6)) (.nm 0) .none (.cmp .Eq (.var 0) (.var 1))))) .nil
def P1:ISs:=.cons (.ite (.cmp .NotEq (.var 5) (.str "")) P0 .nil) Fd
def P2:ISs:=.cons (.set 7 (.lst .nil)) P1
def Fe:ISs:=.cons (.set 6 (.lst (.cons (.str "NoName") (.cons (.str "Twice") (.cons (.str "NoWidth") (.cons (.str "NoWord") (.cons (.str "TooMany") (.cons (.str "Unknown") (.cons (.str "NoFerry") (.cons (.str "NoStep") (.cons (.str "NoCode") (.cons (.str "NoText") .nil)))))))))))) P2
def P3:ISs:=.cons (.asg (.cons (.nm 4) (.cons (.nm 5) .nil)) (.call 3 (.var 2) (.cons (.var 3) (.cons (.var 1) .nil)))) Fe
def P4:ISs:=.cons (.set 3 (.call 2 (.call 0 (.var 0) (.cons (.int 4) .nil)) (.cons (.int 6) .nil))) P3
def P5:ISs:=.cons (.set 2 (.call 2 (.call 0 (.var 0) (.cons (.int 3) .nil)) (.cons (.int 5) .nil))) P4
def P6:ISs:=.cons (.set 1 (.call 4 (.var 0) (.cons (.int 5) .nil))) P5
abbrev Ff:ISs:=P6
def P7:GI:=⟨GB,GL,["_law_cell","_law_kin","_law_mix","_law_spoiled","_law_world"],[],[],[]⟩
theorem _mA:chkSs P7 (X8 Ao) ["script","parts","one","two","spoiled","fault","names","due"] Ff (Xo Ao)=true:=by decide+kernel
theorem szl:sizeLine=16777216:=by decide
theorem na10:Int.natAbs 10=10:=rfl
theorem na1:Int.natAbs 1=1:=rfl
theorem at0{j:Type}{x:j}{l:List j}:atI (x::l) 0=some x:=by unfold atI ixN;simp
theorem at1{l:Type}{x y:l}{u:List l}:atI (x::y::u) 1=some y:=Xv (j:=1) (by rfl)
theorem at2{l:Type}{x y z:l}{u:List l}:atI (x::y::z::u) 2=some z:=Xv (j:=2) (by rfl)
theorem at3{l:Type}{x y z u:l}{w:List l}:atI (x::y::z::u::w) 3=some u:=Xv (j:=3) (by rfl)
theorem at4{l:Type}{x y z u v:l}{w:List l}:atI (x::y::z::u::v::w) 4=some v:=Xv (j:=4) (by rfl)
theorem P8{a b:String}:(YQ a=YQ b)↔a=b:=by
 constructor
 .intro h;rw[Str.ofString_eq_toList,Str.ofString_eq_toList]at h;have u:a.toList.map Bj=b.toList.map Bj:=by
   have:=congrArg (λs:Str=>s.cps.toList) h
   simpa using this
  have inj:∀(l j:List Char),l.map Bj=j.map Bj->l=j:=by
   intro l
   induction l with
   |nil=>
    intro j e;cases j with
    |nil=>rfl
    |cons _ _=>cases e
   |cons x r w=>
    intro j e;cases j with
    |nil=>cases e
    |cons y s=>
     rw[Xp,Xp]at e;injection e with e1 e2;rw[w s e2,Char.toNat_inj.mp e1]
  exact String.toList_inj.mp (inj _ _ u)
 .intro h;rw[h]
theorem Xe{c A B:Prop} [Decidable c] (h1:c->A)(h2:¬c->B):if c then A else B:=by
 split
 .exact h1 ‹_›
 .exact h2 ‹_›
local macro_rules|`(tactic|walk_at "s")=>do
 let a<-("seval _mK _kP x_pl x_rs x_rf x_cl x_rt DK _mM _mN _kW t_pl t_tr SE.val _hN sto0 _mJ List.map_cons List.map_nil szl na10 na1 Nat.zero_add Nat.reduceAdd Nat.zero_le at0 at1 at2 at3 at4 P8 Xb _mW _l6 _mV _mU _mZ _l5 _mX _mY v_s b_0 f_s _o6 _oc _o8 e_bl _od e_ty _og _oa _o9 _oe _of _oh e_or _o7 _ob e_ix e_sl _mw e_bi e_b2 e_mt _mu _ko _lZ _lY _nc _n9 _nb _na isTy _nL _nd _nx _ly Je _no _nk _lB _ln _lA _lC q_lt q_le _ny q_gt _nI _nw _nG _nu _lx _jj _nf _n6 _np _nH _nv q_in _nt _nB _lv _ji _nz _nC _nA _nj _lh _nh _ni _lt _lr _ls _jh _nD _lw _n5 _n3 _n2 _n4 _le _jf _jg _lf _jk _nK _nJ _lz _nF _lm _ll _lk _nE _ns _lu _nl _ng _lg _n8 _n7 _nr _nq _ne _nm _nn _li _lj _lq _lp Wt CMul CPow List.getElem?_cons_zero List.getElem?_cons_succ Option.some.injEq MV.int.injEq MV.str.injEq MV.bl.injEq MV.tup.injEq MV.ref.injEq MO.lst.injEq Prod.mk.injEq exists_eq_left' exists_and_left true_and and_true false_and and_false true_or or_true false_or or_false reduceCtorEq ne_eq not_false_eq_true not_true_eq_false List.set_cons_zero List.set_cons_succ decide_eq_true_eq Bool.not_eq_true' decide_eq_false_iff_not if_true if_false Bool.false_eq_true reduceIte List.length_cons List.length_nil and_self String.reduceEq String.reduceNe Int.reduceLT Int.reduceLE Int.reducePow Int.reduceNeg Int.reduceToNat Int.reduceSub Int.reduceAdd Int.reduceMul Nat.reduceLT Nat.reducePow Nat.reduceLeDiff".splitOn " ").toArray.mapM λs=>`(Lean.Parser.Tactic.simpLemma|$(Lean.mkIdent s.toName):term)
 `(tactic|simp only[$[$a:simpLemma],*])
local macro_rules|`(tactic|simp!)=>`(tactic|walk_at "s")
local macro_rules|`(tactic|simp! [$l,*])=>`(tactic|repeat (first|walk_at "s"|simp only [$l,*]))
theorem _kn{j:Sort _}{p q:j->Prop}(h:∀a,p a->q a):(∃a,p a)->∃a,q a:=fun⟨a,x⟩=>⟨a,h a x⟩
theorem _i1{a b c:Prop}(h:b->c):a/\b->a/\c:=λx=>⟨x.1,h x.2⟩
theorem _gV{a b c d:Prop}(h:a->c)(g:b->d):a/\b->c/\d:=λx=>⟨h x.1,g x.2⟩
theorem _jx{a b c d:Prop}(h:a->c)(g:b->d):a\/b->c\/d:=λx=>x.elim (λy=>.inl (h y)) λy=>.inr (g y)
theorem _i2{j:Sort _}{p q:j->Prop}(h:∀a,p a->q a):(∀a,p a)->∀a,q a:=λx a=>h a (x a)
local macro_rules | `(tactic| walk_at "m") => `(tactic| (intro vs M Q Q' hq; repeat (first | exact hq _ _ | exact id | refine _kn fun _ => ?_ | refine _i1 ?_ | refine _gV ?_ ?_ | refine _i2 fun _ => ?_ | refine _jx ?_ ?_)))
noncomputable def SameM(M j:MH):Prop:=∀a o,M a=some o->j a=some o
theorem SameM.refl(M:MH):SameM M M:=λ_ _ h=>h
theorem SameM.trans{M M1 M2:MH}(a:SameM M M1)(b:SameM M1 M2):SameM M M2:=λc o h=>b c o (a c o h)
theorem neM{M:MH}{a p:Addr}{o:MO}(h:M a=some o)(j:M p=none):a≠p:=by intro e;subst e;rw[h]at j;cases j
theorem SameM.new{M:MH}{p:Addr}(h:M p=none)(o:MO):SameM M (updM M p o):=λa u e=>by rw[_l (neM e h)];exact e
theorem SameM.free{M j:MH}(s:SameM M j){p:Addr}(h:j p=none):M p=none:=by
 cases e:M p with
 |none=>rfl
 |some o=>rw[s _ _ e]at h;cases h
theorem SameM.upd{M j:MH}(s:SameM M j){p:Addr}(h:M p=none)(o:MO):SameM M (updM j p o):=λa u e=>by rw[_l (neM e h)];exact s a u e
theorem BN{lo:Int}{n i:Nat}{x:MV}(h:(Src.rng lo n).items[i]?=some x):i<n/\x=.int (lo+(i:Nat)):=by
 have j:=(Xz.mp h).1;rw[Src.items_len]at j;refine⟨j,?_⟩;have l:((XI n).map λi=>MV.int (lo+(i:Nat)))[i]?=some x:=h;rw[Xj,X6 (by simpa using(show i<n from j))]at l
 simpa using l.symm
theorem _c{u:Type}{f:u->MV}{l:List u}{i:Nat}{x:MV}(h:(l.map f)[i]?=some x):∃j:i<l.length,x=f l[i]:=by
 have j:=(Xz.mp h).1;rw[X5]at j;refine⟨j,?_⟩;rw[Xj,X6 j]at h;exact(Yo h).symm
theorem YJ{u:List (Str×SpM)}(w:∀p∈u,MonW p.2):∀(j:Nat)f l,u[j]?=some (f,l)->MonW l:=λj f l h=>w (f,l) (Y5 h)
theorem Fg(j:List MV)(k:Nat):cutM j none (some (k:Int))=j.take k:=by
 unfold cutM;rw[HT.sIx_none,HT.sIx_nat];simp
theorem Fh(j:List MV)(k:Nat):cutM j (some (k:Int)) none=j.drop k:=by
 unfold cutM;rw[HT.sIx_none,HT.sIx_nat];by_cases h:k<=j.length
 .rw[CK h,ZE (by rw[YN];exact Xf _)]
 .rw[CJ (by lia),AL (Xf _),AL (by lia)]
  simp
theorem BO{w:Type} [DecidableEq w] (k:w)(v:MV)(j:w):∀l:List (w×MV),valM (putM l k v) j=if j=k then some v else valM l j
 |[]=>by
  unfold putM valM;by_cases e:k=j
  .rw[if_pos e,if_pos e.symm]
  .rw[if_neg e,if_neg (λz=>e z.symm)]
   rfl
 |(i,u)::r=>by
  unfold putM;by_cases e:i=k
  .rw[if_pos e];subst e;unfold valM;by_cases f:i=j
   .rw[if_pos f,if_pos f.symm]
   .rw[if_neg f,if_neg (λz=>f z.symm),if_neg f]
  .rw[if_neg e];unfold valM;by_cases f:i=j
   .rw[if_pos f,if_neg (λz=>e (f.trans z)),if_pos f]
   .rw[if_neg f,BO k v j r,if_neg f]
inductive Form where|plus|minus|times|less|same
noncomputable def Form.str:Form->Str
 |.plus=>"plus"|.minus=>"minus"|.times=>"times"|.less=>"less"|.same=>"same"
inductive Tm where
 |num (n:Int)|var (x:Str)|two (f:Form)(a b:Tm)|pick (c a b:Tm)
noncomputable def Tm.depth:Tm->Nat
 |.num _=>1|.var _=>1|.two _ a b=>1+max a.depth b.depth|.pick c a b=>1+max c.depth (max a.depth b.depth)
noncomputable def Tm.size:Tm->Nat
 |.num _=>1|.var _=>1|.two _ a b=>1+(a.size+b.size)|.pick c a b=>1+(c.size+(a.size+b.size))
noncomputable def Tm.reads:Tm->List Str
 |.num _=>[]|.var x=>[x]|.two _ a b=>a.reads++b.reads|.pick c a b=>c.reads++(a.reads++b.reads)
noncomputable def twoV(w:Nat)(l r:Int):Form->Int
 |.plus=>(l+r)%2^w
 |.minus=>(l - r)%2^w
 |.times=>(l*r)%2^w
 |.less=>if l<r then 1 else 0
 |.same=>if l=r then 1 else 0
def Tm.val(j:Str->Int)(w:Nat):Tm->Int
 |.num n=>n%2^w
 |.var x=>j x
 |.two f a b=>twoV w (a.val j w) (b.val j w) f
 |.pick c a b=>if c.val j w≠0 then a.val j w else b.val j w
theorem Fi(w:Nat):(0:Int)<2^w:=Int.pow_pos (by decide)
theorem _m4(x:Int)(w:Nat):0<=x%2^w/\x%2^w<2^w:=⟨XR _ (Int.ne_of_gt (Fi w)),XT _ (Fi w)⟩
theorem Tm.depth_pos:∀T:Tm,1<=T.depth
 |.num _=>Xf _
 |.var _=>Xf _
 |.two _ _ _=>Nat.le_add_right _ _
 |.pick _ _ _=>Nat.le_add_right _ _
noncomputable def Tm.mv:Tm->MV
 |.num n=>.tup [.str "num",.int n]
 |.var x=>.tup [.str "var",.str x]
 |.two f a b=>.tup [.str f.str,a.mv,b.mv]
 |.pick c a b=>.tup [.str "pick",c.mv,a.mv,b.mv]
theorem _hL(f:Form):¬f.str="num":=by cases f<;>decide+kernel
theorem P9(f:Form):¬f.str="var":=by cases f<;>decide+kernel
inductive Stp where
 |take (f x:Str)|give (f:Str)(T:Tm)|put (x:Str)(T:Tm)|jump (T:Tm)(i:Int)
noncomputable def Stp.mv:Stp->MV
 |.take f x=>.tup [.str "take",.str f,.str x]
 |.give f T=>.tup [.str "give",.str f,T.mv]
 |.put x T=>.tup [.str "put",.str x,T.mv]
 |.jump T i=>.tup [.str "jump",T.mv,.int i]
noncomputable def tmOk(j:List Str)(T:Tm):Prop:=T.depth<=8/\T.size<=30/\∀x∈T.reads,x∈j
def Stp.ok(ns:List Str)(n:Nat):Stp->Prop
 |.take _ x=>x∈ns
 |.give _ T=>tmOk ns T
 |.put x T=>x∈ns/\tmOk ns T
 |.jump T i=>tmOk ns T/\0<=i/\i<=n
section
variable{P:Xh}{w:Xd}{K:X1}{mg:Str->Option Value}{base:Heap}{t:Adr}
noncomputable abbrev BP:SpM:=λj M Q=>∃k:Nat,j=[.int k]/\k<=64/\Q (.int (2^k)) M
theorem _bN:MonW BP:=by walk_at "m"
theorem _fF(T:Txt K mg t):FnOk P w K mg base CX0 1 t.bP t.cZ ["exponent"] (liSp K BP):=by
 refine T.aR.F.okM _fl (Xw (u:=[]) (Xx T) (Xy T) rfl nl0 nl0:Fts P w K mg base 0 JG []) DT _gB (λu M Q h=>?_) (λu M Q h=>?_)
 .obtain⟨k,rfl,_⟩:=h;rfl
 obtain⟨k,rfl,z,q⟩:=h;show wSs _ _ _ [some (.int k),none,none] M;delta DT JF;simp!;delta JE;simp!;refine⟨by lia,by lia,λi j l=>l=M/\∃v,j=[some (.int k),some (.int (2^i)),v],⟨rfl,_,rfl⟩,λ_ _ _ _=>trivial,?_,?_⟩
 .rintro i x j l y ⟨rfl,v,rfl⟩;obtain⟨m,rfl⟩:=BN y;delta JD;simp!;exact⟨_,by rw[Int.pow_succ]⟩
 .rintro j l ⟨rfl,v,rfl⟩;delta JC;simp!;exact q
def szs(j:List Tm):Nat:=(j.map Tm.size).sum
theorem Pa(a b:List Tm):szs (a++b)=szs a+szs b:=by unfold szs;rw[Yd,List.sum_append]
theorem _j5(a:Tm):szs [a]=a.size:=by simp[szs]
theorem Pb{T:Tm}:∀{j:List Tm},T∈j->T.size<=szs j
 |U::j,h=>by
  have e:szs (U::j)=U.size+szs j:=by simp[szs]
  rcases Xm.mp h with z|z
  .subst z;lia
  .have:=Pb z;lia
noncomputable def Tm.kids:Tm->List Tm
 |.num _=>[]
 |.var _=>[]
 |.two _ a b=>[a,b]
 |.pick c a b=>[c,a,b]
theorem Tm.size_kids:∀T:Tm,T.size=1+szs T.kids
 |.num _=>rfl
 |.var _=>rfl
 |.two _ a b=>by simp[Tm.size,Tm.kids,szs]
 |.pick c a b=>by simp[Tm.size,Tm.kids,szs]
noncomputable def mxd(j:List Tm):Nat:=j.foldl (λa T=>max a T.depth) 0
theorem _jO(j:List Tm)(T:Tm):mxd (j++[T])=max (mxd j) T.depth:=by unfold mxd;rw[List.foldl_append];rfl
theorem Tm.depth_kids:∀T:Tm,T.depth=mxd T.kids+1
 |.num _=>rfl
 |.var _=>rfl
 |.two _ a b=>by simp[Tm.depth,Tm.kids,mxd];lia
 |.pick c a b=>by simp[Tm.depth,Tm.kids,mxd];lia
theorem Tm.kid_depth{T U:Tm}(h:U∈T.kids):U.depth<T.depth:=by
 cases T<;>simp[Tm.kids]at h
 .rcases h with rfl|rfl<;>(simp only[Tm.depth];lia)
 .rcases h with rfl|rfl|rfl<;>(simp only[Tm.depth];lia)
theorem Tm.kid_size{T U:Tm}(h:U∈T.kids):U.size<T.size:=by
 rw[T.size_kids];have:=Pb h;lia
def rds(j:List Tm):List Str:=(j.map Tm.reads).flatten
theorem _jc(j:List Tm)(T:Tm):rds (j++[T])=rds j++T.reads:=by simp[rds]
theorem Tm.reads_kids:∀T:Tm,(∀x,T≠.var x)->T.reads=rds T.kids
 |.num _,_=>rfl
 |.var x,h=>absurd rfl (h x)
 |.two _ a b,_=>by simp[Tm.reads,Tm.kids,rds]
 |.pick c a b,_=>by simp[Tm.reads,Tm.kids,rds]
theorem Tm.reads_len:∀T:Tm,T.reads.length<=T.size
 |.num _=>by simp[Tm.reads]
 |.var _=>by simp[Tm.reads,Tm.size]
 |.two _ a b=>by
  have:=a.reads_len;have:=b.reads_len;simp[Tm.reads,Tm.size];lia
 |.pick c a b=>by
  have:=a.reads_len;have:=b.reads_len;have:=c.reads_len;simp[Tm.reads,Tm.size];lia
theorem Pc:∀j:List Tm,(rds j).length<=szs j
 |[]=>Xf _
 |T::j=>by
  have:=Pc j;have:=T.reads_len;have e:szs (T::j)=T.size+szs j:=by simp[szs]
  have l:rds (T::j)=T.reads++rds j:=by simp[rds]
  rw[e,l,XO];lia
theorem _h5(j:List Tm)(i:Nat):szs (j.take i)<=szs j:=by
 have l:=Pa (j.take i) (j.drop i);rw[List.take_append_drop]at l;lia
theorem Pd(x:MV)(j:List MV):cutM (x::j) (some 1) none=j:=by
 have:=Fh (x::j) 1
 simpa using this
abbrev V7:SpM:=λj M Q=>∃T:Tm,j=[T.mv]/\∀p,M p=none->Q (.ref p) (updM M p (.lst (T.kids.map Tm.mv)))
theorem Pe:MonW V7:=by walk_at "m"
theorem Pf(T:Txt K mg t):FnOk P w K mg base CX0 1 t.bZ t.dv ["T"] (liSp K V7):=by
 refine T.aA.F.okM _9M (Xw (u:=[]) (Xx T) (Xy T) rfl nl0 nl0:Fts P w K mg base 0 JK []) DX _ai (λj M Q h=>?_) (λj M Q h=>?_)
 .obtain⟨T,rfl,_⟩:=h;rfl
 obtain⟨U,rfl,q⟩:=h;show wSs _ _ _ [some U.mv] M;delta DX JJ;cases U with
 |num m=>
  simp only[Tm.mv];simp!;delta DW;simp!;exact q
 |var x=>
  simp only[Tm.mv];simp!;delta DW;simp!;exact q
 |two f a b=>
  simp only[Tm.mv];simp!;rw[if_neg (_hL f),if_neg (P9 f),DV];simp!;rw[Pd];exact q
 |pick c a b=>
  simp only[Tm.mv];simp!;delta DV;simp!;rw[Pd];exact q
abbrev V8(n:Nat):SpM:=λl M Q=>∃T:Tm,l=[T.mv]/\T.depth<=n/\∀j,SameM M j->Q (.tup [.int (T.size:Nat),.int (T.depth:Nat)]) j
theorem Pg(n:Nat):MonW (V8 n):=by walk_at "m"
theorem Ph(T:Txt K mg t):∀n:Nat,FnOk P w K mg base CX0 (n+8) t.cV t.cq ["T"] (liSp K (V8 n))
 |0=>by
  have p:∀j M Q,¬V8 0 j M Q:=λj M Q h=>by
   obtain⟨T,_,I,_⟩:=h;have:=T.depth_pos;lia
  exact⟨λj H Q E ⟨W,M,r,Y,h⟩=>absurd h (p _ _ _),λA g s H L S j Q E _ _ _ _ ⟨W,M,r,Y,h⟩=>absurd h (p _ _ _)⟩
 |n+1=>by
  have Z:=Ph T n;refine T.aE.F.okM _ew (Xw (u:=[("parts_within",V7),("size_of",(V8 n))]) (Xx T) (Xy T) rfl (fMc ⟨Pe,(fMc ⟨(Pg _),nl0⟩)⟩) (fMc ⟨⟨_,_,_,FnOk.mono (Pf T) (by lia),T.aA.m,T.aA.F.kp,T.aA.b⟩,(fMc ⟨⟨_,_,_,Z,T.aE.m,T.aE.F.kp,T.aE.b⟩,nl0⟩)⟩):Fts P w K mg base (n+8) JS [("parts_within",V7),("size_of",(V8 n))]) DY _eR (fun j M Q h=>?_) (fun j M Q h=>?_)
  .obtain⟨T,rfl,_⟩:=h;rfl
  obtain⟨U,rfl,X,q⟩:=h;show wSs _ _ _ [some U.mv,none,none,none,none] M;delta DY JR;simp!;delta JQ;simp!;delta JP;simp!;refine⟨U,rfl,λm d=>?_⟩;have B:=SameM.new d (.lst (U.kids.map Tm.mv));have N:updM M m (.lst (U.kids.map Tm.mv)) m=some (.lst (U.kids.map Tm.mv)):=Xb;generalize updM M m (.lst (U.kids.map Tm.mv))=M1 at*
  simp![N]
  obtain⟨J,l⟩:∃J:Nat->Sm->MH->Prop,∀i u M2,J i u M2↔∃(c f:Option MV),SameM M1 M2/\u=[some U.mv,some (.int ((1+szs (U.kids.take i):Nat):Int)),some (.int ((mxd (U.kids.take i):Nat):Int)),c,f]:=⟨_,λ_ _ _=>YY⟩;refine⟨J,(l _ _ _).2 ⟨_,_,SameM.refl _,rfl⟩,λi u M2 y=>?_,λi x u M2 C y=>?_,λu M2 y=>?_⟩
  .obtain⟨_,_,z,_⟩:=(l _ _ _).1 y;exact z _ _ N
  .obtain⟨c,f,z,rfl⟩:=(l _ _ _).1 y;obtain⟨O,rfl⟩:=_c C;have v:=U.kid_depth (XG O);delta JO;simp!;refine⟨U.kids[i],rfl,by lia,λo D=>?_⟩
   delta JN;simp!;delta JM;simp!;have R:U.kids.take (i+1)=U.kids.take i++[U.kids[i]]:=by rw[Um,X6 O];rfl
   have F:((1+szs (U.kids.take i):Nat):Int)+(U.kids[i].size:Nat)=((1+szs (U.kids.take (i+1)):Nat):Int):=by rw[R,Pa,_j5];lia
   have G:(if((U.kids[i].depth:Nat):Int)>(mxd (U.kids.take i):Nat)then((U.kids[i].depth:Nat):Int)else(mxd (U.kids.take i):Nat))=((mxd (U.kids.take (i+1)):Nat):Int):=by
    rw[R,_jO];split<;>lia
   rw[F,G];exact(l _ _ _).2 ⟨_,_,z.trans D,rfl⟩
  .obtain⟨c,f,z,rfl⟩:=(l _ _ _).1 y;have e:U.kids.take (Src.lst m (U.kids.map Tm.mv)).len=U.kids:=by simp[Src.len]
   rw[e];delta JL;simp!;have:=q M2 (B.trans z);rw[U.size_kids,U.depth_kids]at this;exact this
abbrev Uy(n:Nat):SpM:=λl M Q=>∃T:Tm,l=[T.mv]/\T.depth<=n/\T.size<=4000/\∀p j,SameM M j->M p=none->j p=some (.lst (T.reads.map MV.str))->Q (.ref p) j
theorem Pi(n:Nat):MonW (Uy n):=by walk_at "m"
theorem Pj(T:Txt K mg t):∀n:Nat,FnOk P w K mg base CX0 (n+8) t.cL t.cm ["T"] (liSp K (Uy n))
 |0=>by
  have I:∀z M Q,¬Uy 0 z M Q:=λz M Q h=>by
   obtain⟨T,_,O,_⟩:=h;have:=T.depth_pos;lia
  exact⟨λz H Q E ⟨ms,M,r,rh,h⟩=>absurd h (I _ _ _),λA W s H S us z Q E _ _ _ _ ⟨ms,M,r,rh,h⟩=>absurd h (I _ _ _)⟩
 |n+1=>by
  have ih:=Pj T n;refine T.ar.F.okM _by (Xw (u:=[("names_read",(Uy n)),("parts_within",V7)]) (Xx T) (Xy T) rfl (fMc ⟨(Pi _),(fMc ⟨Pe,nl0⟩)⟩) (fMc ⟨⟨_,_,_,ih,T.ar.m,T.ar.F.kp,T.ar.b⟩,(fMc ⟨⟨_,_,_,FnOk.mono (Pf T) (by lia),T.aA.m,T.aA.F.kp,T.aA.b⟩,nl0⟩)⟩):Fts P w K mg base (n+8) JY [("names_read",(Uy n)),("parts_within",V7)]) E5 _bU (fun z M Q h=>?_) (fun z M Q h=>?_)
  .obtain⟨T,rfl,_⟩:=h;rfl
  obtain⟨U,rfl,hn,hz,q⟩:=h;show wSs _ _ _ [some U.mv,none,none] M;have rest:(∀x,U≠.var x)->wSs [("names_read",Uy n),("parts_within",V7)] DZ {nx:=fun x M'=>Q MV.non M',rt:=Q} [some U.mv,none,none] M:=by
   intro hv;delta DZ;simp!;intro l u;have X:=SameM.new u (.lst []);have O:updM M l (.lst []) l=some (.lst ([]:List MV)):=Xb;generalize updM M l (.lst [])=M0 at*;delta JV;simp!;refine⟨U,rfl,λy j=>?_⟩;have v:=SameM.new j (.lst (U.kids.map Tm.mv));have o:updM M0 y (.lst (U.kids.map Tm.mv)) y=some (.lst (U.kids.map Tm.mv)):=Xb;have Y:=v _ _ O;have t1:=X.trans v;have nk:M y=none:=X.free j;generalize updM M0 y (.lst (U.kids.map Tm.mv))=M1 at*
   simp![o]
   have ne:l≠y:=by
    intro e;rw[e]at O;rw[O]at j;cases j
   obtain⟨J,g⟩:∃J:Nat->Sm->MH->Prop,∀i d M2,J i d M2↔∃(Z:Option MV),SameM M M2/\M2 y=some (.lst (U.kids.map Tm.mv))/\M2 l=some (.lst ((rds (U.kids.take i)).map MV.str))/\d=[some U.mv,some (.ref l),Z]:=⟨_,λ_ _ _=>YY⟩;refine⟨J,(g _ _ _).2 ⟨_,t1,o,Y,rfl⟩,λi d M2 L=>?_,λi x d M2 hx L=>?_,λd M2 L=>?_⟩
   .obtain⟨_,_,R,_⟩:=(g _ _ _).1 L;exact R
   .obtain⟨Z,B,R,N,rfl⟩:=(g _ _ _).1 L;obtain⟨C,rfl⟩:=_c hx;have hk:=U.kid_depth (XG C);have hk2:=U.kid_size (XG C);delta JU;simp!;simp only[N];simp!;refine⟨⟨_,rfl⟩,?_⟩;refine⟨U.kids[i],rfl,by lia,by lia,λp3 M3 D n3 g3=>?_⟩
    have F:=D _ _ R;have G:=D _ _ N;simp!;have l1:=Pc (U.kids.take i);have l2:=_h5 U.kids i;have l3:=U.size_kids;have l4:=U.kids[i].reads_len;refine⟨_,G,_,g3,by simp only[X5];lia,(g _ _ _).2 ⟨_,(B.trans D).upd u _,by rw[_l ne.symm];exact F,?_,rfl⟩⟩
    rw[Xb,Um,X6 C,Option.toList_some,_jc,Yd]
   .obtain⟨Z,B,R,N,rfl⟩:=(g _ _ _).1 L;have e:U.kids.take (Src.lst y (U.kids.map Tm.mv)).len=U.kids:=by simp[Src.len]
    rw[e,<-U.reads_kids hv]at N;delta JT;simp!;exact q l M2 B u N
  delta E5 JX;cases U with
  |num m=>
   simp only[Tm.mv];simp!;exact rest (λ_ e=>by cases e)
  |var x=>
   simp only[Tm.mv];simp!;delta JW;simp!;exact λp hp=>q p _ (SameM.new hp _) hp Xb
  |two f a b=>
   simp only[Tm.mv];simp!;rw[if_neg (P9 f)];exact rest (λ_ e=>by cases e)
  |pick c a b=>
   simp only[Tm.mv];simp!;exact rest (λ_ e=>by cases e)
abbrev BQ:SpM:=λu M Q=>∃(T:Tm) (N:List Str),u=[T.mv]/\T.depth<=40/\T.size<=4000/\(∀x∈T.reads,x∈N)/\N.length<64/\
 ∀p l (j:List Str),SameM M l->M p=none->l p=some (.lst (j.map MV.str))->j.Nodup->(∀y,y∈j↔y∈T.reads)->PyProof.Rows.sortedS j=true->Q (.ref p) l
theorem _ay:MonW BQ:=by walk_at "m"
theorem _eC(T:Txt K mg t):FnOk P w K mg base CX0 50 t.bC t.cN ["T"] (liSp K BQ):=by
 refine T.b3.F.okM _ev (Xw (u:=[("names_read",(Uy 40))]) (Xx T) (Xy T) rfl (fMc ⟨(Pi _),nl0⟩) (fMc ⟨⟨_,_,_,FnOk.mono (Pj T 40) (by decide),T.ar.m,T.ar.F.kp,T.ar.b⟩,nl0⟩):Fts P w K mg base 49 K0 [("names_read",(Uy 40))]) E6 _eQ (fun u M Q h=>?_) (fun u M Q h=>?_)
 .obtain⟨T,N,rfl,_⟩:=h;rfl
 obtain⟨U,N,rfl,y,z,m,g,q⟩:=h;show wSs _ _ _ [some U.mv] M;delta E6 JZ;simp!;refine⟨U,rfl,y,z,λd M1 j R c=>?_⟩;have W:scanBound=4096:=rfl;have:=U.reads_len;exact⟨d,U.reads,N,rfl,c,by lia,m,g,λp f l e L O=>q p _ f (j.trans (SameM.new l _)) (j.free l) Xb e L O⟩
noncomputable abbrev Fj:SpM:=λ_ _ _=>False
theorem _jX:MonW Fj:=λ_ h=>h.elim
theorem _kl{P:Xh}{w:Xd}{K:X1}{mg:Str->Option Value}{base:Heap}{k:Nat}{f:Addr}{j:Xi}{l:List Str}:FnOk P w K mg base CX0 k f j l (liSp K λ_ _ _=>False):=
 ⟨λ_ _ _ _ ⟨_,_,_,_,h⟩=>h.elim,λ_ _ _ _ _ _ _ _ _ _ _ _ _ ⟨_,_,_,_,h⟩=>h.elim⟩
noncomputable def XF(z:Str):Prop:=1<=z.length/\z.length<=8/\∀c∈z.cps.toList,97<=c/\c<=122
theorem Pk{a b:Nat}:([a]:List Nat)<[b]↔a<b:=by
 rw[List.cons_lt_cons_iff];constructor
 .rintro(h|⟨_,h⟩)
  .exact h
  .exact absurd h (by simp)
 .exact .inl
theorem _ok:(("a":Str)).cps.toList=[97]:=by decide+kernel
theorem _oj:(("z":Str)).cps.toList=[122]:=by decide+kernel
theorem le_z(c:Nat):(!decide ((("z":Str)).cps.toList<(⟨#[c]⟩:Str).cps.toList))=decide (c<=122):=by
 rw[_oj];have:([122]<(⟨#[c]⟩:Str).cps.toList)↔122<c:=Pk;by_cases h:c<=122
 .rw[decide_eq_true h,decide_eq_false (λz=>by have:=this.mp z;lia)];rfl
 .rw[decide_eq_false h,decide_eq_true (this.mpr (by lia))];rfl
abbrev BR:SpM:=λl M Q=>∃z:Str,l=[.str z]/\z.length<=1000/\∀j (b:Bool),SameM M j->(b=true↔XF z)->Q (.bl b) j
theorem _az:MonW BR:=by walk_at "m"
theorem _eD(T:Txt K mg t):FnOk P w K mg base CX0 1 t.cf t.bI ["text"] (liSp K BR):=by
 refine T.b6.F.okM _ex (Xw (u:=[]) (Xx T) (Xy T) rfl nl0 nl0:Fts P w K mg base 0 K2 []) E7 _eS (λd M Q h=>?_) (λd M Q h=>?_)
 .obtain⟨z,rfl,_⟩:=h;rfl
 obtain⟨z,rfl,L,q⟩:=h;show wSs _ _ _ [some (.str z)] M;delta E7 K1;simp!;refine⟨by lia,?_⟩
 refine Xe (λu=>Xe (λy=>?_) (λy=>?_)) (λu=>?_)
 .refine _b z.cps.toList (λc=>.str ⟨#[c]⟩) (λc=>.bl (decide (97<=c)&&decide (c<=122))) ?_ ?_ (λj f N h=>by simp at h) λD p=>?_
  .simp!;have:z.cps.toList.length=z.length:=Yn;exact⟨rfl,by lia,trivial⟩
  .intro c l O s;simp only[sCm,Xp,Y6,Yi,Yj,Yc,Ye];simp!;have m:[c]<(("a":Str)).cps.toList↔c<97:=by rw[_ok];exact Pk
   refine Xe (λh=>?_) (λh=>?_)
   .rw[decide_eq_true (show 97<=c by have:=mt m.mpr h;lia),CH]
    exact le_z c
   .rw[decide_eq_false (show¬97<=c by have:=m.mp (YX.mp h);lia),AZ]
  simp!;refine⟨z.cps.toList.map λc=>decide (97<=c)&&decide (c<=122),by rw[Ym];rfl,?_⟩
  refine q _ _ (SameM.new p _) ?_;rw[Uo];constructor
  .intro h;refine⟨by lia,by lia,λc l=>?_⟩
   have:=h _ (Xt.mpr ⟨c,l,rfl⟩)
   simpa using this
  .rintro⟨_,_,g⟩ b e;obtain⟨c,l,rfl⟩:=Xt.mp e;have:=g c l;simp[this]
 .exact q _ _ (SameM.refl _) ⟨λh=>(nomatch h),λg=>absurd (show(z.length:Int)<=8 by have:=g.2.1;lia) y⟩
 .exact q _ _ (SameM.refl _) ⟨λh=>(nomatch h),λg=>absurd (show(1:Int)<=(z.length:Int) by have:=g.1;lia) u⟩
theorem Fk{z:Str}{j:List Str}:inV (toV (.str z)) ((j.map MV.str).map toV)=decide (z∈j):=by
 unfold inV
 induction j with
 |nil=>simp
 |cons a r l=>
  rw[Xp,Xp,U5,l];have e:eqV (toV (.str a)) (toV (.str z))=decide (a=z):=by
   show(a==z)=decide (a=z);by_cases h:a=z
   .subst h;simp
   .simp[h]
  rw[e];by_cases h:a=z
  .simp[h]
  .have u:¬z=a:=λw=>h w.symm;simp[h,u]
theorem Fl(j:List Str):(j.map MV.str).all YB=true:=by
 rw[Uo];intro v l;obtain⟨x,_,rfl⟩:=Xt.mp l
 rfl
noncomputable def Leaf(v:MV):Prop:=(∃i,v=.int i)\/∃z,v=.str z
def FroD:Nat->MH->MV->MV->Prop
 |0,_,v,v'=>Leaf v/\v'=v
 |n+1,M,v,v'=>(Leaf v/\v'=v)\/∃j:List (MV×MV),(v=.tup (j.map (·.1))\/∃a,v=.ref a/\M a=some (.lst (j.map (·.1))))/\v'=.tup (j.map (·.2))/\j.length<=1000/\∀p∈j,FroD n M p.1 p.2
theorem FroD.keep{M u:MH}(s:SameM M u):∀{n:Nat} {v l:MV},FroD n M v l->FroD n u v l
 |0,_,_,h=>h
 |n+1,v,l,h=>by
  rcases h with h|⟨y,j,z,m,g⟩
  .exact .inl h
  .refine .inr ⟨y,?_,z,m,λp d=>(g p d).keep s⟩;rcases j with j|⟨a,e,j⟩
   .exact .inl j
   .exact .inr ⟨a,e,s _ _ j⟩
abbrev Zq(n:Nat):SpM:=λu M Q=>∃v j,u=[v]/\FroD n M v j/\∀l,SameM M l->Q j l
theorem BS(n:Nat):MonW (Zq n):=by walk_at "m"
theorem _dz{n:Nat}(m:∀(j:Nat)f g,([("frozen",Zq n)]:List (Str×SpM))[j]?=some (f,g)->MonW g){d:List MV} {M:MH} {Q:QM} (h:Zq (n+1) d M Q):wSs [("frozen",Zq n)] VR {nx:=fun _ u=>Q .non u,rt:=Q} (Ud 1 d) M:=by
 obtain⟨v,Y,rfl,L,q⟩:=h;show wSs _ _ _ [some v] M;delta VR Ep;rcases L with⟨l,rfl⟩|⟨N,c,rfl,Z,O⟩
 .rcases l with⟨i,rfl⟩|⟨z,rfl⟩
  .simp!;simp only[decide_false,B0,YA,if_false,reduceCtorEq,ne_eq,not_false_eq_true,true_and];delta VQ;simp!;exact q M (SameM.refl _)
  .simp!;simp only[decide_false,B0,YA,if_false,reduceCtorEq,ne_eq,not_false_eq_true,true_and];delta VQ;simp!;exact q M (SameM.refl _)
 .have e:wSs [("frozen",Zq n)] Eo {nx:=fun R M=>wSs [("frozen",Zq n)] VQ {nx:=fun _ u=>Q .non u,rt:=Q} R M,rt:=Q} [some v] M:=by
   delta Eo;simp!;refine Jf N (·.1) (·.2) ?_ ?_ m λD u A s T=>?_
   .rcases c with rfl|⟨a,rfl,y⟩
    .simp!;exact⟨rfl,by lia,trivial,λ_ _ h=>h⟩
    .simp![y]
     exact⟨rfl,by lia,y,λ_ _ h=>h⟩
   .intro p U u s;simp only[sCm,Xp,Y6,Yi,Yj,Yc,Ye];simp!;exact⟨p.1,p.2,rfl,(O p U).keep s,λM2 W=>⟨rfl,W⟩⟩
   simp![T]
   exact q u s
  rcases c with rfl|⟨a,rfl,y⟩
  .simp!;simp only[decide_true,Vo,Bool.true_or,if_true,reduceCtorEq,ne_eq,not_false_eq_true,true_and];exact e
  .simp![y]
   simp only[decide_true,Vo,Bool.true_or,if_true,reduceCtorEq,ne_eq,not_false_eq_true,true_and];exact e
theorem Pl(T:Txt K mg t):∀n:Nat,FnOk P w K mg base CX0 (n+8) t.bO t.dG ["value"] (liSp K (Zq n))
 |0=>by
  refine T.ag.F.okM Jx (Xw (u:=[("frozen",Fj)]) (Xx T) (Xy T) rfl (fMc ⟨@_jX,nl0⟩) (fMc ⟨⟨_,_,_,_kl,T.ag.m,T.ag.F.kp,T.ag.b⟩,nl0⟩):Fts P w K mg base 7 Er [("frozen",Fj)]) VR Lw (fun j M Q h=>?_) (fun j M Q h=>?_)
  .obtain⟨v,u,rfl,_⟩:=h;rfl
  obtain⟨v,u,rfl,⟨l,rfl⟩,q⟩:=h;show wSs _ _ _ [some u] M;delta VR Ep;rcases l with⟨i,rfl⟩|⟨z,rfl⟩
  .simp!;simp only[decide_false,B0,YA,if_false,reduceCtorEq,ne_eq,not_false_eq_true,true_and];delta VQ;simp!;exact q M (SameM.refl _)
  .simp!;simp only[decide_false,B0,YA,if_false,reduceCtorEq,ne_eq,not_false_eq_true,true_and];delta VQ;simp!;exact q M (SameM.refl _)
 |n+1=>by
  have y:=Pl T n;refine T.ag.F.okM Jx (Xw (u:=[("frozen",(Zq n))]) (Xx T) (Xy T) rfl (fMc ⟨(BS _),nl0⟩) (fMc ⟨⟨_,_,_,y,T.ag.m,T.ag.F.kp,T.ag.b⟩,nl0⟩):Fts P w K mg base (n+8) Er [("frozen",(Zq n))]) VR Lw (fun j M Q h=>?_) (fun j M Q h=>?_)
  .obtain⟨v,u,rfl,_⟩:=h;rfl
  exact _dz (YJ (fMc ⟨BS n,nl0⟩)) h
structure Isl where
 name:Str
 prs:List (Str×Int)
 stps:List Stp
structure Fer where
 name:Str
 giver:Str
 taker:Str
 k:Nat
 st:Nat
structure Wld where
 w:Nat
 isl:List Isl
 fer:List Fer
noncomputable def prV(p:Str×Int):MV:=.tup [.str p.1,.int p.2]
noncomputable def Fer.mv(f:Fer):MV:=.tup [.str f.name,.str f.giver,.str f.taker,.int f.k,.int f.st]
def Isl.mv(I:Isl):MV:=.tup [.str I.name,.tup (I.prs.map prV),.tup (I.stps.map Stp.mv)]
def Wld.mv(W:Wld):MV:=.tup [.int W.w,.tup (W.isl.map Isl.mv),.tup (W.fer.map Fer.mv)]
noncomputable def Isl.vars(I:Isl):List Str:=I.prs.map (·.1)
noncomputable def Wld.fns(W:Wld):List Str:=W.fer.map (·.name)
noncomputable def Wld.ins(W:Wld):List Str:=W.isl.map (·.name)
noncomputable def TmIn(j:List Str)(T:Tm):Prop:=T.depth<=8/\T.size<=30/\∀x∈T.reads,x∈j
def Z0(fs:List Str)(j:List Str)(n:Nat):Stp->Prop
 |.take f x=>f∈fs/\x∈j
 |.give f T=>f∈fs/\TmIn j T
 |.put x T=>x∈j/\TmIn j T
 |.jump T i=>TmIn j T/\0<=i/\i<=(n:Int)
structure IslOk (w:Nat)(fs:List Str)(I:Isl):Prop where
 nv:I.prs.length<=6
 ns:I.stps.length<=12
 nd:I.vars.Nodup
 gd:∀x∈I.vars,XF x
 wd:∀p∈I.prs,0<=p.2/\p.2<2^w
 st:∀s∈I.stps,Z0 fs I.vars I.stps.length s
structure FerOk (is:List Str)(f:Fer):Prop where
 g:f.giver∈is
 t:f.taker∈is
 ne:f.giver≠f.taker
 k3:f.k<=3
 s1:1<=f.st
 s3:f.st<=3
noncomputable def BU(F:List Fer)(z:Str):Stp->Prop
 |.take f _=>∀x∈F,x.name=f->x.taker=z
 |.give f _=>∀x∈F,x.name=f->x.giver=z
 |_=>True
structure Wld.Good (W:Wld):Prop where
 w1:1<=W.w
 w2:W.w<=64
 i5:W.isl.length<=5
 f6:W.fer.length<=6
 fg:∀z∈W.fns,XF z
 ig:∀z∈W.ins,XF z
 nd:(W.fns++W.ins).Nodup
 io:∀I∈W.isl,IslOk W.w W.fns I
 fo:∀f∈W.fer,FerOk W.ins f
 en:∀I∈W.isl,∀s∈I.stps,BU W.fer I.name s
def IslIn(M:MH)(I:Isl)(y:MV):Prop:=∃a b,y=.tup [.str I.name,.ref a,.ref b]/\M a=some (.lst (I.prs.map prV))/\M b=some (.lst (I.stps.map Stp.mv))
theorem IslIn.keep{M j:MH}(s:SameM M j){I:Isl}{y:MV}(h:IslIn M I y):IslIn j I y:=by
 obtain⟨a,b,e,l,u⟩:=h;exact⟨a,b,e,s _ _ l,s _ _ u⟩
def IslsIn(M:MH)(Is:List Isl)(j:List MV):Prop:=j.length=Is.length/\∀(i:Nat)(I:Isl)(y:MV),Is[i]?=some I->j[i]?=some y->IslIn M I y
theorem IslsIn.keep{M j:MH}(s:SameM M j){Is:List Isl}{ys:List MV}(h:IslsIn M Is ys):IslsIn j Is ys:=⟨h.1,λi z y a b=>(h.2 i z y a b).keep s⟩
theorem IslsIn.mem{M:MH}{Is:List Isl}{ys:List MV}(h:IslsIn M Is ys){y:MV}(u:y∈ys):∃I∈Is,IslIn M I y:=by
 obtain⟨i,l,rfl⟩:=Y3 u;have j:i<Is.length:=by rw[<-h.1];exact l
 exact⟨Is[i],XG j,h.2 i _ _ (X6 j) (X6 l)⟩
theorem IslsIn.fst{M:MH}{Is:List Isl}{l:List MV}(h:IslsIn M Is l){f:MV->MV}(u:∀z r,f (.tup (.str z::r))=.str z):l.map f=(Is.map (·.name)).map MV.str:=by
 apply Vk;intro i;rw[Xj,Xj,Xj];by_cases hi:i<l.length
 .have j:i<Is.length:=by rw[<-h.1];exact hi
  obtain⟨a,b,e,_⟩:=h.2 i _ _ (X6 j) (X6 hi);rw[X6 j,X6 hi,e];show some (f _)=_;rw[u];rfl
 .have j:¬i<Is.length:=by rw[<-h.1];exact hi
  rw[ZZ (by lia),ZZ (by lia)];rfl
noncomputable abbrev VS:SpM:=λj M Q=>∃i:Int,j=[.int i]/\Q (.bl true) M
theorem Pn:MonW VS:=by walk_at "m"
theorem Po(T:Txt K mg t):FnOk P w K mg base CX0 1 t.bG t.cO ["value"] (liSp K VS):=by
 refine T.ao.F.okM _dc (Xw (u:=[]) (Xx T) (Xy T) rfl nl0 nl0:Fts P w K mg base 0 Jz []) DR _dF (λj M Q h=>?_) (λj M Q h=>?_)
 .obtain⟨i,rfl,_⟩:=h;rfl
 obtain⟨i,rfl,q⟩:=h;show wSs _ _ _ [some (.int i)] M;delta DR Jy;simp!
 simpa using q
noncomputable abbrev Ar:SpM:=λj M Q=>∃i:Int,j=[.int i]/\∀b:Bool,(b=true↔1<=i/\i<=64)->Q (.bl b) M
theorem Pp:MonW Ar:=by walk_at "m"
theorem _dh(T:Txt K mg t):FnOk P w K mg base CX0 2 t.di t.cX ["number"] (liSp K Ar):=by
 refine T.b4.F.okM _db (Xw (u:=[("is_whole",VS)]) (Xx T) (Xy T) rfl (fMc ⟨Pn,nl0⟩) (fMc ⟨⟨_,_,_,(FnOk.mono (Po T) (by decide)),T.ao.m,T.ao.F.kp,T.ao.b⟩,nl0⟩):Fts P w K mg base 1 JB [("is_whole",VS)]) DS _dE (fun j M Q h=>?_) (fun j M Q h=>?_)
 .obtain⟨i,rfl,_⟩:=h;rfl
 obtain⟨i,rfl,q⟩:=h;show wSs _ _ _ [some (.int i)] M;delta DS JA;simp!;refine⟨i,rfl,?_⟩;simp!;refine Xe (λc=>q _ ?_) (λc=>q _ ?_)
 .simp[c]
 .simp[c]
noncomputable abbrev BV:SpM:=λj M Q=>∃(k:Nat) (i:Int),j=[.int k,.int i]/\k<=64/\∀b:Bool,(b=true↔0<=i/\i<2^k)->Q (.bl b) M
theorem _dl:MonW BV:=by walk_at "m"
theorem _jF(T:Txt K mg t):FnOk P w K mg base CX0 2 t.bh t.dj ["width","number"] (liSp K BV):=by
 refine T.aT.F.okM _jb (Xw (u:=[("is_whole",VS),("two_to",BP)]) (Xx T) (Xy T) rfl (fMc ⟨Pn,(fMc ⟨_bN,nl0⟩)⟩) (fMc ⟨⟨_,_,_,(FnOk.mono (Po T) (by decide)),T.ao.m,T.ao.F.kp,T.ao.b⟩,(fMc ⟨⟨_,_,_,(FnOk.mono (_fF T) (by decide)),T.aR.m,T.aR.F.kp,T.aR.b⟩,nl0⟩)⟩):Fts P w K mg base 1 JI [("is_whole",VS),("two_to",BP)]) DU _ku (fun j M Q h=>?_) (fun j M Q h=>?_)
 .obtain⟨k,i,rfl,_⟩:=h;rfl
 obtain⟨k,i,rfl,l,q⟩:=h;show wSs _ _ _ [some (.int k),some (.int i)] M;delta DU JH;simp!;refine⟨i,rfl,?_⟩;simp!;refine Xe (λc=>?_) (λc=>q _ ?_)
 .refine⟨k,rfl,l,?_⟩;simp!;exact q _ (by simp[c])
 .simp[c]
abbrev Ans(o:Option Str)(M:MH)(v:MV)(Q:QM)(X:Str->MH->Prop):Prop:=(∀j,SameM M j->o=none->Q v j)/\∀j c,SameM M j->o=some c->X c j
theorem Ans.mon{o:Option Str}{M:MH}{v:MV}{Q l:QM}{X u:Str->MH->Prop}(y:∀v M,Q v M->l v M)(z:∀c M,X c M->u c M)(h:Ans o M v Q X):Ans o M v l u:=⟨λj s e=>y _ _ (h.1 j s e),λj c s e=>z _ _ (h.2 j c s e)⟩
theorem Ue{l:Type}{g:l->Option Str}:∀{j:List l},(∀x∈j,g x=none)->j.findSome? g=none
 |[],_=>rfl
 |x::j,h=>by
  rw[W6,h x (XY ..)];exact Ue λy u=>h y (XU _ u)
theorem VT{u:Type}{g:u->Option Str}{c:Str}:∀{l:List u} {j:Nat} {x:u},l[j]?=some x->g x=some c->(∀i y,i<j->l[i]?=some y->g y=none)->l.findSome? g=some c
 |[],j,x,h,_,_=>by simp at h
 |y::l,0,x,h,e,_=>by
  obtain rfl:y=x:=by simpa using h
  rw[W6,e]
 |y::l,j+1,x,h,e,k=>by
  rw[W6,k 0 y (Nat.succ_pos _) rfl];exact VT (j:=j) (by simpa using h) e λi z d m=>k (i+1) z (by lia) (by simpa using m)
theorem Fm{d:Type}{g:d->Option Str}{o:Option Str}:∀{l:List d},(∀y∈l,g y=none\/g y=o)->(∃x∈l,g x=o)->l.findSome? g=o
 |[],_,h=>by obtain⟨x,j,_⟩:=h;cases j
 |a::l,h,j=>by
  rw[W6];cases u:g a with
  |some b=>
   rcases h a (XY ..)with z|z
   .rw[u]at z;cases z
   .exact u.symm.trans z
  |none=>
   obtain⟨x,j,e⟩:=j;rcases Xm.mp j with rfl|c
   .obtain rfl:o=none:=e.symm.trans u;exact Ue λy m=>(h y (XU _ m)).elim id id
   .exact Fm (λy m=>h y (XU _ m)) ⟨x,c,e⟩
noncomputable def Yx(j:List Str)(U:Tm):Option Str:=if 30<U.size\/8<U.depth then some ("TooMany":Str)else if∀x∈U.reads,x∈j then none else some ("Unknown":Str)
def Y2(fs j:List Str)(n:Nat):Stp->Option Str
 |.take f x=>if f∈fs/\x∈j then none else some ("Unknown":Str)
 |.give f U=>if f∈fs then Yx j U else some ("Unknown":Str)
 |.put x U=>if x∈j then Yx j U else some ("Unknown":Str)
 |.jump U i=>match Yx j U with
  |some c=>some c
  |none=>if 0<=i/\i<=(n:Int)then none else some ("NoStep":Str)
theorem Fo{j:List Str}{U:Tm}(h:Yx j U=none):TmIn j U:=by
 unfold Yx at h;by_cases c:30<U.size\/8<U.depth
 .rw[if_pos c]at h;cases h
 .rw[if_neg c]at h;by_cases d:∀x∈U.reads,x∈j
  .exact⟨by lia,by lia,d⟩
  .rw[if_neg d]at h;cases h
theorem As{j:List Str}{U:Tm}(h:TmIn j U):Yx j U=none:=by
 obtain⟨a,b,c⟩:=h;unfold Yx;rw[if_neg (by lia),if_pos c]
theorem _l0{fs j:List Str}{n:Nat}{S:Stp}(h:Y2 fs j n S=none):Z0 fs j n S:=by
 cases S with
 |take f x=>
  unfold Y2 at h;by_cases c:f∈fs/\x∈j
  .exact c
  .simp only[if_neg c]at h;cases h
 |give f U=>
  unfold Y2 at h;by_cases c:f∈fs
  .simp only[if_pos c]at h;exact⟨c,Fo h⟩
  .simp only[if_neg c]at h;cases h
 |put x U=>
  unfold Y2 at h;by_cases c:x∈j
  .simp only[if_pos c]at h;exact⟨c,Fo h⟩
  .simp only[if_neg c]at h;cases h
 |jump U i=>
  unfold Y2 at h;cases e:Yx j U with
  |some c=>simp only[e]at h;cases h
  |none=>
   simp only[e]at h;by_cases c:0<=i/\i<=(n:Int)
   .exact⟨Fo e,c⟩
   .rw[if_neg c]at h;cases h
theorem Pq{fs j:List Str}{n:Nat}{S:Stp}(h:Z0 fs j n S):Y2 fs j n S=none:=by
 cases S with
 |take f x=>exact if_pos h
 |give f U=>exact(if_pos h.1).trans (As h.2)
 |put x U=>exact(if_pos h.1).trans (As h.2)
 |jump U i=>
  unfold Y2;simp only[As h.1];exact if_pos h.2
noncomputable def BW(j:List Str)(U:Tm):Prop:=U.depth<=12/\∀x∈U.reads,x∉j->ShortT x
def Pr(fs j:List Str):Stp->Prop
 |.take f x=>(f∉fs->ShortT f)/\(x∉j->ShortT x)
 |.give f U=>(f∉fs->ShortT f)/\BW j U
 |.put x U=>(x∉j->ShortT x)/\BW j U
 |.jump U _=>BW j U
noncomputable abbrev Uz:SpX:=fun l M Q X=>∃(z:Str) (e:Addr) (j:List Str),l=[.str z,.ref e]/\M e=some (.lst (j.map MV.str))/\(z∈j->Q .non M)/\(z∉j->ShortT z/\X "Unknown" M)
theorem Fp:MonX Uz:=by
 rintro y M Q m X g j l ⟨z,e,u,a,b,c,d⟩;exact⟨z,e,u,a,b,λh=>j _ _ (c h),λh=>⟨(d h).1,l _ _ (d h).2⟩⟩
theorem Fq(T:Txt K mg t):FnOk P w K mg base (CX1 P w) 1 t.dq t.bR ["name","known"] (Yw K Uz):=by
 refine T.ai.F.okX (G:=Kc) _8B (Xw (u:=[]) (Xx T) (Xy T) rfl nl0 nl0:Fts P w K mg base 0 Kb []) (YZ (u:=[]) rfl nl0 nl0:FtX P w K mg base 0 [] []) T.ex E9 _8P (λl M Q X h=>?_) (λl M Q X h=>?_)
 .obtain⟨z,a,j,rfl,_⟩:=h;rfl
 obtain⟨z,a,j,rfl,u,y,m⟩:=h;show wXs _ _ _ _ _ [some (.str z),some (.ref a)] M;delta E9 Ka;simp!;refine .inl ⟨_,u,rfl,Fl j,?_⟩;rw[Fk];by_cases h2:z∈j
 .rw[decide_eq_true h2];simp!;exact y h2
 .rw[decide_eq_false h2];simp!;delta K9;simp!;exact m h2
instance(z:Str):Decidable (XF z):=by unfold XF;infer_instance
def Yk(e:List Str)(z:Str):Option Str:=if XF z then if z∈e then some ("Twice":Str)else none else some ("NoName":Str)
theorem name_ok{e:List Str}{z:Str}:Yk e z=none↔XF z/\z∉e:=by
 unfold Yk;by_cases g:XF z
 .by_cases m:z∈e<;>simp[g,m]
 .simp[g]
theorem At{e:List Str}{z:Str}(h:¬XF z):Yk e z=some ("NoName":Str):=if_neg h
theorem BX{e:List Str}{z:Str}(h:XF z)(m:z∈e):Yk e z=some ("Twice":Str):=(if_pos h).trans (if_pos m)
abbrev UA:SpX:=λl M Q X=>∃(z:Str) (e:Addr) (j:List Str),l=[.str z,.ref e]/\M e=some (.lst (j.map MV.str))/\ShortT z/\Ans (Yk j z) M .non Q X
theorem Fs:MonX UA:=by
 rintro y M Q m X g j l ⟨z,e,u,a,b,c,d⟩;exact⟨z,e,u,a,b,c,d.mon j l⟩
theorem Ft(T:Txt K mg t):FnOk P w K mg base (CX1 P w) 2 t.cB t.de ["text","earlier"] (Yw K UA):=by
 refine T.ah.F.okX (G:=K8) _av (Xw (u:=[("is_name",BR)]) (Xx T) (Xy T) rfl (fMc ⟨_az,nl0⟩) (fMc ⟨⟨_,_,_,(FnOk.mono (_eD T) (by decide)),T.b6.m,T.b6.F.kp,T.b6.b⟩,nl0⟩):Fts P w K mg base 1 K7 [("is_name",BR)]) (YZ (u:=[]) rfl nl0 nl0:FtX P w K mg base 1 [] []) T.ex E8 _aI (fun f M Q X h=>?_) (fun f M Q X h=>?_)
 .obtain⟨z,a,l,rfl,_⟩:=h;rfl
 obtain⟨z,a,l,rfl,q,u,p,y⟩:=h;show wXs _ _ _ _ _ [some (.str z),some (.ref a)] M;delta E8 K6;simp!;refine⟨z,rfl,Y7 u.1 (by decide),λM1 b j d=>?_⟩
 simp!;refine Xe (λc=>?_) (λc=>?_)
 .delta K5;simp!;exact⟨u,y _ _ j (At λg=>by rw[d.mpr g]at c;cases c)⟩
 have g:XF z:=d.mp (by cases b<;>simp_all)
 delta K4;simp!;refine .inl ⟨_,j _ _ q,rfl,Fl l,?_⟩;rw[Fk];by_cases m:z∈l
 .rw[decide_eq_true m];simp!;delta K3;simp!;exact⟨u,y _ _ j (BX g m)⟩
 .rw[decide_eq_false m];simp!;exact p _ j (name_ok.mpr ⟨g,m⟩)
theorem Fu{l:Type} [DecidableEq l] {u:List l}(m:u.Nodup){j:Nat}{z:l}(g:u[j]?=some z):z∉u.take j:=λd=>by
 obtain⟨q,rfl⟩:=Xz.mp g;obtain⟨k,c,y⟩:=Y3 d;have f:k<j:=by rw[XQ]at c;lia
 rw[Ct]at y;have:=(AR m).mp y;lia
theorem Fv{l y:Type}{f:l->y}{u:List l}{j:Nat}{z:l}(m:u[j]?=some z):(u.take j).map f++[f z]=(u.take (j+1)).map f:=by
 rw[Um,m,Yd];rfl
structure RFer where
 name:Str
 giver:Str
 taker:Str
 k:Int
 st:Int
noncomputable def RFer.mv(f:RFer):MV:=.tup [.str f.name,.str f.giver,.str f.taker,.int f.k,.int f.st]
structure RW where
 w:Int
 isl:List Isl
 fer:List RFer
noncomputable def RW.fns(R:RW):List Str:=R.fer.map (·.name)
noncomputable def RW.ins(R:RW):List Str:=R.isl.map (·.name)
theorem Ps{j:Type}{g:j->Option Str}{l:List j}(h:l.findSome? g=none):∀x∈l,g x=none:=List.findSome?_eq_none_iff.mp h
noncomputable def rowF{l:Type}(u:List l)(g:Nat->l->Option Str):Option Str:=(XI u.length).findSome? λj=>(u[j]?).bind (g j)
theorem Uf{u:Type}{l:List u}{g:Nat->u->Option Str}(h:∀(j:Nat)x,l[j]?=some x->g j x=none):rowF l g=none:=by
 refine Ue λj _=>?_;cases e:l[j]? with
 |none=>rfl
 |some x=>exact h j x e
theorem _R{z:Type}{u:List z}{g:Nat->z->Option Str}{j:Nat}{x:z}{c:Str}(h:u[j]?=some x)(e:g j x=some c)(d:∀(i:Nat)y,i<j->u[i]?=some y->g i y=none):rowF u g=some c:=by
 have f:=(Xz.mp h).1;refine VT (Vh f) (by rw[h];exact e) λi y q m=>?_
 have l:i<u.length:=by lia
 rw[Vh l]at m;cases m;rw[X6 l];exact d i _ q (X6 l)
theorem _r{l:Type}{u:List l}{g:Nat->l->Option Str}(h:rowF u g=none){j:Nat}{x:l}(e:u[j]?=some x):g j x=none:=by
 have:=Ps h j (UO.mpr (Xz.mp e).1);rw[e]at this;exact this
theorem V9{z:Type}{u:List z}{j:Nat}{p:Nat->z->Prop}(m:j<u.length)(g:∀(i:Nat)x,i<j->u[i]?=some x->p i x)(h:p j u[j]):∀(i:Nat)x,i<j+1->u[i]?=some x->p i x:=λi x d y=>by
 rcases CI.mp d with l|rfl
 .exact g i x l y
 .rw[X6 m]at y;cases y;exact h
def fnsF(F:List RFer):Option Str:=rowF F λj f=>Yk ((F.map (·.name)).take j) f.name
abbrev BY:SpX:=λj M Q X=>∃(f:Addr) (F:List RFer),j=[.ref f]/\M f=some (.lst (F.map RFer.mv))/\F.length<=100/\(∀x∈F,ShortT x.name)/\Ans (fnsF F) M .non Q X
theorem _42:MonX BY:=by
 rintro u M Q y X z j l ⟨f,F,a,b,c,d,e⟩;exact⟨f,F,a,b,c,d,e.mon j l⟩
theorem _5y(T:Txt K mg t):FnOk P w K mg base (CX1 P w) 3 t.bc t.bo ["ferries"] (Yw K BY):=by
 refine T.bb.F.okX (G:=Ki) _5t (Xw (u:=[]) (Xx T) (Xy T) rfl nl0 nl0:Fts P w K mg base 2 Kh []) (YZ (u:=[("refuse_name",UA)]) rfl (fMc ⟨Fs,nl0⟩) (fMc ⟨⟨_,_,_,(FnOk.mono (Ft T) (by decide)),T.ah.m,T.ah.F.kp,T.ah.b⟩,nl0⟩):FtX P w K mg base 2 ["refuse_name"] [("refuse_name",UA)]) T.ex Ea _6f (fun B M Q X h=>?_) (fun B M Q X h=>?_)
 .obtain⟨f,F,rfl,_⟩:=h;rfl
 obtain⟨f,F,rfl,W,o,C,D,E⟩:=h;show wXs _ _ _ _ _ [some (.ref f),none,none] M;delta Ea Kg;simp!;intro p Y;have Z:=SameM.new Y (.lst []);have O:=Z _ _ W;have R:updM M p (.lst []) p=some (.lst []):=Xb;generalize updM M p _=M1 at*;delta Kf
 simp![O]
 obtain⟨J,m⟩:∃J:Nat->Sm->MH->Prop,∀j g l,J j g l↔SameM M l/\l p=some (.lst (((F.map (·.name)).take j).map MV.str))/\(∀(i:Nat)x,i<j->F[i]?=some x->Yk ((F.map (·.name)).take i) x.name=none)/\∃v,g=[some (.ref f),some (.ref p),v]:=⟨_,λ_ _ _=>YY⟩;refine⟨trivial,J,(m _ _ _).mpr ⟨Z,by simpa using R,λi x z=>by lia,_,rfl⟩,λj g l h=>((m _ _ _).mp h).1 _ _ W,?_,?_⟩
 .rintro j y g l I h;obtain⟨q,d,L,v,rfl⟩:=(m _ _ _).mp h;obtain⟨u,rfl⟩:=_c (show(F.map RFer.mv)[j]?=some y from I);have u:j<F.length:=u;have S:(F.map (·.name))[j]?=some F[j].name:=by rw[Xj,X6 u];rfl
  delta Ke
  simp![RFer.mv]
  refine⟨F[j].name,p,(F.map (·.name)).take j,rfl,d,C _ (XG u),λH N e=>?_,λH c N e=>E _ _ (q.trans N) (_R (X6 u) e L)⟩;have U:=N _ _ d;simp!;delta Kd
  simp![RFer.mv,U,X5,XQ]
  exact⟨⟨_,rfl⟩,by lia,(m _ _ _).mpr ⟨(q.trans N).upd Y _,by rw[Xb,Fv S],V9 u L e,_,rfl⟩⟩
 .rintro g l h;obtain⟨q,_,L,_⟩:=(m _ _ _).mp h;exact D _ q (Uf λi x A=>L i x (by show i<(F.map RFer.mv).length;rw[X5];exact(Xz.mp A).1) A)
def varG(w:Nat)(l:List (Str×Int))(j:Nat)(p:Str×Int):Option Str:=(Yk ((l.map (·.1)).take j) p.1).or (if 0<=p.2/\p.2<2^w then none else some ("NoWord":Str))
def varF(w:Nat)(j:List (Str×Int)):Option Str:=rowF j (varG w j)
abbrev BZ:SpX:=λl M Q X=>∃(k:Nat) (f:Addr) (j:List (Str×Int)),l=[.int k,.ref f]/\M f=some (.lst (j.map prV))/\k<=64/\j.length<=100/\(∀x∈j,ShortT x.1)/\Ans (varF k j) M .non Q X
theorem _4N:MonX BZ:=by
 rintro u M Q y X z j l ⟨k,f,F,a,b,c,d,e,g⟩;exact⟨k,f,F,a,b,c,d,e,g.mon j l⟩
theorem _7i(T:Txt K mg t):FnOk P w K mg base (CX1 P w) 3 t.cD t.cK ["width","pairs"] (Yw K BZ):=by
 refine T.aO.F.okX (G:=Ks) _7g (Xw (u:=[("fits",BV)]) (Xx T) (Xy T) rfl (fMc ⟨_dl,nl0⟩) (fMc ⟨⟨_,_,_,(FnOk.mono (_jF T) (by decide)),T.aT.m,T.aT.F.kp,T.aT.b⟩,nl0⟩):Fts P w K mg base 2 Kr [("fits",BV)]) (YZ (u:=[("refuse_name",UA)]) rfl (fMc ⟨Fs,nl0⟩) (fMc ⟨⟨_,_,_,(FnOk.mono (Ft T) (by decide)),T.ah.m,T.ah.F.kp,T.ah.b⟩,nl0⟩):FtX P w K mg base 2 ["refuse_name"] [("refuse_name",UA)]) T.ex Eb _7r (fun H M Q X h=>?_) (fun H M Q X h=>?_)
 .obtain⟨k,f,F,rfl,_⟩:=h;rfl
 obtain⟨k,f,F,rfl,Y,o,h6,Z,s,A⟩:=h;show wXs _ _ _ _ _ [some (.int k),some (.ref f),none,none,none] M;delta Eb Kq;simp!;intro p B;have C:=SameM.new B (.lst []);have R:=C _ _ Y;have U:updM M p (.lst []) p=some (.lst []):=Xb;generalize updM M p _=M1 at*;delta Ko
 simp![R]
 obtain⟨J,m⟩:∃J:Nat->Sm->MH->Prop,∀j d u,J j d u↔SameM M u/\u p=some (.lst (((F.map (·.1)).take j).map MV.str))/\(∀(i:Nat)x,i<j->F[i]?=some x->varG k F i x=none)/\∃v D,d=[some (.int k),some (.ref f),some (.ref p),v,D]:=⟨_,λ_ _ _=>YY⟩;refine⟨trivial,J,(m _ _ _).mpr ⟨C,by simpa using U,λi x z=>by lia,_,_,rfl⟩,λj d u h=>((m _ _ _).mp h).1 _ _ Y,?_,?_⟩
 .rintro j y d u n h;obtain⟨N,q,L,v,D,rfl⟩:=(m _ _ _).mp h;obtain⟨l,rfl⟩:=_c (show(F.map prV)[j]?=some y from n);have l:j<F.length:=l;have a:(F.map (·.1))[j]?=some F[j].1:=by rw[Xj,X6 l];rfl
  delta Kn
  simp![prV]
  delta Km;simp!;refine⟨F[j].1,p,(F.map (·.1)).take j,rfl,q,Z _ (XG l),λM3 O e=>?_,λM3 c O e=>A _ _ (N.trans O) (_R (X6 l) (by rw[varG,e];rfl) L)⟩
  have W:=O _ _ q;simp!;delta Kl
  simp![W,X5,XQ]
  refine⟨⟨_,rfl⟩,by lia,?_⟩
  delta Kk
  simp![prV]
  refine⟨k,F[j].2,rfl,o,λb E=>?_⟩;simp!;have I:=(N.trans O).upd B (.lst (((F.map (·.1)).take j).map MV.str++[.str F[j].1]));refine Xe (λc=>?_) (λc=>?_)
  .delta Kj;simp!;have nw:¬(0<=F[j].2/\F[j].2<2^k):=λg=>by rw[E.mpr g]at c;cases c
   exact⟨Z _ (XG l),A _ _ I (_R (X6 l) (by rw[varG,e,if_neg nw];rfl) L)⟩
  .refine(m _ _ _).mpr ⟨I,by rw[Xb,Fv a],V9 l L ?_,_,_,rfl⟩
   rw[varG,e,if_pos (E.mp (by cases b<;>simp_all))];rfl
 .rintro d u h;obtain⟨N,_,L,_⟩:=(m _ _ _).mp h;exact s _ N (Uf λi x S=>L i x (by show i<(F.map prV).length;rw[X5];exact(Xz.mp S).1) S)
abbrev C0:SpX:=λl M Q X=>∃(U:Tm) (e:Addr) (j:List Str),l=[U.mv,.ref e]/\M e=some (.lst (j.map MV.str))/\BW j U/\Ans (Yx j U) M .non Q X
theorem _7F:MonX C0:=by
 rintro y M Q z X m j l ⟨U,e,u,a,b,c,d⟩;exact⟨U,e,u,a,b,c,d.mon j l⟩
theorem _aw(T:Txt K mg t):FnOk P w K mg base (CX1 P w) 51 t.dB t.bM ["T","known"] (Yw K C0):=by
 refine T.b8.F.okX (G:=Ky) _at (Xw (u:=[("size_of",(V8 12)),("vars_in",BQ)]) (Xx T) (Xy T) rfl (fMc ⟨(Pg _),(fMc ⟨_ay,nl0⟩)⟩) (fMc ⟨⟨_,_,_,FnOk.mono (Ph T 12) (by decide),T.aE.m,T.aE.F.kp,T.aE.b⟩,(fMc ⟨⟨_,_,_,FnOk.mono (_eC T) (by decide),T.b3.m,T.b3.F.kp,T.b3.b⟩,nl0⟩)⟩):Fts P w K mg base 50 Kx [("size_of",(V8 12)),("vars_in",BQ)]) (YZ (u:=[("refuse_unknown",Uz)]) rfl (fMc ⟨Fp,nl0⟩) (fMc ⟨⟨_,_,_,(FnOk.mono (Fq T) (by decide)),T.ai.m,T.ai.F.kp,T.ai.b⟩,nl0⟩):FtX P w K mg base 50 ["refuse_unknown"] [("refuse_unknown",Uz)]) T.ex Ed _aG (fun I M Q X h=>?_) (fun I M Q X h=>?_)
 .obtain⟨U,a,R,rfl,_⟩:=h;rfl
 obtain⟨U,a,R,rfl,S,⟨H,o⟩,s,Z⟩:=h;show wXs _ _ _ _ _ [some U.mv,some (.ref a),none,none] M;delta Ed Kw;simp!;refine⟨U,rfl,H,λM1 A=>?_⟩;simp!;delta Kv;simp!;have big:30<U.size\/8<U.depth->Yx R U=some ("TooMany":Str):=fun c=>if_pos c;refine Xe (λc=>?_) (λc=>Xe (λd=>?_) (λd=>?_))
 .delta Ec;simp!;exact Z _ _ A (big (.inl (by lia)))
 .delta Ec;simp!;exact Z _ _ A (big (.inr (by lia)))
 have m:¬(30<U.size\/8<U.depth):=by lia
 have rl:=U.reads_len;delta Ku;simp!;refine⟨U,U.reads,rfl,by lia,by lia,λx B=>B,by lia,λp M2 W n hp q nd D _=>?_⟩
 have g:=A.trans n
 simp![q]
 obtain⟨J,e⟩:∃J:Nat->Sm->MH->Prop,∀j L N,J j L N↔N=M2/\(∀i y,i<j->W[i]?=some y->y∈R)/\∃v E,L=[some U.mv,some (.ref a),v,E]:=⟨_,λ_ _ _=>YY⟩;refine⟨trivial,J,(e _ _ _).mpr ⟨rfl,λi y z=>by lia,_,_,rfl⟩,λj L N h=>by rw[((e _ _ _).mp h).1];exact q,?_,?_⟩
 .rintro j y L N b h;obtain⟨rfl,C,v,E,rfl⟩:=(e _ _ _).mp h;obtain⟨F,rfl⟩:=_c (show(W.map MV.str)[j]?=some y from b);have O:=(D _).mp (XG F);delta Kt;simp!;refine⟨W[j],a,R,rfl,g _ _ S,λu=>(e _ _ _).mpr ⟨rfl,λi y Y f=>?_,_,_,rfl⟩,λu=>⟨o _ O u,Z _ _ g ?_⟩⟩
  .rcases CI.mp Y with l|l
   .exact C i y l f
   .subst l;rw[X6 F]at f;exact Yo f▸u
  .unfold Yx;rw[if_neg m,if_neg λz=>u (z _ O)]
 .rintro L N h;obtain⟨rfl,C,_⟩:=(e _ _ _).mp h;refine s _ g (As ⟨by lia,by lia,λx B=>?_⟩)
  obtain⟨i,Y,rfl⟩:=Y3 ((D x).mpr B);exact C i _ (by show i<(W.map MV.str).length;rw[X5];exact Y) (X6 Y)
theorem Fw{f x:Str}:(Stp.take f x).mv=.tup [.str "take",.str f,.str x]:=rfl
theorem Fx{f:Str}{U:Tm}:(Stp.give f U).mv=.tup [.str "give",.str f,U.mv]:=rfl
theorem Fy{f:Str}{U:Tm}:(Stp.put f U).mv=.tup [.str "put",.str f,U.mv]:=rfl
theorem Fz{i:Int}{U:Tm}:(Stp.jump U i).mv=.tup [.str "jump",U.mv,.int i]:=rfl
abbrev C3:SpX:=λl M Q X=>∃(S:Stp) (a b:Addr) (j fs:List Str) (n:Nat),l=[S.mv,.ref a,.int n,.ref b]/\M a=some (.lst (j.map MV.str))/\M b=some (.lst (fs.map MV.str))/\Pr fs j S/\Ans (Y2 fs j n S) M .non Q X
theorem _7G:MonX C3:=by
 rintro d M Q c X f j l ⟨S,a,b,u,fs,n,e,y,z,m,g⟩;exact⟨S,a,b,u,fs,n,e,y,z,m,g.mon j l⟩
theorem _ax(T:Txt K mg t):FnOk P w K mg base (CX1 P w) 52 t.cr t.cR ["step","known","count","ferry_names"] (Yw K C3):=by
 refine T.aI.F.okX (G:=KJ) _au (Xw (u:=[]) (Xx T) (Xy T) rfl nl0 nl0:Fts P w K mg base 51 KI []) (YZ (u:=[("refuse_term",C0),("refuse_unknown",Uz)]) rfl (fMc ⟨_7F,(fMc ⟨Fp,nl0⟩)⟩) (fMc ⟨⟨_,_,_,(FnOk.mono (_aw T) (by decide)),T.b8.m,T.b8.F.kp,T.b8.b⟩,(fMc ⟨⟨_,_,_,(FnOk.mono (Fq T) (by decide)),T.ai.m,T.ai.F.kp,T.ai.b⟩,nl0⟩)⟩):FtX P w K mg base 51 ["refuse_term","refuse_unknown"] [("refuse_term",C0),("refuse_unknown",Uz)]) T.ex Eg _aH (fun R M Q X h=>?_) (fun R M Q X h=>?_)
 .obtain⟨S,a,b,u,fs,n,rfl,_⟩:=h;rfl
 obtain⟨S,a,b,u,fs,n,rfl,g,O,p,L,y⟩:=h;show wXs _ _ _ _ _ [some S.mv,some (.ref a),some (.int n),some (.ref b)] M;delta Eg KH;cases S with
 |take f x=>
  obtain⟨d,q⟩:=p
  simp![Fw]
  delta KA;simp!;refine⟨f,b,fs,rfl,O,λj=>?_,λj=>⟨d j,y _ _ (SameM.refl _) (if_neg λz=>j z.1)⟩⟩;delta Kz;simp!;exact⟨x,a,u,rfl,g,λm=>L _ (SameM.refl _) (if_pos ⟨j,m⟩),λm=>⟨q m,y _ _ (SameM.refl _) (if_neg λz=>m z.2)⟩⟩
 |give f U=>
  obtain⟨d,q⟩:=p
  simp![Fx]
  delta BJ;simp!;delta KC;simp!;refine⟨f,b,fs,rfl,O,λj=>?_,λj=>⟨d j,y _ _ (SameM.refl _) (if_neg j)⟩⟩;delta KB;simp!;exact⟨U,a,u,rfl,g,q,λM1 l e=>L _ l ((if_pos j).trans e),λM1 c l e=>y _ _ l ((if_pos j).trans e)⟩
 |put f U=>
  obtain⟨d,q⟩:=p
  simp![Fy]
  delta BJ;simp!;delta Ef;simp!;delta KE;simp!;refine⟨f,a,u,rfl,g,λj=>?_,λj=>⟨d j,y _ _ (SameM.refl _) (if_neg j)⟩⟩;delta KD;simp!;exact⟨U,a,u,rfl,g,q,λM1 l e=>L _ l ((if_pos j).trans e),λM1 c l e=>y _ _ l ((if_pos j).trans e)⟩
 |jump U i=>
  have W:∀c,Yx u U=some c->Y2 fs u n (.jump U i)=some c:=λc e=>by unfold Y2;simp only[e]
  have N:Yx u U=none->Y2 fs u n (.jump U i)=if 0<=i/\i<=(n:Int)then none else some ("NoStep":Str):=fun e=>by unfold Y2;simp only[e]
  simp![Fz]
  delta BJ;simp!;delta Ef;simp!;delta KG;simp!;refine⟨U,a,u,rfl,g,p,λM1 l e=>?_,λM1 c l e=>y _ _ l (W c e)⟩;delta KF;simp!;refine Xe (λj=>Xe (λm=>?_) (λm=>?_)) (λj=>?_)
  .delta Ee;simp!;exact y _ _ l ((N e).trans (if_neg λz=>m z.2))
  .exact L _ l ((N e).trans (if_pos ⟨j,YX.mp m⟩))
  .delta Ee;simp!;exact y _ _ l ((N e).trans (if_neg λz=>j z.1))
noncomputable def TmSh(U:Tm):Prop:=U.depth<=12/\∀x∈U.reads,ShortT x
def StpSh:Stp->Prop
 |.take f x=>ShortT f/\ShortT x
 |.give f U=>ShortT f/\TmSh U
 |.put x U=>ShortT x/\TmSh U
 |.jump U _=>TmSh U
theorem StpSh.pre{fs l:List Str}{s:Stp}(h:StpSh s):Pr fs l s:=by
 cases s with
 |take f x=>exact⟨λ_=>h.1,λ_=>h.2⟩
 |give f U=>exact⟨λ_=>h.1,h.2.1,λx j _=>h.2.2 x j⟩
 |put f U=>exact⟨λ_=>h.1,h.2.1,λx j _=>h.2.2 x j⟩
 |jump U i=>exact⟨h.1,λx j _=>h.2 x j⟩
structure IslSh (I:Isl):Prop where
 nm:ShortT I.name
 nv:I.prs.length<=100
 ns:I.stps.length<=100
 vs:∀x∈I.prs,ShortT x.1
 st:∀s∈I.stps,StpSh s
def islF(w:Nat)(fs:List Str)(I:Isl):Option Str:=if 6<I.prs.length then some ("TooMany":Str)else if 12<I.stps.length then some ("TooMany":Str)else(varF w I.prs).or (I.stps.findSome? (Y2 fs I.vars I.stps.length))
theorem FA{u:List Str}(h:∀(j:Nat)z,u[j]?=some z->z∉u.take j):u.Nodup:=by
 unfold List.Nodup;rw[Cj];intro i j m y l e;refine h j _ (X6 y) ?_;rw[<-e];exact G2.mpr ⟨i,by lia,rfl⟩
theorem or_none{a b:Option Str}:a.or b=none↔a=none/\b=none:=by cases a<;>simp
theorem Pt{w:Nat}{l:List (Str×Int)}(h:varF w l=none):(l.map (·.1)).Nodup/\∀p∈l,XF p.1/\0<=p.2/\p.2<2^w:=by
 have one:∀(j:Nat)p,l[j]?=some p->(XF p.1/\p.1∉(l.map (·.1)).take j)/\0<=p.2/\p.2<2^w:=λj p e=>by
  obtain⟨m,y⟩:=or_none.mp (_r h e);refine⟨name_ok.mp m,YX.mp λn=>?_⟩;rw[if_neg n]at y;cases y
 refine⟨FA λj z e=>?_,λp g=>?_⟩
 .rw[Xj]at e;cases u:l[j]? with
  |none=>rw[u]at e;cases e
  |some p=>rw[u]at e;cases e;exact(one j p u).1.2
 .obtain⟨j,d,rfl⟩:=Y3 g;have:=one j _ (X6 d);exact⟨this.1.1,this.2⟩
theorem FB{w:Nat}{l:List (Str×Int)}(u:(l.map (·.1)).Nodup)(h:∀p∈l,XF p.1/\0<=p.2/\p.2<2^w):varF w l=none:=by
 refine Uf λj p e=>?_;obtain⟨y,z⟩:=h p (Y5 e);rw[varG,name_ok.mpr ⟨y,Fu u (by rw[Xj,e];rfl)⟩,if_pos z];rfl
theorem FC{w:Nat}{fs:List Str}{I:Isl}(h:islF w fs I=none):IslOk w fs I:=by
 unfold islF at h;by_cases c1:6<I.prs.length
 .rw[if_pos c1]at h;cases h
 rw[if_neg c1]at h;by_cases c2:12<I.stps.length
 .rw[if_pos c2]at h;cases h
 rw[if_neg c2]at h;obtain⟨u,y⟩:=or_none.mp h;obtain⟨z,l⟩:=Pt u;refine⟨by lia,by lia,z,λx m=>?_,λp j=>(l p j).2,λs g=>_l0 (Ps y s g)⟩
 obtain⟨p,j,rfl⟩:=Xt.mp m;exact(l p j).1
theorem Pu{w:Nat}{fs:List Str}{I:Isl}(h:IslOk w fs I):islF w fs I=none:=by
 have u:=h.nv;have y:=h.ns;unfold islF;rw[if_neg (by lia),if_neg (by lia),FB h.nd λp j=>⟨h.gd _ (Xt.mpr ⟨p,j,rfl⟩),h.wd p j⟩]
 exact Ue λs l=>Pq (h.st s l)
abbrev C4:SpX:=λj M Q X=>∃(k:Nat) (I:Isl) (y:MV) (b:Addr) (fs:List Str),j=[.int k,y,.ref b]/\k<=64/\IslIn M I y/\M b=some (.lst (fs.map MV.str))/\IslSh I/\Ans (islF k fs I) M .non Q X
theorem _6r:MonX C4:=by
 rintro c M Q f X q j l ⟨S,a,b,u,fs,e,y,z,m,g,d⟩;exact⟨S,a,b,u,fs,e,y,z,m,g,d.mon j l⟩
theorem _9x(T:Txt K mg t):FnOk P w K mg base (CX1 P w) 53 t.bV t.cH ["width","island","ferry_names"] (Yw K C4):=by
 refine T.aG.F.okX (G:=KW) _9v (Xw (u:=[]) (Xx T) (Xy T) rfl nl0 nl0:Fts P w K mg base 52 KU []) (YZ (u:=[("refuse_step",C3),("refuse_variables",BZ)]) rfl (fMc ⟨_7G,(fMc ⟨_4N,nl0⟩)⟩) (fMc ⟨⟨_,_,_,(FnOk.mono (_ax T) (by decide)),T.aI.m,T.aI.F.kp,T.aI.b⟩,(fMc ⟨⟨_,_,_,(FnOk.mono (_7i T) (by decide)),T.aO.m,T.aO.F.kp,T.aO.b⟩,nl0⟩)⟩):FtX P w K mg base 52 ["refuse_step","refuse_variables"] [("refuse_step",C3),("refuse_variables",BZ)]) T.ex Eh _9z (fun S M Q X h=>?_) (fun S M Q X h=>?_)
 .obtain⟨k,I,y,b,fs,rfl,_⟩:=h;rfl
 obtain⟨k,I,y,W,fs,rfl,H,⟨a,b,rfl,Y,E⟩,Z,ok,o,L⟩:=h;show wXs _ _ _ _ _ [some (.int k),some (.tup [.str I.name,.ref a,.ref b]),some (.ref W),none,none] M;have n:=ok.nv;have l2:=ok.ns;delta Eh KS
 simp![Y,X5]
 refine Xe (λz=>?_) (λz1=>?_)
 .delta KR;simp!;exact L _ _ (SameM.refl _) (if_pos (by lia))
 delta KQ
 simp![E,X5]
 refine Xe (λz=>?_) (λz2=>?_)
 .delta KP;simp!;exact L _ _ (SameM.refl _) ((if_neg (by lia)).trans (if_pos (by lia)))
 have N:islF k fs I=(varF k I.prs).or (I.stps.findSome? (Y2 fs I.vars I.stps.length)):=(if_neg (by lia)).trans (if_neg (by lia))
 delta KO;simp!;refine⟨k,a,I.prs,rfl,Y,H,n,ok.vs,λM1 O e=>?_,λM1 c O e=>L _ _ O (by rw[N,e];rfl)⟩
 rw[e,Vx]at N;have g:=O _ _ Y;delta KN;simp!;refine _b I.prs prV (λp=>.str p.1) ?_ ?_ (YJ (u:=[]) nl0) λD x=>?_
 .simp![g]
  exact⟨rfl,by lia,g⟩
 .intro p hp m s;simp only[sCm,Xp,Y6,Yi,Yj,Yc,Ye]
  simp![prV]
  try exact⟨rfl,rfl⟩
 have eV:(I.prs.map λp=>MV.str p.1)=I.vars.map MV.str:=by unfold Isl.vars;rw[Ym];rfl
 rw[eV];have R:=O.trans (SameM.new x (.lst (I.vars.map MV.str)));have A:updM M1 D (.lst (I.vars.map MV.str)) D=some (.lst (I.vars.map MV.str)):=Xb;generalize updM M1 D _=M2 at*;have l:=R _ _ E;delta KM
 simp![l]
 obtain⟨J,d⟩:∃J:Nat->Sm->MH->Prop,∀j f m,J j f m↔SameM M2 m/\(∀(i:Nat)s,i<j->I.stps[i]?=some s->Y2 fs I.vars I.stps.length s=none)/\∃v,f=[some (.int k),some (.tup [.str I.name,.ref a,.ref b]),some (.ref W),some (.ref D),v]:=⟨_,λ_ _ _=>YY⟩;refine⟨trivial,J,(d _ _ _).mpr ⟨SameM.refl _,λi s z=>by lia,_,rfl⟩,λj f m h=>((d _ _ _).mp h).1 _ _ l,?_,?_⟩
 .rintro j y f m hy h;obtain⟨u,U,v,rfl⟩:=(d _ _ _).mp h;obtain⟨q,rfl⟩:=_c (show(I.stps.map Stp.mv)[j]?=some y from hy);have q:j<I.stps.length:=q;have B:=u _ _ l;delta KL
  simp![B,X5]
  exact⟨I.stps[j],D,W,I.vars,fs,I.stps.length,rfl,u _ _ A,u _ _ (R _ _ Z),(ok.st _ (XG q)).pre,λM4 C e=>(d _ _ _).mpr ⟨u.trans C,V9 (p:=λ_ s=>Y2 fs I.vars I.stps.length s=none) q U e,_,rfl⟩,λM4 c C e=>L _ _ (R.trans (u.trans C)) (N.trans (VT (X6 q) e U))⟩
 .rintro f m h;obtain⟨u,U,_⟩:=(d _ _ _).mp h;refine o _ (R.trans u) (N.trans (Ue λs hm=>?_));obtain⟨i,F,rfl⟩:=Y3 hm;exact U i _ (by show i<(I.stps.map Stp.mv).length;rw[X5];exact F) (X6 F)
def islG(w:Nat)(fs:List Str)(Is:List Isl)(j:Nat)(I:Isl):Option Str:=(Yk (fs++(Is.map (·.name)).take j) I.name).or (islF w fs I)
abbrev C5:SpX:=λu M Q X=>∃(k:Nat) (p b:Addr) (j:List Isl) (l:List MV) (fs:List Str),u=[.int k,.ref p,.ref b]/\k<=64/\M p=some (.lst l)/\IslsIn M j l/\j.length<=5/\fs.length<=6/\M b=some (.lst (fs.map MV.str))/\(∀I∈j,IslSh I)/\Ans (rowF j (islG k fs j)) M .non Q X
theorem _5A:MonX C5:=by
 rintro N M Q O X R j l ⟨k,p,b,u,y,fs,z,m,g,d,c,f,q,e,L⟩;exact⟨k,p,b,u,y,fs,z,m,g,d,c,f,q,e,L.mon j l⟩
theorem _8F(T:Txt K mg t):FnOk P w K mg base (CX1 P w) 54 t.dr t.bK ["width","islands","ferry_names"] (Yw K C5):=by
 refine T.aM.F.okX (G:=L8) _8C (Xw (u:=[]) (Xx T) (Xy T) rfl nl0 nl0:Fts P w K mg base 53 L7 []) (YZ (u:=[("refuse_island",C4),("refuse_name",UA)]) rfl (fMc ⟨_6r,(fMc ⟨Fs,nl0⟩)⟩) (fMc ⟨⟨_,_,_,(FnOk.mono (_9x T) (by decide)),T.aG.m,T.aG.F.kp,T.aG.b⟩,(fMc ⟨⟨_,_,_,(FnOk.mono (Ft T) (by decide)),T.ah.m,T.ah.F.kp,T.ah.b⟩,nl0⟩)⟩):FtX P w K mg base 53 ["refuse_island","refuse_name"] [("refuse_island",C4),("refuse_name",UA)]) T.ex Ei _8Q (fun vs M Q X h=>?_) (fun vs M Q X h=>?_)
 .obtain⟨k,p,b,l,A,fs,rfl,_⟩:=h;rfl
 obtain⟨k,p,f,l,A,fs,rfl,hk,H,R,h5,hf6,o,ok,q1,s⟩:=h;show wXs _ _ _ _ _ [some (.int k),some (.ref p),some (.ref f),none,none] M;delta Ei L6
 simp![o]
 intro e n;have x:=SameM.new n (.lst (fs.map MV.str));have B:updM M e (.lst (fs.map MV.str)) e=some (.lst (fs.map MV.str)):=Xb;have C:=x _ _ H;generalize updM M e _=M1 at*;delta L5
 simp![C]
 obtain⟨J,m⟩:∃J:Nat->Sm->MH->Prop,∀j g u,J j g u↔SameM M u/\u e=some (.lst ((fs++(l.map (·.name)).take j).map MV.str))/\(∀(i:Nat)I,i<j->l[i]?=some I->islG k fs l i I=none)/\∃v,g=[some (.int k),some (.ref p),some (.ref f),some (.ref e),v]:=⟨_,λ_ _ _=>YY⟩;refine⟨trivial,J,(m _ _ _).mpr ⟨x,by simpa using B,λi I z=>by lia,_,rfl⟩,λj g u h=>((m _ _ _).mp h).1 _ _ H,?_,?_⟩
 .rintro j y g u d h;obtain⟨q,L,N,v,rfl⟩:=(m _ _ _).mp h;have d:A[j]?=some y:=d;have D:j<l.length:=by rw[<-R.1];exact(Xz.mp d).1
  have O:l[j]?=some l[j]:=X6 D;have hz:(l.map (·.name))[j]?=some l[j].name:=by rw[Xj,O];rfl
  have hm:=XG D;obtain⟨a,b,rfl,_⟩:=(R.keep q).2 j l[j] y O d;delta L0;simp!;refine⟨l[j].name,e,fs++(l.map (·.name)).take j,rfl,L,(ok _ hm).nm,λE U W=>?_,λE c U W=>s _ _ (q.trans U) (_R O (by rw[islG,W];rfl) N)⟩
  have F:=U _ _ L;simp!;delta KZ
  simp![F,X5,XO,XQ]
  refine⟨⟨_,rfl⟩,by lia,?_⟩
  have Y:=(q.trans U).upd n (.lst ((fs++(l.map (·.name)).take j).map MV.str++[.str l[j].name]));have S:updM E e (.lst ((fs++(l.map (·.name)).take j).map MV.str++[.str l[j].name])) e=some (.lst ((fs++(l.map (·.name)).take (j+1)).map MV.str)):=by
   rw[Xb,Yd,Yd,Vj,Fv hz]
  generalize updM E e _=M4 at*;delta KY;simp!;exact⟨k,l[j],_,f,fs,rfl,hk,(R.keep Y).2 j _ _ O d,Y _ _ o,ok _ hm,λM5 Z e=>(m _ _ _).mpr ⟨Y.trans Z,Z _ _ S,V9 D N (by rw[islG,W];exact e),_,rfl⟩,λM5 c Z e=>s _ _ (Y.trans Z) (_R O (by rw[islG,W];exact e) N)⟩
 .rintro g u h;obtain⟨q,_,N,_⟩:=(m _ _ _).mp h;exact q1 _ q (Uf λi I hx=>N i I (by show i<A.length;rw[R.1];exact(Xz.mp hx).1) hx)
noncomputable def ferF(j:List Str)(f:RFer):Option Str:=if f.giver∉j\/f.taker∉j then some ("Unknown":Str)else if f.giver=f.taker\/¬(0<=f.k/\f.k<=3)\/¬(1<=f.st/\f.st<=3)then some ("NoFerry":Str)else none
abbrev C6:SpX:=λl M Q X=>∃(x:RFer) (e:Addr) (j:List Str),l=[x.mv,.ref e]/\M e=some (.lst (j.map MV.str))/\ShortT x.giver/\ShortT x.taker/\Ans (ferF j x) M .non Q X
theorem _7k:MonX C6:=by
 rintro g M Q d X c j l ⟨S,a,b,e,u,y,z,m⟩;exact⟨S,a,b,e,u,y,z,m.mon j l⟩
theorem _9U(T:Txt K mg t):FnOk P w K mg base (CX1 P w) 2 t.cv t.cz ["ferry","island_names"] (Yw K C6):=by
 refine T.aY.F.okX (G:=Lh) _9L (Xw (u:=[]) (Xx T) (Xy T) rfl nl0 nl0:Fts P w K mg base 1 Lg []) (YZ (u:=[("refuse_unknown",Uz)]) rfl (fMc ⟨Fp,nl0⟩) (fMc ⟨⟨_,_,_,(FnOk.mono (Fq T) (by decide)),T.ai.m,T.ai.F.kp,T.ai.b⟩,nl0⟩):FtX P w K mg base 1 ["refuse_unknown"] [("refuse_unknown",Uz)]) T.ex El _ah (fun f M Q X h=>?_) (fun f M Q X h=>?_)
 .obtain⟨x,a,l,rfl,_⟩:=h;rfl
 obtain⟨x,a,l,rfl,g,q,p,e,u⟩:=h;show wXs _ _ _ _ _ [some (.tup [.str x.name,.str x.giver,.str x.taker,.int x.k,.int x.st]),some (.ref a)] M;delta El Lf;simp!;refine⟨_,a,l,rfl,g,λy=>?_,λy=>⟨q,u _ _ (SameM.refl _) (if_pos (.inl y))⟩⟩;delta Ld;simp!;refine⟨_,a,l,rfl,g,λm=>?_,λm=>⟨p,u _ _ (SameM.refl _) (if_pos (.inr m))⟩⟩;have d:ferF l x=if x.giver=x.taker\/¬(0<=x.k/\x.k<=3)\/¬(1<=x.st/\x.st<=3)then some ("NoFerry":Str)else none:=if_neg fun z=>z.elim (fun n=>n y) fun n=>n m;have j:(x.giver=x.taker\/¬(0<=x.k/\x.k<=3)\/¬(1<=x.st/\x.st<=3))->X "NoFerry" M:=fun z=>u _ _ (SameM.refl _) (d.trans (if_pos z));delta Lc;simp!;refine Xe (λc=>?_) (λL=>?_)
 .delta Lb;simp!;exact j (.inl c)
 delta La;simp!;refine Xe (λN=>Xe (λO=>?_) (λO=>?_)) (λN=>?_)
 .delta Ek;simp!;exact j (.inr (.inl (by lia)))
 .delta L9;simp!;refine Xe (λR=>Xe (λU=>?_) (λU=>?_)) (λR=>?_)
  .delta Ej;simp!;exact j (.inr (.inr (by lia)))
  .exact e _ (SameM.refl _) (d.trans (if_neg λz=>z.elim L λz=>by lia))
  .delta Ej;simp!;exact j (.inr (.inr (by lia)))
 .delta Ek;simp!;exact j (.inr (.inl (by lia)))
theorem _ez{F:List RFer}{g:RFer->Str}:∀{c:List (Key×MV)},(F.map (·.name)).Nodup->(∀x∈F,valM c (Yf x.name)=none)->∀x∈F,valM ((F.map λy=>((Yf y.name:Key),MV.str (g y))).foldl (λc z=>putM c z.1 z.2) c) (Yf x.name)=some (.str (g x)):=by
 have stay:∀(F:List RFer)(c:List (Key×MV))(z:Str),(∀y∈F,y.name≠z)->valM ((F.map λy=>((Yf y.name:Key),MV.str (g y))).foldl (λc z=>putM c z.1 z.2) c) (Yf z)=valM c (Yf z):=by
  intro F
  induction F with
  |nil=>intro c z _;rfl
  |cons y r m=>
   intro c z h;rw[Xp,W7,m _ _ (λy d=>h y (XU _ d)),BO,if_neg (λe=>h y (XY ..) (CV e).symm)]
 induction F with
 |nil=>intro c _ _ x j;cases j
 |cons y r m=>
  intro c l h x j;rw[Xp,ZH]at l;rw[Xp,W7];rcases Xm.mp j with rfl|j
  .rw[stay _ _ _ (λz u e=>l.1 (Xt.mpr ⟨z,u,e⟩)),BO,if_pos rfl]
  .refine m l.2 (λz u=>?_) x j;rw[BO,if_neg (λe=>l.1 (Xt.mpr ⟨z,u,CV e⟩))];exact h z (XU _ u)
def dirK(F:List RFer)(g:RFer->Str):List (Key×MV):=Wx (F.map λy=>((Yf y.name:Key),MV.str (g y)))
theorem Pv{F:List RFer}{g:RFer->Str}(j:(F.map (·.name)).Nodup){x:RFer}(l:x∈F):valM (dirK F g) (Yf x.name)=some (.str (g x)):=_ez j (λ_ _=>rfl) x l
theorem _bM{fs j:List Str}{n:Nat}{S:Stp}(h:Z0 fs j n S):∀f,(∃x,S=.take f x)\/(∃U,S=.give f U)->f∈fs:=by
 rintro f (⟨x,rfl⟩|⟨U,rfl⟩)
 .exact h.1
 .exact h.1
theorem Pw(F:List RFer)(g:RFer->Str):(F.map λx=>MV.tup [.str x.name,.str (g x)])=(F.map λy=>((Yf y.name:Key),MV.str (g y))).map prM:=by rw[Ym];rfl
noncomputable def REnd(F:List RFer)(z:Str):Stp->Prop
 |.take f _=>∀x∈F,x.name=f->x.taker=z
 |.give f _=>∀x∈F,x.name=f->x.giver=z
 |_=>True
instance(F:List RFer)(z:Str)(s:Stp):Decidable (REnd F z s):=by cases s<;>(unfold REnd;infer_instance)
def endF(F:List RFer)(z:Str)(s:Stp):Option Str:=if REnd F z s then none else some ("NoFerry":Str)
abbrev C7:SpX:=λj M Q X=>∃(z:Str) (S:Stp) (a b:Addr) (F:List RFer),j=[.str z,S.mv,.ref a,.ref b]/\M a=some (.dic (dirK F (·.giver)))/\M b=some (.dic (dirK F (·.taker)))/\(F.map (·.name)).Nodup/\(∀f,(∃x,S=.take f x)\/(∃U,S=.give f U)->f∈F.map (·.name))/\ShortT z/\Ans (endF F z S) M .non Q X
theorem _4M:MonX C7:=by
 rintro q M Q p X e j l ⟨z,S,a,b,F,u,y,m,g,d,c,f⟩;exact⟨z,S,a,b,F,u,y,m,g,d,c,f.mon j l⟩
theorem Px{F:List RFer}(l:(F.map (·.name)).Nodup){x y:RFer}(u:x∈F)(z:y∈F)(e:x.name=y.name):x=y:=by
 obtain⟨i,m,rfl⟩:=Y3 u;obtain⟨j,g,rfl⟩:=Y3 z;have:i=j:=(AR (xs:=F.map (·.name)) (h₀:=by simpa using m) (h₁:=by simpa using g) l).mp (by simpa using e)
 subst this;rfl
theorem _7h(T:Txt K mg t):FnOk P w K mg base (CX1 P w) 1 t.dF t.cw ["name","step","givers","takers"] (Yw K C7):=by
 refine T.ba.F.okX (G:=Ln) _7f (Xw (u:=[]) (Xx T) (Xy T) rfl nl0 nl0:Fts P w K mg base 0 Lm []) (YZ (u:=[]) rfl nl0 nl0:FtX P w K mg base 0 [] []) T.ex Em _7q (λL M Q X h=>?_) (λL M Q X h=>?_)
 .obtain⟨z,S,a,b,F,rfl,_⟩:=h;rfl
 obtain⟨z,S,a,b,F,rfl,N,O,m,q,p,R,W⟩:=h;show wXs _ _ _ _ _ [some (.str z),some S.mv,some (.ref a),some (.ref b)] M;have ok:REnd F z S->Q .non M:=λe=>R _ (SameM.refl _) (if_pos e);have l:¬REnd F z S->X "NoFerry" M:=fun e=>W _ _ (SameM.refl _) (if_neg e);delta Em Ll;cases S with
 |take f x=>
  obtain⟨y,j,rfl⟩:=Xt.mp (q f (.inl ⟨x,rfl⟩));have v:=Pv (g:=(·.taker)) m j
  simp![Fw,O,v]
  refine Xe (λc=>?_) (λc=>?_)
  .delta Lj;simp!;exact⟨p,l λe=>c (e y j rfl)⟩
  .delta Ap
   simp![Fw]
   refine ok λu d e=>?_;rw[Px m d j e];exact YX.mp c
 |give f U=>
  obtain⟨y,j,rfl⟩:=Xt.mp (q f (.inr ⟨U,rfl⟩));have v:=Pv (g:=(·.giver)) m j
  simp![Fx]
  delta Ap
  simp![Fx,N,v]
  refine Xe (λc=>?_) (λc=>?_)
  .delta Li;simp!;exact⟨p,l λe=>c (e y j rfl)⟩
  .refine ok λu d e=>?_;rw[Px m d j e];exact YX.mp c
 |put f U=>
  simp![Fy]
  delta Ap
  simp![Fy]
  exact ok trivial
 |jump U i=>
  simp![Fz]
  delta Ap
  simp![Fz]
  exact ok trivial
def Py(Is:List Isl)(F:List RFer):Option Str:=Is.findSome? λI=>I.stps.findSome? (endF F I.name)
abbrev C8:SpX:=λu M Q X=>∃(p f:Addr) (l:List MV) (j:List Isl) (F:List RFer),u=[.ref p,.ref f]/\M p=some (.lst l)/\IslsIn M j l/\j.length<=5/\M f=some (.lst (F.map RFer.mv))/\F.length<=6/\(F.map (·.name)).Nodup/\
 (∀I∈j,ShortT I.name/\I.stps.length<=12/\∀s∈I.stps,∃y n,Z0 (F.map (·.name)) y n s)/\Ans (Py j F) M .non Q X
theorem _4j:MonX C8:=by
 rintro O M Q R X T j l ⟨p,f,u,y,F,z,m,g,d,c,q,e,L,N⟩;exact⟨p,f,u,y,F,z,m,g,d,c,q,e,L,N.mon j l⟩
theorem _6q(T:Txt K mg t):FnOk P w K mg base (CX1 P w) 2 t.bY t.dE ["islands","ferries"] (Yw K C8):=by
 refine T.aN.F.okX (G:=Lv) _6o (Xw (u:=[]) (Xx T) (Xy T) rfl nl0 nl0:Fts P w K mg base 1 Lu []) (YZ (u:=[("refuse_wrong_end",C7)]) rfl (fMc ⟨_4M,nl0⟩) (fMc ⟨⟨_,_,_,(FnOk.mono (_7h T) (by decide)),T.ba.m,T.ba.F.kp,T.ba.b⟩,nl0⟩):FtX P w K mg base 1 ["refuse_wrong_end"] [("refuse_wrong_end",C7)]) T.ex En _6t (fun vs M Q X h=>?_) (fun vs M Q X h=>?_)
 .obtain⟨p,f,E,u,F,rfl,_⟩:=h;rfl
 obtain⟨p,f,E,u,F,rfl,hp,S,h5,H,h6,nd,hE,q1,q2⟩:=h;show wXs _ _ _ _ _ [some (.ref p),some (.ref f),none,none,none,none] M;have R:=(YJ (u:=[]) nl0);delta En Ls;simp!;refine _b F RFer.mv (λx=>.tup [.str x.name,.str x.giver]) ?_ ?_ R λD hD=>?_
 .simp![H]
  exact⟨rfl,by lia,H⟩
 .intro x o q s;simp only[sCm,Xp,Y6,Yi,Yj,Yc,Ye]
  simp![RFer.mv]
  try exact⟨rfl,rfl⟩
 rw[Pw F (·.giver)];have s1:=SameM.new hD (.lst ((F.map λy=>((Yf y.name:Key),MV.str y.giver)).map prM));have d1:updM M D (.lst ((F.map λy=>((Yf y.name:Key),MV.str y.giver)).map prM)) D=some (.lst ((F.map λy=>((Yf y.name:Key),MV.str y.giver)).map prM)):=Xb;generalize updM M D _=M1 at*;simp!;refine⟨_,d1,λa ha=>?_⟩;have s2:=s1.trans (SameM.new ha (.dic (dirK F (·.giver))));have ha2:updM M1 a (.dic (dirK F (·.giver))) a=some (.dic (dirK F (·.giver))):=Xb
 change wXs _ _ _ _ _ _ (updM M1 a (.dic (dirK F (·.giver))))
 generalize updM M1 a _=M2 at*;have U:=s2 _ _ H;delta Lr;simp!;refine _b F RFer.mv (λx=>.tup [.str x.name,.str x.taker]) ?_ ?_ R λD2 hD2=>?_
 .simp![U]
  exact⟨rfl,by lia,U⟩
 .intro x o q s;simp only[sCm,Xp,Y6,Yi,Yj,Yc,Ye]
  simp![RFer.mv]
  try exact⟨rfl,rfl⟩
 rw[Pw F (·.taker)];have s3:=SameM.new hD2 (.lst ((F.map λy=>((Yf y.name:Key),MV.str y.taker)).map prM));have d3:updM M2 D2 (.lst ((F.map λy=>((Yf y.name:Key),MV.str y.taker)).map prM)) D2=some (.lst ((F.map λy=>((Yf y.name:Key),MV.str y.taker)).map prM)):=Xb;generalize updM M2 D2 _=M3 at*;simp!;refine⟨_,d3,λb hb=>?_⟩;have s4:=s3.trans (SameM.new hb (.dic (dirK F (·.taker))));have hb4:updM M3 b (.dic (dirK F (·.taker))) b=some (.dic (dirK F (·.taker))):=Xb
 change wXs _ _ _ _ _ _ (updM M3 b (.dic (dirK F (·.taker))))
 generalize updM M3 b _=M4 at*;have ha4:=s4 _ _ ha2;have Z:=s2.trans s4;have W:=Z _ _ hp;have hI4:=S.keep Z;delta Lq
 simp![W]
 obtain⟨J,Y⟩:∃J:Nat->Sm->MH->Prop,∀j m q,J j m q↔SameM M4 q/\(∀(i:Nat)I,i<j->u[i]?=some I->I.stps.findSome? (endF F I.name)=none)/\∃v N,m=[some (.ref p),some (.ref f),some (.ref a),some (.ref b),v,N]:=⟨_,λ_ _ _=>YY⟩;refine⟨trivial,J,(Y _ _ _).mpr ⟨SameM.refl _,λi I z=>by lia,_,_,rfl⟩,λj m q h=>((Y _ _ _).mp h).1 _ _ W,?_,?_⟩
 .rintro j y m q A h;obtain⟨L,B,v,N,rfl⟩:=(Y _ _ _).mp h;have A:E[j]?=some y:=A;have hj:j<u.length:=by rw[<-S.1];exact(Xz.mp A).1
  have hi:u[j]?=some u[j]:=X6 hj;obtain⟨c,d,rfl,hc,hd⟩:=(hI4.keep L).2 j u[j] y hi A;obtain⟨nm,l12,hS⟩:=hE u[j] (XG hj);delta Lp
  simp![hd]
  obtain⟨J2,g⟩:∃J2:Nat->Sm->MH->Prop,∀i m M,J2 i m M↔SameM q M/\(∀(k:Nat)s,k<i->u[j].stps[k]?=some s->endF F u[j].name s=none)/\∃N,m=[some (.ref p),some (.ref f),some (.ref a),some (.ref b),some (.tup [.str u[j].name,.ref c,.ref d]),N]:=⟨_,λ_ _ _=>YY⟩;refine⟨trivial,J2,(g _ _ _).mpr ⟨SameM.refl _,λk s z=>by lia,_,rfl⟩,λj m M h=>((g _ _ _).mp h).1 _ _ hd,?_,?_⟩
  .rintro i x m M'' o h2;obtain⟨O,C,N,rfl⟩:=(g _ _ _).mp h2;obtain⟨l,rfl⟩:=_c (show(u[j].stps.map Stp.mv)[i]?=some x from o);have l:i<u[j].stps.length:=l;obtain⟨ns,n,e2⟩:=hS _ (XG l);delta Lo;simp!;exact⟨u[j].name,u[j].stps[i],a,b,F,rfl,O _ _ (L _ _ ha4),O _ _ (L _ _ hb4),nd,_bM e2,nm,λM9 s9 e=>(g _ _ _).mpr ⟨O.trans s9,V9 (p:=λ_ s=>endF F u[j].name s=none) l C e,_,rfl⟩,λM9 c s9 e=>q2 _ _ (Z.trans (L.trans (O.trans s9))) (VT hi (VT (X6 l) e C) B)⟩
  .rintro m M'' h2;obtain⟨O,C,N,rfl⟩:=(g _ _ _).mp h2
   try walk_at "s"
   refine(Y _ _ _).mpr ⟨L.trans O,V9 (p:=λ_ (I:Isl)=>I.stps.findSome? (endF F I.name)=none) hj B (Ue λs hs=>?_),_,_,rfl⟩;obtain⟨i,l,rfl⟩:=Y3 hs;exact C i _ (by show i<(u[j].stps.map Stp.mv).length;rw[X5];exact l) (X6 l)
 .rintro m q h;obtain⟨L,B,_⟩:=(Y _ _ _).mp h;refine q1 _ (Z.trans L) (Ue λI hI'=>?_);obtain⟨i,l,rfl⟩:=Y3 hI';exact B i _ (by show i<E.length;rw[S.1];exact l) (X6 l)
theorem FroD.up{M:MH}:∀{n:Nat} {v j:MV},FroD n M v j->FroD (n+1) M v j
 |0,_,_,h=>.inl h
 |n+1,v,j,h=>by
  rcases h with h|⟨l,u,y,z,m⟩
  .exact .inl h
  .exact .inr ⟨l,u,y,z,λp g=>(m p g).up⟩
theorem FroD.to{M:MH}{n m:Nat}{v j:MV}(h:FroD n M v j)(l:n<=m):FroD m M v j:=by
 obtain⟨d,rfl⟩:∃d,m=n+d:=⟨m - n,by lia⟩
 clear l
 induction d with
 |zero=>exact h
 |succ d u=>exact u.up
theorem fro_str{M:MH}{z:Str}:FroD 0 M (.str z) (.str z):=⟨.inr ⟨z,rfl⟩,rfl⟩
theorem fro_int{M:MH}{i:Int}:FroD 0 M (.int i) (.int i):=⟨.inl ⟨i,rfl⟩,rfl⟩
theorem _S{M:MH}{n:Nat}{j:List MV}(l:j.length<=1000)(h:∀x∈j,FroD n M x x):FroD (n+1) M (.tup j) (.tup j):=by
 have u:(j.map λx=>(x,x)).map (·.1)=j:=by rw[Ym];exact W8 j
 have y:(j.map λx=>(x,x)).map (·.2)=j:=by rw[Ym];exact W8 j
 refine .inr ⟨j.map λx=>(x,x),.inl (by rw[u]),by rw[y],by rw[X5];exact l,λp z=>?_⟩
 obtain⟨x,m,rfl⟩:=Xt.mp z;exact h x m
theorem FD{M:MH}{n:Nat}{a:Addr}{j:List MV}(e:M a=some (.lst j))(l:j.length<=1000)(h:∀x∈j,FroD n M x x):FroD (n+1) M (.ref a) (.tup j):=by
 have u:(j.map λx=>(x,x)).map (·.1)=j:=by rw[Ym];exact W8 j
 have y:(j.map λx=>(x,x)).map (·.2)=j:=by rw[Ym];exact W8 j
 refine .inr ⟨j.map λx=>(x,x),.inr ⟨a,rfl,by rw[u];exact e⟩,by rw[y],by rw[X5];exact l,λp z=>?_⟩
 obtain⟨x,m,rfl⟩:=Xt.mp z;exact h x m
theorem UB{M:MH}:∀U:Tm,FroD U.depth M U.mv U.mv
 |.num n=>_S (j:=[.str "num",.int n]) (by simp) (by
   intro x j;simp only[Xm,Ya,or_false]at j;rcases j with rfl|rfl
   .exact fro_str
   .exact fro_int)
 |.var z=>_S (j:=[.str "var",.str z]) (by simp) (by
   intro x j;simp only[Xm,Ya,or_false]at j;rcases j with rfl|rfl
   .exact fro_str
   .exact fro_str)
 |.two f a b=>by
  have l:=UB (M:=M) a;have u:=UB (M:=M) b;show FroD (1+max a.depth b.depth) M (.tup [.str f.str,a.mv,b.mv]) (.tup [.str f.str,a.mv,b.mv]);rw[Nat.add_comm];refine _S (by simp) λx j=>?_
  simp only[Xm,Ya,or_false]at j;rcases j with rfl|rfl|rfl
  .exact fro_str.to (Zj _)
  .exact l.to (by lia)
  .exact u.to (by lia)
 |.pick c a b=>by
  have y:=UB (M:=M) c;have l:=UB (M:=M) a;have u:=UB (M:=M) b;show FroD (1+max c.depth (max a.depth b.depth)) M (.tup [.str "pick",c.mv,a.mv,b.mv]) (.tup [.str "pick",c.mv,a.mv,b.mv]);rw[Nat.add_comm];refine _S (by simp) λx j=>?_
  simp only[Xm,Ya,or_false]at j;rcases j with rfl|rfl|rfl|rfl
  .exact fro_str.to (Zj _)
  .exact y.to (by lia)
  .exact l.to (by lia)
  .exact u.to (by lia)
theorem _j6{M:MH}{fs l:List Str}{n:Nat}{S:Stp}(h:Z0 fs l n S):FroD 9 M S.mv S.mv:=by
 cases S with
 |take f x=>
  refine _S (j:=[.str "take",.str f,.str x]) (by simp) fun v j=>?_
  simp only[Xm,Ya,or_false]at j;rcases j with rfl|rfl|rfl<;>exact fro_str.to (by decide)
 |give f U=>
  refine _S (j:=[.str "give",.str f,U.mv]) (by simp) fun v j=>?_
  simp only[Xm,Ya,or_false]at j;rcases j with rfl|rfl|rfl
  .exact fro_str.to (by decide)
  .exact fro_str.to (by decide)
  .exact(UB U).to h.2.1
 |put f U=>
  refine _S (j:=[.str "put",.str f,U.mv]) (by simp) fun v j=>?_
  simp only[Xm,Ya,or_false]at j;rcases j with rfl|rfl|rfl
  .exact fro_str.to (by decide)
  .exact fro_str.to (by decide)
  .exact(UB U).to h.2.1
 |jump U i=>
  refine _S (j:=[.str "jump",U.mv,.int i]) (by simp) fun v j=>?_
  simp only[Xm,Ya,or_false]at j;rcases j with rfl|rfl|rfl
  .exact fro_str.to (by decide)
  .exact(UB U).to h.1.1
  .exact fro_int.to (by decide)
theorem _k4{M:MH}{k:Nat}{fs:List Str}{I:Isl}{y:MV}(ok:IslOk k fs I)(h:IslIn M I y):FroD 11 M y I.mv:=by
 obtain⟨a,b,rfl,z,m⟩:=h;have d:=ok.nv;have c:=ok.ns;refine .inr ⟨[(.str I.name,.str I.name),(.ref a,.tup (I.prs.map prV)),(.ref b,.tup (I.stps.map Stp.mv))],.inl rfl,rfl,by simp,λp l=>?_⟩
 simp only[Xm,Ya,or_false]at l;rcases l with rfl|rfl|rfl
 .exact fro_str.to (by decide)
 .refine FD z (by rw[X5];lia) λx j=>?_
  obtain⟨q,_,rfl⟩:=Xt.mp j;refine(_S (n:=0) (j:=[.str q.1,.int q.2]) (by simp) λv u=>?_).to (by decide)
  simp only[Xm,Ya,or_false]at u;rcases u with rfl|rfl
  .exact fro_str
  .exact fro_int
 .refine FD m (by rw[X5];lia) λx j=>?_
  obtain⟨S,g,rfl⟩:=Xt.mp j;exact _j6 (ok.st S g)
theorem _km{M:MH}(f:RFer):FroD 1 M f.mv f.mv:=by
 refine _S (j:=[.str f.name,.str f.giver,.str f.taker,.int f.k,.int f.st]) (by simp) λv j=>?_
 simp only[Xm,Ya,or_false]at j;rcases j with rfl|rfl|rfl|rfl|rfl
 .exact fro_str
 .exact fro_str
 .exact fro_str
 .exact fro_int
 .exact fro_int
theorem _hA{M:MH}{k:Nat}{fs:List Str}{Is:List Isl}{j:List MV}{p:Addr}(z:M p=some (.lst j))(h:IslsIn M Is j)(l:Is.length<=5)(ok:∀I∈Is,IslOk k fs I):FroD 12 M (.ref p) (.tup (Is.map Isl.mv)):=by
 have f:=h.1;have m:(j.zip (Is.map Isl.mv)).map (·.1)=j:=List.map_fst_zip (by rw[X5];lia)
 have g:(j.zip (Is.map Isl.mv)).map (·.2)=Is.map Isl.mv:=List.map_snd_zip (by rw[X5];lia)
 refine .inr ⟨j.zip (Is.map Isl.mv),.inr ⟨p,rfl,by rw[m];exact z⟩,by rw[g],by rw[UN,X5];lia,λq d=>?_⟩
 obtain⟨i,c,rfl⟩:=Y3 d;rw[UN,X5]at c;have y:i<j.length:=by lia
 have u:i<Is.length:=by lia
 rw[List.getElem_zip,Up];exact _k4 (ok _ (XG u)) (h.2 i _ _ (X6 u) (X6 y))
noncomputable def fstM:MV->MV
 |.tup (x::_)=>x
 |v=>v
structure RW.Sh (R:RW):Prop where
 i:R.isl.length<=100
 f:R.fer.length<=100
 il:∀I∈R.isl,IslSh I
 fe:∀f∈R.fer,ShortT f.name/\ShortT f.giver/\ShortT f.taker
noncomputable def RW.f0(R:RW):Option Str:=if 1<=R.w/\R.w<=64 then none else some ("NoWidth":Str)
noncomputable def RW.f1(R:RW):Option Str:=if 5<R.isl.length\/6<R.fer.length then some ("TooMany":Str)else none
def RW.f2(R:RW):Option Str:=fnsF R.fer
def RW.f3(R:RW):Option Str:=rowF R.isl (islG R.w.toNat R.fns R.isl)
def RW.f4(R:RW):Option Str:=rowF R.fer λ_ f=>ferF R.ins f
def RW.f5(R:RW):Option Str:=Py R.isl R.fer
noncomputable def RW.fault(R:RW):Option Str:=R.f0.or (R.f1.or (R.f2.or (R.f3.or (R.f4.or R.f5))))
theorem RW.f2_ok{R:RW}(h:R.f2=none):R.fns.Nodup/\∀f∈R.fer,XF f.name:=by
 have one:∀(j:Nat)f,R.fer[j]?=some f->XF f.name/\f.name∉R.fns.take j:=λj f e=>name_ok.mp (_r h e);refine⟨FA λj z e=>?_,λf u=>?_⟩
 .unfold RW.fns at e;rw[Xj]at e;cases l:R.fer[j]? with
  |none=>rw[l]at e;cases e
  |some f=>rw[l]at e;cases e;exact(one j f l).2
 .obtain⟨j,y,rfl⟩:=Y3 u;exact(one j _ (X6 y)).1
theorem RW.f3_ok{R:RW}(h:R.f3=none){j:Nat}{I:Isl}(e:R.isl[j]?=some I):XF I.name/\I.name∉R.fns++R.ins.take j/\IslOk R.w.toNat R.fns I:=by
 obtain⟨l,u⟩:=or_none.mp (_r h e);obtain⟨g,n⟩:=name_ok.mp l;exact⟨g,n,FC u⟩
abbrev C9:SpX:=λu M Q X=>∃(p f:Addr) (l:List MV) (R:RW),u=[.int R.w,.ref p,.ref f]/\M p=some (.lst l)/\IslsIn M R.isl l/\M f=some (.lst (R.fer.map RFer.mv))/\R.Sh/\(∀j v,SameM M j->R.fault=none->Q v j)/\∀j c,SameM M j->R.fault=some c->X c j
theorem _dk:MonX C9:=by
 rintro O M Q R X T l u ⟨p,f,y,W,z,m,g,d,q,L,N⟩;exact⟨p,f,y,W,z,m,g,d,q,λj v s e=>l _ _ (L j v s e),λj c s e=>u _ _ (N j c s e)⟩
theorem _jE(T:Txt K mg t):FnOk P w K mg base (CX1 P w) 56 t.bN t.dA ["width","islands","ferries"] (Yw K C9):=by
 refine T.aV.F.okX (G:=LM) _ja (Xw (u:=[("frozen",(Zq 13)),("is_width",Ar)]) (Xx T) (Xy T) rfl (fMc ⟨(BS _),(fMc ⟨Pp,nl0⟩)⟩) (fMc ⟨⟨_,_,_,FnOk.mono (Pl T 13) (by decide),T.ag.m,T.ag.F.kp,T.ag.b⟩,(fMc ⟨⟨_,_,_,FnOk.mono (_dh T) (by decide),T.b4.m,T.b4.F.kp,T.b4.b⟩,nl0⟩)⟩):Fts P w K mg base 55 LL [("frozen",(Zq 13)),("is_width",Ar)]) (YZ (u:=[("refuse_ferry",C6),("refuse_ferry_names",BY),("refuse_islands",C5),("refuse_wrong_ends",C8)]) rfl (fMc ⟨_7k,(fMc ⟨_42,(fMc ⟨_5A,(fMc ⟨_4j,nl0⟩)⟩)⟩)⟩) (fMc ⟨⟨_,_,_,(FnOk.mono (_9U T) (by decide)),T.aY.m,T.aY.F.kp,T.aY.b⟩,(fMc ⟨⟨_,_,_,(FnOk.mono (_5y T) (by decide)),T.bb.m,T.bb.F.kp,T.bb.b⟩,(fMc ⟨⟨_,_,_,(FnOk.mono (_8F T) (by decide)),T.aM.m,T.aM.F.kp,T.aM.b⟩,(fMc ⟨⟨_,_,_,(FnOk.mono (_6q T) (by decide)),T.aN.m,T.aN.F.kp,T.aN.b⟩,nl0⟩)⟩)⟩)⟩):FtX P w K mg base 55 ["refuse_ferry","refuse_ferry_names","refuse_islands","refuse_wrong_ends"] [("refuse_ferry",C6),("refuse_ferry_names",BY),("refuse_islands",C5),("refuse_wrong_ends",C8)]) T.ex Es _kt (fun vs M Q X h=>?_) (fun vs M Q X h=>?_)
 .obtain⟨p,f,Z,W,rfl,_⟩:=h;rfl
 obtain⟨p,f,Z,R,rfl,A,O,U,B,q1,m⟩:=h;have C:=YJ (u:=[("frozen",Zq 13),("is_width",Ar)]) (fMc ⟨BS 13,fMc ⟨Pp,fun _ h=>nomatch h⟩⟩);show wXs _ _ _ _ _ [some (.int R.w),some (.ref p),some (.ref f),none,none] M;have hl:=O.1;have l1:=B.i;have l2:=B.f;delta Es LK;simp!;refine⟨R.w,rfl,λb hb=>?_⟩;simp!;refine Xe (λc=>?_) (λc0=>?_)
 .delta LJ;simp!;refine m _ _ (SameM.refl _) ?_;have e:R.f0=some ("NoWidth":Str):=if_neg fun g=>by rw[hb.mpr g]at c;cases c
  rw[RW.fault,e];rfl
 have w0:=hb.mp (by cases b<;>simp_all)
 have E0:R.f0=none:=if_pos w0;have ew:R.w=((R.w.toNat:Nat):Int):=by lia
 delta LI
 simp![A]
 refine Xe (λc=>?_) (λc1=>?_)
 .delta LH;simp!;refine m _ _ (SameM.refl _) ?_;have e:R.f1=some ("TooMany":Str):=if_pos (.inl (by lia))
  rw[RW.fault,E0,e];rfl
 delta LG
 simp![U,X5]
 refine Xe (λc=>?_) (λc2=>?_)
 .delta LF;simp!;refine m _ _ (SameM.refl _) ?_;have e:R.f1=some ("TooMany":Str):=if_pos (.inr (by lia))
  rw[RW.fault,E0,e];rfl
 have E1:R.f1=none:=if_neg (by lia)
 have E:R.fault=R.f2.or (R.f3.or (R.f4.or R.f5)):=by rw[RW.fault,E0,E1];rfl
 delta LD;simp!;refine⟨f,R.fer,rfl,U,l2,λx d=>(B.fe x d).1,λM1 s1 e2=>?_,λM1 c s1 e=>m _ _ s1 (by rw[E,RW.f2,e];rfl)⟩
 have E2:R.f2=none:=e2;rw[E2,Vx]at E;obtain⟨nd,gd⟩:=RW.f2_ok E2;have F:=s1 _ _ U;delta LC;simp!;refine _b R.fer RFer.mv (λx=>.str x.name) ?_ ?_ C λD hD=>?_
 .simp![F]
  exact⟨rfl,by lia,F⟩
 .intro x d l s;simp only[sCm,Xp,Y6,Yi,Yj,Yc,Ye]
  simp![RFer.mv]
  try exact⟨rfl,rfl⟩
 have eF:(R.fer.map λx=>MV.str x.name)=R.fns.map MV.str:=by unfold RW.fns;rw[Ym];rfl
 rw[eF];have s2:=s1.trans (SameM.new hD (.lst (R.fns.map MV.str)));have hD2:updM M1 D (.lst (R.fns.map MV.str)) D=some (.lst (R.fns.map MV.str)):=Xb;generalize updM M1 D _=M2 at*
 try walk_at "s"
 refine⟨R.w.toNat,p,D,R.isl,Z,R.fns,by rw[<-ew],by lia,s2 _ _ A,O.keep s2,by lia,by unfold RW.fns;rw[X5];lia,hD2,B.il,λM3 s3 e=>?_,λM3 c s3 e=>m _ _ (s2.trans s3) (by rw[E,RW.f3,e];rfl)⟩
 have E3:R.f3=none:=e;rw[E3,Vx]at E;have s4:=s2.trans s3;have H:=s4 _ _ A;have hf3:=s4 _ _ U;have hI3:=O.keep s4;delta LB;simp!;refine _b Z (λy=>y) fstM ?_ ?_ C λD hD=>?_
 .simp![H]
  exact⟨by simp[Src.items],by lia,H⟩
 .intro y hy l s;obtain⟨I,_,a,b,rfl,_⟩:=hI3.mem hy;simp only[sCm,Xp,Y6,Yi,Yj,Yc,Ye];simp!
  rfl
 have eI:Z.map fstM=R.ins.map MV.str:=O.fst λz r=>rfl;rw[eI];have s5:=s4.trans (SameM.new hD (.lst (R.ins.map MV.str)));have hD5:updM M3 D (.lst (R.ins.map MV.str)) D=some (.lst (R.ins.map MV.str)):=Xb;generalize updM M3 D _=M5 at*;have q:=s5 _ _ U;delta LA
 simp![q]
 obtain⟨J,o⟩:∃J:Nat->Sm->MH->Prop,∀j σ l,J j σ l↔SameM M5 l/\(∀(i:Nat)x,i<j->R.fer[i]?=some x->ferF R.ins x=none)/\∃v,σ=[some (.int R.w),some (.ref p),some (.ref f),some (.ref D),v]:=⟨_,λ_ _ _=>YY⟩;refine⟨trivial,J,(o _ _ _).mpr ⟨SameM.refl _,λi x z=>by lia,_,rfl⟩,λj σ l h=>((o _ _ _).mp h).1 _ _ q,?_,?_⟩
 .rintro j y σ l hy h;obtain⟨Y,hn,v,rfl⟩:=(o _ _ _).mp h;obtain⟨L,rfl⟩:=_c (show(R.fer.map RFer.mv)[j]?=some y from hy);have L:j<R.fer.length:=L;have sh:=B.fe _ (XG L);delta Lz;simp!;exact⟨R.fer[j],D,R.ins,rfl,Y _ _ hD5,sh.2.1,sh.2.2,λM7 N e=>(o _ _ _).mpr ⟨Y.trans N,V9 (p:=λ_ x=>ferF R.ins x=none) L hn e,_,rfl⟩,λM7 c N e=>m _ _ (s5.trans (Y.trans N)) (by rw[E,RW.f4,_R (X6 L) e hn];rfl)⟩
 .rintro σ l h;obtain⟨Y,hn,v,rfl⟩:=(o _ _ _).mp h;have E4:R.f4=none:=Uf λi x d=>hn i x (by show i<(R.fer.map RFer.mv).length;rw[X5];exact(Xz.mp d).1) d
  rw[E4,Vx]at E;have io:∀I∈R.isl,IslOk R.w.toNat R.fns I:=λI hI'=>by
   obtain⟨j,L,rfl⟩:=Y3 hI';exact(RW.f3_ok E3 (X6 L)).2.2
  have u:=s5.trans Y;delta Ly;simp!;refine⟨p,f,Z,R.isl,R.fer,rfl,u _ _ A,O.keep u,by lia,Y _ _ q,by lia,nd,λI hi=>⟨(B.il I hi).nm,(io I hi).ns,λS hS=>⟨_,_,(io I hi).st S hS⟩⟩,λM6 N e5=>?_,λM6 c N e=>m _ _ (u.trans N) (by rw[E];exact e)⟩
  have s8:=u.trans N;delta Lx;simp!;refine⟨_,.tup [.int R.w,.tup (R.isl.map Isl.mv),.tup (R.fer.map RFer.mv)],rfl,?_,λl s'=>q1 l _ (s8.trans s') (by rw[E];exact e5)⟩
  refine .inr ⟨[(.int R.w,.int R.w),(.ref p,.tup (R.isl.map Isl.mv)),(.ref f,.tup (R.fer.map RFer.mv))],.inl rfl,rfl,by simp,λz hz=>?_⟩
  simp only[Xm,Ya,or_false]at hz;rcases hz with rfl|rfl|rfl
  .exact fro_int.to (by decide)
  .exact _hA (s8 _ _ A) (O.keep s8) (by lia) io
  .refine(FD (n:=1) (s8 _ _ U) (by rw[X5];lia) λx d=>?_).to (by decide)
   obtain⟨y,_,rfl⟩:=Xt.mp d;exact _km y
noncomputable def SrcFrom(S:Src)(M M1:MH):Prop:=(S.okF M1/\M1=M)\/False
theorem SrcFrom.free{S:Src}{M M1:MH}(h:SrcFrom S M M1){p:Addr}(j:M1 p=none):M p=none:=by
 rcases h with⟨_,rfl⟩|h
 .exact j
 .exact h.elim
theorem SrcFrom.ok{S:Src}{M M1 M2:MH}(h:SrcFrom S M M1)(s:SameM M1 M2):S.ok M2:=by
 rcases h with⟨j,rfl⟩|h
 .cases S with
  |tup _=>trivial
  |rng _ _=>trivial
  |str _=>trivial
  |lst a l=>exact s _ _ j
 .exact h.elim
theorem SrcFrom.thaw{S:Src}{M M1 M2:MH}(h:SrcFrom S M M1)(s:SameM M1 M2):SameM M (S.thaw M2)/\∀a,M1 a=none->(S.thaw M2) a=M2 a:=by
 rcases h with⟨j,rfl⟩|h
 .rw[VO j];exact⟨s,λ_ _=>rfl⟩
 .exact h.elim
theorem Pz{F:List (Str×SpM)}{own:List Str}{fr:List Nat}{L:ISr}{v:ITg}{O:IE}{s:Sm}{M:MH}{Q:QM}{n:Type}(g:List n)(f:n->MV)(C:n->MV->List Addr->MH->Prop)(Pm:MH->Prop)
  (hC:∀x y N M2 T,(∀a∈N,T a=M2 a)->C x y N M2->C x y N T)
  (hs:wSr F L s M λS M1=>S.items=g.map f/\g.length<sizeLine/\SrcFrom S M M1/\Pm M1)
  (ht:∀x∈g,∀M1 d,Pm M1->SameM M1 d->wTg v (f x) (sCm own fr s) λA=>wE F O A d λy M2=>SameM d M2/\∃N:List Addr,N.Nodup/\(∀a∈N,d a=none/\∃o,M2 a=some o)/\C x y N M2)
  (B:∀(j:Nat)f sp,F[j]?=some (f,sp)->MonW sp)
  (q:∀D (m:List MV)(u:List (List Addr))d,M D=none->SameM M d->m.length=g.length->u.length=g.length->u.flatten.Nodup->D∉u.flatten->(∀a∈u.flatten,M a=none)->
   (∀(j:Nat)x y N,g[j]?=some x->m[j]?=some y->u[j]?=some N->C x y N d)->d D=some (.lst m)->Q (.ref D) d):wE F (.comp own fr L v .none O) s M Q:=by
 rw[VN];refine mon_sr B L (λS M1 ⟨h1,h2,G,h4⟩=>?_) hs;have hl:S.len=g.length:=by rw[<-S.items_len,h1,X5]
 refine⟨by rw[hl];exact h2,λD I=>⟨λi m M2=>SameM M1 M2/\M2 D=some (.lst m)/\m.length=i/\∃u:List (List Addr),u.length=i/\u.flatten.Nodup/\D∉u.flatten/\(∀a∈u.flatten,M1 a=none/\∃o,M2 a=some o)/\(∀(j:Nat)x y N,g[j]?=some x->m[j]?=some y->u[j]?=some N->C x y N M2),⟨SameM.new I _,Xb,rfl,[],rfl,by simp,by simp,by simp,by simp⟩,?_,?_,?_⟩⟩
 .rintro i m M2 ⟨R,U,e,_⟩;exact⟨U,by lia,G.ok R⟩
 .rintro i x m M2 hx ⟨R,U,e,u,n1,n2,E,W,n5⟩;rw[h1]at hx;obtain⟨hi,rfl⟩:=_c hx;refine Uc v (λA h=>?_) (ht g[i] (XG hi) M1 M2 h4 R);rw[wI,if_pos rfl];refine X7 B O (λy T ⟨J,N,m1,X,m3⟩=>?_) h;have dN:D∉N:=λz=>by have:=(X _ z).1;rw[U]at this;cases this
  have keep:∀a,a≠D->updM T D (.lst (m++[y])) a=T a:=λa z=>_l z;have fl:(u++[N]).flatten=u.flatten++N:=by simp
  refine⟨J _ _ U,λa o z=>by rw[_l (neM z I)];exact J _ _ (R _ _ z),Xb,by simp[e],u++[N],by simp[n1],?_,?_,?_,?_⟩
  .rw[fl,AO];refine⟨n2,m1,λa l b hb z=>?_⟩;subst z;obtain⟨_,o,ho⟩:=W _ l;rw[(X _ hb).1]at ho;cases ho
  .rw[fl,XZ];exact λz=>z.elim E dN
  .rw[fl];intro a l;have aD:a≠D:=λz=>by
    subst z;rcases XZ.mp l with l|l
    .exact E l
    .exact dN l
   rw[keep a aD];rcases XZ.mp l with l|l
   .obtain⟨z1,o,H⟩:=W _ l;exact⟨z1,o,J _ _ H⟩
   .exact⟨R.free (X _ l).1,(X _ l).2⟩
  .intro j x' y' N' p Y Z;by_cases hj:j<i
   .rw[YU (by lia)]at Y Z
    refine hC _ _ _ M2 _ (λa l=>?_) (n5 j x' y' N' p Y Z);have hm:a∈u.flatten:=List.mem_flatten.mpr ⟨N',Y5 Z,l⟩;rw[keep a λz=>E (z▸hm)];obtain⟨_,o,H⟩:=W _ hm;rw[H];exact J _ _ H
   .have hj:j=i:=by
     have:=(Xz.mp Y).1;simp at this;lia
    subst hj;rw[Zh (by lia),e,B3]at Y
    rw[Zh (by lia),n1,B3]at Z
    rw[X6 hi]at p;simp at p Y Z;subst p Y Z;exact hC _ _ _ T _ (λa l=>keep a λz=>dN (z▸l)) m3
 .rintro m M2 ⟨R,U,e,u,n1,n2,E,W,n5⟩;obtain⟨t1,t2⟩:=G.thaw R;refine q D m u _ (G.free I) t1 (by lia) (by lia) n2 E (λa l=>G.free (W a l).1) (λj x y N a b c=>?_) (by rw[t2 _ I];exact U)
  exact hC _ _ _ M2 _ (λz hz=>t2 _ (W z (List.mem_flatten.mpr ⟨N,Y5 c,hz⟩)).1) (n5 j x y N a b c)
theorem PB{j l:Type}{u:List j}{y:List l}{p:j×l}(h:p∈u.zip y):∃i:Nat,u[i]?=some p.1/\y[i]?=some p.2:=by
 obtain⟨i,z,rfl⟩:=Y3 h;rw[UN]at z;refine⟨i,?_,?_⟩<;>rw[List.getElem_zip,X6]
theorem PC{j l:Type}{u:List j}{z:List l}{i:Nat}{x:j}{y:l}(h1:u[i]?=some x)(h2:z[i]?=some y):(u.zip z)[i]?=some (x,y):=by
 rw[G1];exact⟨h1,h2⟩
abbrev Ca:SpX:=λz M Q X=>∃(W:RW) (l u:Addr) (y:List MV),z=[.tup [.int W.w,.ref l,.ref u]]/\W.Sh/\M l=some (.lst y)/\IslsIn M W.isl y/\M u=some (.lst (W.fer.map RFer.mv))/\(∀j v,SameM M j->W.fault=none->Q v j)/\∀j c,SameM M j->W.fault=some c->X c j
theorem _9y:MonX Ca:=by
 rintro O M Q R X T l u ⟨W,y,z,m,g,d,f,q,p,L,N⟩;exact⟨W,y,z,m,g,d,f,q,p,λj v s e=>l _ _ (L j v s e),λj c s e=>u _ _ (N j c s e)⟩
theorem _ct(T:Txt K mg t):FnOk P w K mg base (CX1 P w) 57 t.bq t.c8 ["parts"] (Yw K Ca):=by
 refine T.aL.F.okX (G:=Nf) _ck (Xw (u:=[]) (Xx T) (Xy T) rfl nl0 nl0:Fts P w K mg base 56 Nd []) (YZ (u:=[("made",C9)]) rfl (fMc ⟨_dk,nl0⟩) (fMc ⟨⟨_,_,_,(FnOk.mono (_jE T) (by decide)),T.aV.m,T.aV.F.kp,T.aV.b⟩,nl0⟩):FtX P w K mg base 56 ["made"] [("made",C9)]) T.ex EK _cM (fun vs M Q X h=>?_) (fun vs M Q X h=>?_)
 .obtain⟨_,_,_,_,rfl,_⟩:=h;rfl
 obtain⟨W,pi,pf,z,rfl,G,m,g,R,q1,q2⟩:=h;show wXs _ _ _ _ _ [some (.tup [.int W.w,.ref pi,.ref pf]),none] M;have i5:=G.i;have U:=g.1;have Y:=(YJ (u:=[]) nl0);delta EK Nc;simp!;refine Pz (W.isl.zip z) (·.2) (λx y N M2=>∃a b,N=[a,b]/\y=.tup [.str x.1.name,.ref a,.ref b]/\M2 a=some (.lst (x.1.prs.map prV))/\M2 b=some (.lst (x.1.stps.map Stp.mv))) (λM1=>M1=M) ?_ ?_ ?_ Y λD zs Ns M1 hD Z l1 l2 nd1 dn1 fr1 at1 hd1=>?_
 .rintro x y N M2 n hk ⟨a,b,rfl,A,B,e3⟩;exact⟨a,b,rfl,A,by rw[hk a (by simp)];exact B,by rw[hk b (by simp)];exact e3⟩
 .simp![m]
  exact⟨show z=(W.isl.zip z).map (·.2)from(List.map_snd_zip (by lia)).symm,by rw[UN];lia,.inl ⟨m,rfl⟩⟩
 .rintro⟨I,y⟩ L M1 M' rfl s;obtain⟨i,A,B⟩:=PB L;obtain⟨a,b,rfl,C,d⟩:=g.2 i I y A B;have E:=s _ _ C;have F:=s _ _ d;simp only[sCm,Xp,Y6,Yi,Yj,Yc,Ye]
  simp![E]
  intro p hp;have J:=SameM.new hp (.lst (I.prs.map prV));have j:updM M' p (.lst (I.prs.map prV)) p=some (.lst (I.prs.map prV)):=Xb;have S:=J _ _ F
  simp![S]
  intro p' l;have u:=SameM.new l (.lst (I.stps.map Stp.mv));refine⟨J.trans u,[p,p'],by simp[neM j l],?_,p,p',rfl,rfl,u _ _ j,Xb⟩
  intro x L;simp only[Xm,Ya,or_false]at L;rcases L with rfl|rfl
  .exact⟨hp,_,u _ _ j⟩
  .exact⟨J.free l,_,Xb⟩
 delta Nb;simp!;have f:=Z _ _ R
 simp![f]
 intro O H;have q:=SameM.new H (.lst (W.fer.map RFer.mv));have d:updM M1 O (.lst (W.fer.map RFer.mv)) O=some (.lst (W.fer.map RFer.mv)):=Xb;generalize updM M1 O _=M2 at*;refine⟨D,O,zs,W,rfl,q _ _ hd1,⟨by rw[l1,UN];lia,λi I y hI hy=>?_⟩,d,G,λn v o e=>q1 _ v ((Z.trans q).trans o) e,λn c o e=>q2 _ _ ((Z.trans q).trans o) e⟩
 have hi:i<z.length:=by rw[U];exact(Xz.mp hI).1
 have hN:i<Ns.length:=by rw[l2,UN];lia
 obtain⟨a,b,_,e,C,d⟩:=at1 i (I,z[i]) y _ (PC hI (X6 hi)) hy (X6 hN);exact⟨a,b,e,q _ _ C,q _ _ d⟩
noncomputable abbrev Zx:SpM:=λj M Q=>∃(l:List Int) (k:Nat),j=[.frl (l.map .int),.int k]/\k<=1000/\∀v:Int,Q (.int v) M
theorem Au:MonW Zx:=by walk_at "m"
theorem PD(T:Txt K mg t):FnOk P w K mg base CX0 1 t.df t.ck ["script","k"] (liSp K Zx):=by
 refine T.aq.F.okM _cl (Xw (u:=[]) (Xx T) (Xy T) rfl nl0 nl0:Fts P w K mg base 0 LQ []) Et _cN (λl M Q h=>?_) (λl M Q h=>?_)
 .obtain⟨_,_,rfl,_⟩:=h;rfl
 obtain⟨j,k,rfl,u,q⟩:=h;show wSs _ _ _ [some (.frl (j.map .int)),some (.int k)] M;delta Et LP;simp!;rw[X5];refine Xe (λc=>?_) (λc=>?_)
 .delta LO;simp!;have y:k<j.length:=by omega
  refine⟨.int j[k],Xv (by rw[Xj,X6 y];rfl),?_⟩
  simp!;exact q _
 .delta LN;simp!;exact⟨.inl ⟨by omega,by omega⟩,q _⟩
noncomputable def Xk(n s:Int):Int:=(n*69621+s*16807+1013)%2147483647*((n*69621+s*16807+1013)%2147483647)%2147483629
theorem Va(n s:Int):0<=Xk n s/\Xk n s<2147483629:=⟨XR _ (by decide),XT _ (by decide)⟩
abbrev Xg:SpM:=λj M Q=>∃n s:Int,j=[.int n,.int s]/\Q (.int (Xk n s)) M
theorem Yb:MonW Xg:=by walk_at "m"
theorem _d(T:Txt K mg t):FnOk P w K mg base CX0 1 t.c7 t.dn ["number","salt"] (liSp K Xg):=by
 refine T.aa.F.okM _dd (Xw (u:=[]) (Xx T) (Xy T) rfl nl0 nl0:Fts P w K mg base 0 LU []) Eu _dG (λj M Q h=>?_) (λj M Q h=>?_)
 .obtain⟨n,s,rfl,_⟩:=h;rfl
 obtain⟨n,s,rfl,q⟩:=h;show wSs _ _ _ [some (.int n),some (.int s),none] M;delta Eu LS;simp!;delta LR;simp!;refine⟨.inl ⟨by omega,by omega⟩,?_⟩
 exact q
def PF(n:Int):Int:=(Xk n 7*2147483629+Xk n 8)*8+n%8
def UC(n:Int)(w:Nat):Int:=(if n/8%4=0\/n/8%4=1 then PF n else if n/8%4=2 then 0 else 2^w - 1)%2^w
theorem _dp(n:Int)(w:Nat):0<=UC n w/\UC n w<2^w:=_m4 _ _
abbrev Ug:SpM:=λl M Q=>∃(n:Int) (w:Nat),l=[.int n,.int w]/\w<=64/\∀j,SameM M j->Q (.int (UC n w)) j
theorem FE:MonW Ug:=by walk_at "m"
theorem PH(T:Txt K mg t):FnOk P w K mg base CX0 2 t.bB t.bj ["number","width"] (liSp K Ug):=by
 refine T.am.F.okM _ch (Xw (u:=[("_law_mix",Xg)]) (Xx T) (Xy T) rfl (fMc ⟨Yb,nl0⟩) (fMc ⟨⟨_,_,_,(FnOk.mono (_d T) (by decide)),T.aa.m,T.aa.F.kp,T.aa.b⟩,nl0⟩):Fts P w K mg base 1 Mm [("_law_mix",Xg)]) Ew _cJ (fun u M Q h=>?_) (fun u M Q h=>?_)
 .obtain⟨_,_,rfl,_⟩:=h;rfl
 obtain⟨n,w,rfl,g,q⟩:=h;show wSs _ _ _ [some (.int n),some (.int w),none] M;delta Ew Ml;simp!;refine⟨n,7,rfl,?_⟩;simp!;refine⟨n,8,rfl,?_⟩;simp!;delta Mj;simp!;have y:(1:Int)*2^((w:Nat):Int).toNat=2^w:=by rw[ZJ,Int.one_mul]
 rw[y];refine⟨⟨by omega,by omega⟩,λp z=>?_⟩
 have s:=λo=>q _ (SameM.new z o);have m:=Fi w;have j:∀(v:Int)(l:MH),Q (.int (v%2^w)) l->wBin Operator.Mod (.int v) (.int (2^w)) l Q:=λv l h=>by
  rw[Je];exact⟨m,h⟩
 rcases(show n/8%4=0\/n/8%4=1\/n/8%4=2\/n/8%4=3 by omega)with e|e|e|e<;>simp only[UC,PF,e]at s<;>rw[e]
 .exact⟨_,at0,⟨by omega,by omega⟩,j _ _ (s _)⟩
 .exact⟨_,at1,⟨by omega,by omega⟩,j _ _ (s _)⟩
 .exact⟨_,at2,⟨by omega,by omega⟩,j _ _ (s _)⟩
 .exact⟨_,at3,⟨by omega,by omega⟩,j _ _ (s _)⟩
noncomputable def alph:Str:="abcdefghijklmnopqrstuvwxyz"
theorem _gW:alph.length<=16777216:=by decide+kernel
theorem FF:alph.cps.toList=(XI 26).map (97+·):=by decide+kernel
theorem FG{i:Int}(l:0<=i)(h1:i<26):atI alph.cps.toList i=some (97+i.toNat):=by
 have u:i.toNat<26:=by omega
 have:=Xv (l:=alph.cps.toList) (j:=i.toNat) (v:=97+i.toNat) (by rw[FF,Xj,Vh u];rfl)
 rwa [YW l]at this
theorem _y(c:Nat):(⟨#[c]⟩:Str).length=1:=rfl
theorem UD(a b:Str):(a++b).length=a.length+b.length:=by
 show(a.cps++b.cps).size=_;rw[Array.size_append]
 rfl
theorem _z(a b:Str):(a++b).cps.toList=a.cps.toList++b.cps.toList:=by
 show(a.cps++b.cps).toList=_;rw[B5]
theorem PJ(c:Nat):∀(k:Nat)(j:Array Nat),((XH k #[c]).foldl (·++·) j).toList=j.toList++XH k c
 |0,j=>by simp
 |k+1,j=>by
  rw[List.replicate_succ,W7,PJ c k,B5,Vj,List.replicate_succ];rfl
theorem mul_one(c:Nat)(i:Int):(Txt.mul (⟨#[c]⟩:Str) i).cps.toList=XH i.toNat c:=by
 unfold Txt.mul;by_cases h:i<1
 .rw[if_pos h];have:i.toNat=0:=by omega
  rw[this];rfl
 rw[if_neg h];by_cases h2:(i==1||(⟨#[c]⟩:Str).length==0)=true
 .rw[if_pos h2];rcases(Bool.or_eq_true _ _).mp h2 with e|e
  .have:i=1:=by simpa using e
   subst this;rfl
  .have:(⟨#[c]⟩:Str).length=0:=by simpa using e
   cases this
 .rw[if_neg h2];show((XH i.toNat #[c]).foldl (·++·) #[]).toList=_;rw[PJ];rfl
theorem _1(z:Str):z.length=z.cps.toList.length:=Yn.symm
noncomputable def one(c:Nat):Str:=⟨#[c]⟩
theorem PK:∀(l:List Nat)(j:Array Nat),((l.map one).foldl (fun j p=>j++(YQ "").cps++p.cps) j).toList=j.toList++l
 |[],j=>by simp
 |c::l,j=>by
  rw[Xp,W7,PK l];have:(j++(YQ "").cps++(one c).cps).toList=j.toList++[c]:=by
   rw[B5,B5,show(YQ "").cps.toList=[]from by decide+kernel,U4];rfl
  rw[this,Vj];rfl
theorem _gq(j:List Nat):(ZL (YQ "") (j.map one)).cps.toList=j:=by
 cases j with
 |nil=>decide+kernel
 |cons c j=>
  show(((j.map one)).foldl (fun l p=>l++(YQ "").cps++p.cps) (one c).cps).toList=_;rw[PK];rfl
theorem PL:∀(j:List Nat)(a:Nat),(j.map one).foldl (fun n z=>n+z.length+(YQ "").length) a=a+j.length
 |[],a=>rfl
 |c::j,a=>by
  rw[Xp,W7,PL j];have:(one c).length=1:=rfl;have l:(YQ "").length=0:=by decide+kernel
  rw[this,l,Y0];omega
theorem Av(z:Str)(k:Nat):(cutS z none (some (k:Int))).cps.toList=z.cps.toList.take k:=by
 unfold cutS;simp only[HT.sIx_none,HT.sIx_nat];rw[Cv,Nat.sub_zero];show List.take (min k z.cps.toList.length) _=_;by_cases h:k<=z.cps.toList.length
 .rw[CK h]
 .rw[CJ (by omega),ZE (Xf _),ZE (by omega)]
theorem FH(z:Str)(k:Nat):(cutS z (some (k:Int)) none).cps.toList=z.cps.toList.drop k:=by
 unfold cutS;simp only[HT.sIx_none,HT.sIx_nat];show List.take _ (List.drop (min k _) _)=_;by_cases h:k<=z.cps.toList.length
 .rw[CK h,ZE (by rw[YN];exact Xf _)]
 .rw[CJ (by omega),AL (Xf _),AL (by omega)]
  simp
theorem _h7{i:Int}(l:0<=i)(h1:i<8):∃st:Int,atI [MV.int 1,.int 3,.int 5,.int 7,.int 9,.int 11,.int 15,.int 17] i=some (.int st)/\(st=1\/st=3\/st=5\/st=7\/st=9\/st=11\/st=15\/st=17):=by
 rcases(show i=0\/i=1\/i=2\/i=3\/i=4\/i=5\/i=6\/i=7 by omega)with rfl|rfl|rfl|rfl|rfl|rfl|rfl|rfl
 .exact⟨1,Xv (j:=0) rfl,by omega⟩
 .exact⟨3,Xv (j:=1) rfl,by omega⟩
 .exact⟨5,Xv (j:=2) rfl,by omega⟩
 .exact⟨7,Xv (j:=3) rfl,by omega⟩
 .exact⟨9,Xv (j:=4) rfl,by omega⟩
 .exact⟨11,Xv (j:=5) rfl,by omega⟩
 .exact⟨15,Xv (j:=6) rfl,by omega⟩
 .exact⟨17,Xv (j:=7) rfl,by omega⟩
theorem _h9{f st:Int}(l:st=1\/st=3\/st=5\/st=7\/st=9\/st=11\/st=15\/st=17){k j:Nat}(h:k<17)(u:j<17)(e:(f+k*st)%26=(f+j*st)%26):k=j:=by
 rcases l with rfl|rfl|rfl|rfl|rfl|rfl|rfl|rfl<;>omega
noncomputable def nmA(b:Bool)(l:List Nat)(j:Nat)(f st:Int)(k:Nat):List Nat:=if b then l.take j++(97+((f+k*st)%26).toNat)::l.drop (j+1)else XH (k%4) (97+f.toNat)++[97+((f+k*st)%26).toNat]
theorem _jL{b:Bool}{u:List Nat}{j:Nat}{f st:Int}(y:st=1\/st=3\/st=5\/st=7\/st=9\/st=11\/st=15\/st=17){k l:Nat}(h:k<17)(z:l<17)(e:nmA b u j f st k=nmA b u j f st l):k=l:=by
 have m:97+((f+k*st)%26).toNat=97+((f+l*st)%26).toNat:=by
  unfold nmA at e;cases b with
  |true=>
   rw[if_pos rfl,if_pos rfl]at e;exact(List.cons.inj (G4 e)).1
  |false=>
   rw[if_neg (by simp),if_neg (by simp)]at e
   have:=congrArg List.getLast? e
   simpa using this
 have a:=XR (f+k*st) (show(26:Int)≠0 by decide)
 have g:=XR (f+l*st) (show(26:Int)≠0 by decide)
 exact _h9 (f:=f) y h z (by omega)
theorem _hq{b:Bool}{m:List Nat}{y:Nat}{f st:Int}{k:Nat}(d:m.length<=8)(q:y<m.length)(g:∀c∈m,97<=c/\c<=122)(p:0<=f/\f<26){z:Str}(l:z.cps.toList=nmA b m y f st k):XF z:=by
 have a:=XR (f+k*st) (show(26:Int)≠0 by decide)
 have e:=XT (f+k*st) (show(0:Int)<26 by decide)
 unfold nmA at l;cases b with
 |true=>
  rw[if_pos rfl]at l;refine⟨?_,?_,λc j=>?_⟩
  .rw[_1,l,XO,Y0];omega
  .rw[_1,l,XO,Y0,XQ,YN];omega
  .rw[l]at j;rcases XZ.mp j with u|u
   .exact g c (Z8 u)
   .rcases Xm.mp u with rfl|u
    .omega
    .exact g c (UM u)
 |false=>
  rw[if_neg (by simp)]at l
  refine⟨?_,?_,λc j=>?_⟩
  .rw[_1,l,XO,Ul];omega
  .rw[_1,l,XO,Ul,YM];omega
  .rw[l]at j;rcases XZ.mp j with u|u
   .rw[Vg u];omega
   .rw[U0]at u;omega
theorem Cb{z:Type}{u:List z}{x y:z}{j:Nat}(h:(u++[x])[j]?=some y):(j<u.length/\u[j]?=some y)\/(j=u.length/\y=x):=by
 by_cases l:j<u.length
 .rw[YU l]at h;exact .inl ⟨l,h⟩
 .rw[Zh (by omega)]at h
  cases e:j - u.length with
  |zero=>rw[e]at h;exact .inr ⟨by omega,(Yo h).symm⟩
  |succ m=>rw[e]at h;simp at h
abbrev Aw:SpM:=λu M Q=>∃(n:Int) (m:Nat),u=[.int n,.int m]/\m<=17/\∀(p:Addr)(j:List Str)l,SameM M l->M p=none->l p=some (.lst (j.map MV.str))->j.length=m->j.Nodup->(∀z∈j,XF z)->Q (.ref p) l
theorem PM:MonW Aw:=by walk_at "m"
theorem _bJ(T:Txt K mg t):FnOk P w K mg base CX0 2 t.bE t.dH ["number","many"] (liSp K Aw):=by
 refine T.aK.F.okM _bA (Xw (u:=[("_law_mix",Xg)]) (Xx T) (Xy T) rfl (fMc ⟨Yb,nl0⟩) (fMc ⟨⟨_,_,_,(FnOk.mono (_d T) (by decide)),T.aa.m,T.aa.F.kp,T.aa.b⟩,nl0⟩):Fts P w K mg base 1 Mi [("_law_mix",Xg)]) Ev _bW (fun vs M Q h=>?_) (fun vs M Q h=>?_)
 .obtain⟨_,_,rfl,_⟩:=h;rfl
 obtain⟨n,m,rfl,hm,q⟩:=h;show wSs _ _ _ [some (.int n),some (.int m),none,none,none,none,none,none,none,none,none] M;have F:=(YJ (u:=[("_law_mix",Xg)]) (fMc ⟨Yb,nl0⟩));have G:=_gW;delta Ev Mh;simp!;delta Mg;simp!;delta Mf;simp!;intro p0 I;obtain⟨st,W,S⟩:=_h7 (i:=n/26%8) (by omega) (by omega)
 refine⟨_,W,?_⟩;have s0:=SameM.new I (.lst [.int 1,.int 3,.int 5,.int 7,.int 9,.int 11,.int 15,.int 17]);generalize updM M p0 _=M0 at*;delta Me;simp!;delta Md;simp!;obtain⟨sz,X,hsz1,hsz2⟩:∃sz:Nat,1+n/208%8=(sz:Int)/\1<=sz/\sz<=8:=⟨(1+n/208%8).toNat,by omega,by omega,by omega⟩
 rw[X];refine⟨by omega,?_⟩
 have H:0<=n/1664%(sz:Int):=XR _ (by omega)
 have v:n/1664%(sz:Int)<(sz:Int):=XT _ (by omega)
 obtain⟨a,ha⟩:∃a:Nat,n/1664%(sz:Int)=(a:Int):=⟨_,(YW H).symm⟩;rw[ha]at v ⊢;have f0:0<=n%26:=XR _ (by decide)
 have f1:n%26<26:=XT _ (by decide)
 delta Mc;simp!;obtain⟨l,N⟩:∃l:List Nat,(XI sz).map (λi:Nat=>97+(Xk n (20+(0+(i:Nat)))%26).toNat)=l:=⟨_,rfl⟩;have cl:l.length=sz:=by rw[<-N,X5,YF]
 have o:∀c∈l,97<=c/\c<=122:=λc hc=>by
  rw[<-N]at hc;obtain⟨i,_,rfl⟩:=Xt.mp hc;have:=XR (Xk n (20+(0+(i:Nat)))) (show(26:Int)≠0 by decide)
  have:=XT (Xk n (20+(0+(i:Nat)))) (show(0:Int)<26 by decide)
  omega
 refine _b (XI sz) (λi=>.int (0+(i:Nat))) (λi=>.str (one (97+(Xk n (20+(0+(i:Nat)))%26).toNat))) ?_ ?_ F λD hD=>?_
 .simp!;refine⟨by omega,by omega,rfl,by rw[YF];omega,trivial⟩
 .intro i A d s;have e0:=XR (Xk n (20+(0+(i:Nat)))) (show(26:Int)≠0 by decide)
  have O:=XT (Xk n (20+(0+(i:Nat)))) (show(0:Int)<26 by decide)
  simp only[sCm,Xp,Y6,Yi,Yj,Yc,Ye];simp!;refine⟨n,20+(0+(i:Nat)),rfl,?_⟩;simp!;exact⟨G,_,FG e0 O,rfl⟩
 have x:(XI sz).map (λi:Nat=>MV.str (one (97+(Xk n (20+(0+(i:Nat)))%26).toNat)))=(l.map one).map MV.str:=by
  rw[<-N,Ym,Ym];rfl
 rw[x];have s1:=SameM.new hD (.lst ((l.map one).map MV.str));have hd1:updM M0 D (.lst ((l.map one).map MV.str)) D=some (.lst ((l.map one).map MV.str)):=Xb;generalize updM M0 D _=M1 at*;simp!;have B:=_gq l;have b:(ZL (YQ "") (l.map one)).length=l.length:=by rw[_1,B]
 refine⟨_,hd1,?_,by rw[b];omega,?_⟩
 .rw[List.foldl_toArray' _ _ _ rfl];exact Y7 (Vq (PL l 0)) (by omega)
 generalize ZL (YQ "") (l.map one)=sm at*;delta Mb;simp!;intro p hp;have s2:=SameM.new hp (.lst []);have hd2:updM M1 p (.lst []) p=some (.lst []):=Xb;generalize updM M1 p _=M2 at*;delta Ma;simp!;obtain⟨J,C⟩:∃J:Nat->Sm->MH->Prop,∀j Y d,J j Y d↔∃R g,SameM M1 d/\(∃f:List Str,d p=some (.lst (f.map MV.str))/\f.length=j/\∀(i:Nat)z,f[i]?=some z->z.cps.toList=nmA (decide (n/13312%2=0)) l a (n%26) st i)/\
  Y=[some (.int n),some (.int m),some (.str alph),some (.int (n%26)),some (.int st),some (.int sz),some (.int a),some (.str sm),some (.ref p),R,g]:=⟨_,λ_ _ _=>YY⟩
 refine⟨by omega,by omega,J,(C 0 _ _).mpr ⟨_,_,s2,⟨[],hd2,rfl,λi z h=>by simp at h⟩,rfl⟩,λj Y d h=>trivial,?_,?_⟩
 .rintro k u Y d hu h;obtain⟨R,g,s,⟨f,E,U,Z⟩,rfl⟩:=(C _ _ _).mp h;obtain⟨hk,rfl⟩:=BN hu;have g0:=XR (n%26+(0+(k:Nat))*st) (show(26:Int)≠0 by decide)
  have g1:=XT (n%26+(0+(k:Nat))*st) (show(0:Int)<26 by decide)
  have L:∀z:Str,z.cps.toList=nmA (decide (n/13312%2=0)) l a (n%26) st k->∀R g,J (k+1) [some (.int n),some (.int m),some (.str alph),some (.int (n%26)),some (.int st),some (.int sz),some (.int a),some (.str sm),some (.ref p),R,g] (updM d p (.lst (f.map MV.str++[.str z]))):=λz hz R g=>by
   refine(C _ _ _).mpr ⟨_,_,s.upd hp _,⟨f++[z],by rw[Xb,Yd];rfl,by rw[XO,U];rfl,λi y hy=>?_⟩,rfl⟩
   rcases Cb hy with⟨_,hy⟩|⟨rfl,rfl⟩
   .exact Z i y hy
   .rw[U];exact hz
  delta LZ;simp!;refine⟨?_,G,_,FG g0 g1,?_⟩
  .exact .inl ⟨by omega,by omega⟩
  have ek:((0:Int)+(k:Nat))=(k:Nat):=by omega
  rw[ek]at g0 g1 ⊢;delta LY;simp!;by_cases hb:n/13312%2=0
  .rw[if_pos hb];delta LW
   simp![E]
   have O:((a:Int)+1)=((a+1:Nat):Int):=by omega
   rw[O];have l1:(cutS sm none (some (a:Int))).length<=8:=by rw[_1,Av,B,XQ];omega
   have l2:(cutS sm (some ((a+1:Nat):Int)) none).length<=8:=by rw[_1,FH,B,YN];omega
   refine⟨⟨_,rfl⟩,by omega,by rw[_y];omega,by omega,by rw[UD,_y];omega,by rw[X5];omega,?_⟩
   refine L _ ?_ _ _;rw[_z,_z,Av,FH,B];unfold nmA;rw[decide_eq_true hb,if_pos rfl,Vj];rfl
  .rw[if_neg hb];delta LX
   simp![E]
   have l1:(Txt.mul ⟨#[97+(n%26).toNat]⟩ ((k:Int)%4)).length<=8:=by rw[_1,mul_one,YM];omega
   refine⟨⟨_,rfl⟩,G,_,FG f0 f1,by rw[_y];omega,by omega,by omega,by rw[_y];omega,by rw[X5];omega,?_⟩
   refine L _ ?_ _ _;rw[_z,mul_one];unfold nmA;rw[decide_eq_false hb,if_neg (by simp)]
   have e4:((k:Int)%4).toNat=k%4:=by omega
   rw[e4]
 .rintro Y d h;obtain⟨R,g,s,⟨f,E,U,Z⟩,rfl⟩:=(C _ _ _).mp h;delta LV;simp!;have U:f.length=m:=U.trans (ZJ m);refine q p f d ((s0.trans s1).trans s) ((s0.trans s1).free hp) E U ?_ λz hz=>?_
  .refine Cj.mpr λi j A hj hij e=>?_;have O:=Z i _ (X6 A);have e2:=Z j _ (X6 hj);rw[e]at O;have:=_jL S (by omega) (by omega) (O.symm.trans e2)
   omega
  .obtain⟨i,A,rfl⟩:=Y3 hz;exact _hq (by omega) (by omega) o ⟨f0,f1⟩ (Z i _ (X6 A))
abbrev Z2(N:Nat):SpM:=λu M Q=>∃(n:Int) (a:Addr) (j:List Str) (k:Nat),u=[.int n,.ref a,.int k]/\k<N/\k<=2/\M a=some (.lst (j.map MV.str))/\j.length<=6/\
 ∀(U:Tm)l,SameM M l->U.depth<=k+1->2*U.size+1<=3^(k+1)->(∀x∈U.reads,x∈j)->Q U.mv l
theorem FI(n:Nat):MonW (Z2 n):=by walk_at "m"
theorem FJ{l:List Str}{i:Int}(y:0<=i)(h1:i<l.length):∃z∈l,atI (l.map MV.str) i=some (.str z):=by
 have u:i.toNat<l.length:=by lia
 refine⟨l[i.toNat],XG u,?_⟩;have:=Xv (l:=l.map MV.str) (j:=i.toNat) (v:=.str l[i.toNat]) (by rw[Xj,X6 u];rfl)
 rwa [YW y]at this
theorem _kC{a b c d i:Int}(j:0<=i)(h1:i<4):∃v:Int,atI [MV.int a,.int b,.int c,.int d] i=some (.int v):=by
 rcases(show i=0\/i=1\/i=2\/i=3 by lia)with rfl|rfl|rfl|rfl
 .exact⟨_,at0⟩
 .exact⟨_,at1⟩
 .exact⟨_,at2⟩
 .exact⟨_,at3⟩
theorem _mF{i:Int}(l:0<=i)(h1:i<6):∃f:Form,atI [MV.str "plus",.str "minus",.str "times",.str "less",.str "same",.str "minus"] i=some (.str f.str):=by
 rcases(show i=0\/i=1\/i=2\/i=3\/i=4\/i=5 by lia)with rfl|rfl|rfl|rfl|rfl|rfl
 .exact⟨.plus,Xv (j:=0) rfl⟩
 .exact⟨.minus,Xv (j:=1) rfl⟩
 .exact⟨.times,Xv (j:=2) rfl⟩
 .exact⟨.less,Xv (j:=3) rfl⟩
 .exact⟨.same,Xv (j:=4) rfl⟩
 .exact⟨.minus,Xv (j:=5) rfl⟩
theorem PN(T:Txt K mg t):∀N:Nat,FnOk P w K mg base CX0 (N+8) t.bQ t.bx ["number","own","deep"] (liSp K (Z2 N))
 |0=>by
  have G:∀L M Q,¬Z2 0 L M Q:=λL M Q h=>by
   obtain⟨_,_,_,k,_,h0,_⟩:=h;lia
  exact⟨λL H Q E ⟨ms,M,r,rh,h⟩=>absurd h (G _ _ _),λA W s H I us L Q E _ _ _ _ ⟨ms,M,r,rh,h⟩=>absurd h (G _ _ _)⟩
 |N+1=>by
  have ih:=PN T N;refine T.aB.F.okM _ci (Xw (u:=[("_law_mix",Xg),("_law_term",(Z2 N)),("_law_word",Ug)]) (Xx T) (Xy T) rfl (fMc ⟨Yb,(fMc ⟨(FI _),(fMc ⟨FE,nl0⟩)⟩)⟩) (fMc ⟨⟨_,_,_,FnOk.mono (_d T) (by lia),T.aa.m,T.aa.F.kp,T.aa.b⟩,(fMc ⟨⟨_,_,_,ih,T.aB.m,T.aB.F.kp,T.aB.b⟩,(fMc ⟨⟨_,_,_,FnOk.mono (PH T) (by lia),T.am.m,T.am.F.kp,T.am.b⟩,nl0⟩)⟩)⟩):Fts P w K mg base (N+8) Mx [("_law_mix",Xg),("_law_term",(Z2 N)),("_law_word",Ug)]) EA _cK (fun L M Q h=>?_) (fun L M Q h=>?_)
  .obtain⟨_,_,_,_,rfl,_⟩:=h;rfl
  obtain⟨n,a,y,k,rfl,hk,k2,R,Y,q⟩:=h;show wSs _ _ _ [some (.int n),some (.ref a),some (.int k),none,none,none,none,none] M;delta EA Mw;simp!;delta Mv;simp!;refine⟨n,1,rfl,?_⟩;obtain⟨j,Z⟩:∃j,Xk n 1=j:=⟨_,rfl⟩;rw[Z];have J:1<=3^k:=Nat.one_le_pow _ _ (by decide)
  have p4:3^(k+1)=3*3^k:=by rw[Nat.pow_succ,Nat.mul_comm]
  have u:∀D:EndM,D.rt=Q->wSs [("_law_mix",Xg),("_law_term",Z2 N),("_law_word",Ug)] Ez D [some (.int n),some (.ref a),some (.int k),some (.int (n%9)),some (.int j),none,none,none] M:=by
   rintro D S;delta Ez;simp!;intro p X;refine _p (SameM.new X _ _ _ R) Xb ?_;have O:=SameM.new X (.lst []);generalize updM M p _=M1 at*;have B:=O _ _ R;have U:wSs [("_law_mix",Xg),("_law_term",Z2 N),("_law_word",Ug)] Ey D [some (.int n),some (.ref a),some (.int k),some (.int (n%9)),some (.int j),none,none,none] M1:=by
    delta Ey;simp!;refine⟨j,64,rfl,by decide,λM2 C=>?_⟩
    delta Ms;simp!;intro J m;obtain⟨v,hv⟩:=_kC (a:=j/8%9 - 4) (b:=UC j 64) (c:=0 - UC j 64) (d:=j/8%2) (i:=j/128%4) (by lia) (by lia)
    refine⟨_,hv,?_⟩
    try walk_at "s"
    rw[S];exact q (.num v) _ ((O.trans C).trans (SameM.new m _)) (by simp[Tm.depth]) (by simp only[Tm.size];lia) (λx l=>by simp[Tm.reads]at l)
   refine Xe (λo=>Xe (λc2=>?_) λ_=>U) λ_=>U;have z0:0<y.length:=by
    cases y with
    |nil=>simp at o
    |cons _ _=>simp
   delta Mt
   simp![B]
   rw[X5];have e0:=XR (j/3) (show(y.length:Int)≠0 by lia)
   have e1:=XT (j/3) (show(0:Int)<y.length by lia)
   obtain⟨z,hz,az⟩:=FJ e0 e1;refine⟨by lia,_,az,?_⟩
   try walk_at "s"
   rw[S];exact q (.var z) _ O (by simp[Tm.depth]) (by simp only[Tm.size];lia) (λx l=>by simp[Tm.reads]at l;rw[l];exact hz)
  delta Mu;simp!;refine Xe (λ_=>u _ rfl) λo=>Xe (λ_=>u _ rfl) λc2=>?_;have k1:1<=k:=by lia
  obtain⟨g,rfl⟩:∃g,k=g+1:=⟨k - 1,by lia⟩
  have F:((g+1:Nat):Int) - 1=(g:Nat):=by lia
  have n9:0<=n%9/\n%9<9:=⟨XR _ (by decide),XT _ (by decide)⟩
  delta Mr;simp!;refine⟨n,2,rfl,?_⟩;simp!;rw[F];refine⟨_,a,y,g,rfl,by lia,by lia,R,Y,λU1 M1 O d1 z1 r1=>?_⟩
  delta Mq;simp!;refine⟨n,3,rfl,?_⟩;simp!;rw[F];refine⟨_,a,y,g,rfl,by lia,by lia,O _ _ R,Y,λU2 M2 C d2 z2 r2=>?_⟩
  have e:=O.trans C;delta Mp;simp!;refine Xe (λc8=>?_) λc8=>?_
  .delta Mo;simp!;refine⟨n,4,rfl,?_⟩;simp!;rw[F];refine⟨_,a,y,g,rfl,by lia,by lia,e _ _ R,Y,λU3 M3 s3 d3 z3 r3=>?_⟩
   try walk_at "s"
   exact q (.pick U3 U1 U2) _ (e.trans s3) (by simp only[Tm.depth];lia) (by simp only[Tm.size];lia) (λx l=>by
    simp only[Tm.reads,XZ]at l;exact l.elim (r3 x) (·.elim (r1 x) (r2 x)))
  .delta Mn;simp!;intro J m;obtain⟨f,hf⟩:=_mF (i:=n%9 - 2) (by lia) (by lia)
   refine⟨_,hf,?_⟩
   try walk_at "s"
   exact q (.two f U1 U2) _ (e.trans (SameM.new m _)) (by simp only[Tm.depth];lia) (by simp only[Tm.size];lia) (λx l=>by
    simp only[Tm.reads,XZ]at l;exact l.elim (r1 x) (r2 x))
theorem FK{p:List (Str×SpM)}{own:List Str}{Z:List Nat}{z:ISr}{O:ITg}{u m:IE}{R:Sm}{M:MH}{Q:QM}{T:Type}(l:List T)(f g:T->MV)(b:T->Bool)
  (I:wSr p z R M λS M1=>S.items=l.map f/\l.length<sizeLine/\S.okF M1/\M1=M)
  (J:∀x∈l,∀e,SameM M e->wTg O (f x) (sCm own Z R) λd=>wE p u d e λv M2=>v=.bl (b x)/\M2=e/\(b x=true->wE p m d e λy M2=>y=g x/\M2=e))
  (c:∀(j:Nat)f A,p[j]?=some (f,A)->MonW A)(q:∀D,M D=none->Q (.ref D) (updM M D (.lst ((l.filter b).map g)))):wE p (.comp own Z z O (.some u) m) R M Q:=by
 rw[VN];refine mon_sr c z (λS M1 ⟨N,X,B,H⟩=>?_) I;subst H;have C:S.len=l.length:=by rw[<-S.items_len,N,X5]
 refine⟨by rw[C];exact X,λD U=>⟨λi L M2=>M2=updM M1 D (.lst L)/\L=((l.take i).filter b).map g,⟨rfl,by simp⟩,?_,?_,?_⟩⟩
 .rintro i L M2 ⟨rfl,rfl⟩;refine⟨Xb,?_,?_⟩
  .rw[X5];have N:=Cp b (l.take i);rw[XQ]at N;lia
  cases S with
  |tup _=>trivial
  |rng _ _=>trivial
  |str _=>trivial
  |lst a s=>exact SameM.new U _ _ _ B
 .rintro i x L M2 E ⟨rfl,rfl⟩;rw[N]at E;obtain⟨F,rfl⟩:=_c E;refine Uc O (λd h=>?_) (J l[i] (XG F) _ (SameM.new U (.lst (((l.take i).filter b).map g))));rw[wI];refine X7 c u (λv M2 ⟨W,Y,o⟩=>?_) h;subst W Y;have G:l.take (i+1)=l.take i++[l[i]]:=by rw[Um,X6 F];rfl
  refine⟨b l[i],rfl,?_⟩;by_cases hb:b l[i]=true
  .rw[if_pos hb];refine X7 c m (λy M2 ⟨W,Y⟩=>?_) (o hb);subst W Y;refine⟨Xb,Ib,?_⟩;rw[G,AM,Yd,G5 hb]
   rfl
  .rw[if_neg hb];refine⟨rfl,?_⟩;rw[G,AM,Yd,G6 hb];simp
 .rintro L M2 ⟨rfl,rfl⟩;rw[C,ZE (Xf _),VO B];exact q D U
theorem PP{F:List Fer}{b:Fer->Bool}{i:Int}(h:0<(F.filter b).length):∃v,v∈F/\b v=true/\atI ((F.filter b).map λv=>MV.str v.name) (i%((F.filter b).length:Int))=some (.str v.name):=by
 have y:=XR i (show((F.filter b).length:Int)≠0 by lia)
 have m:=XT i (show(0:Int)<(F.filter b).length by lia)
 obtain⟨j,z⟩:∃j:Nat,i%((F.filter b).length:Int)=j:=⟨_,(YW y).symm⟩;have l:j<(F.filter b).length:=by lia
 have u:=Vl.mp (XG l);refine⟨(F.filter b)[j],u.1,u.2,?_⟩;rw[z];exact Xv (by rw[Xj,X6 l];rfl)
theorem PQ{F:List Fer}(y:(F.map (·.name)).Nodup){v x:Fer}(z:v∈F)(m:x∈F)(e:x.name=v.name):x=v:=by
 obtain⟨i,g,rfl⟩:=Y3 z;obtain⟨j,u,rfl⟩:=Y3 m;have:=(AQ (l:=F.map (·.name)) (i:=j) (j:=i) (by rw[X5];exact u) y).mp (by
  rw[Xj,Xj,X6 u,X6 g];exact congrArg some e)
 subst this;rfl
abbrev Ax:SpM:=λu M Q=>∃(n:Int) (z:Str) (f a:Addr) (F:List Fer) (j:List Str) (m:Nat),u=[.int n,.str z,.ref f,.ref a,.int m]/\M f=some (.lst (F.map Fer.mv))/\F.length<=6/\(F.map (·.name)).Nodup/\M a=some (.lst (j.map MV.str))/\j.length<=6/\m<=12/\
 ∀(S:Stp)l,SameM M l->Z0 (F.map (·.name)) j m S->BU F z S->Q S.mv l
theorem PR:MonW Ax:=by walk_at "m"
theorem _cs(T:Txt K mg t):FnOk P w K mg base CX0 12 t.cg t.bf ["number","name","ferries","own","many"] (liSp K Ax):=by
 refine T.aX.F.okM _cj (Xw (u:=[("_law_mix",Xg),("_law_term",(Z2 3))]) (Xx T) (Xy T) rfl (fMc ⟨Yb,(fMc ⟨(FI _),nl0⟩)⟩) (fMc ⟨⟨_,_,_,FnOk.mono (_d T) (by decide),T.aa.m,T.aa.F.kp,T.aa.b⟩,(fMc ⟨⟨_,_,_,FnOk.mono (PN T 3) (by decide),T.aB.m,T.aB.F.kp,T.aB.b⟩,nl0⟩)⟩):Fts P w K mg base 11 MG [("_law_mix",Xg),("_law_term",(Z2 3))]) EG _cL (fun vs M Q h=>?_) (fun vs M Q h=>?_)
 .obtain⟨_,_,_,_,_,_,_,rfl,_⟩:=h;rfl
 obtain⟨n,z,f,a,F,g,m,rfl,hf,f6,nd,ha,zl,m12,q⟩:=h;show wSs _ _ _ [some (.int n),some (.str z),some (.ref f),some (.ref a),some (.int m),none,none,none,none,none] M;have D:=YJ (u:=[("_law_mix",Xg),("_law_term",Z2 3)]) (fMc ⟨Yb,fMc ⟨FI 3,nl0⟩⟩);delta EG MF;simp!;refine FK F Fer.mv (λv=>.str v.name) (λv=>decide (v.taker=z)) ?_ ?_ D λY hD1=>?_
 .simp![hf]
  exact⟨rfl,by lia,hf⟩
 .intro v c L s;simp only[sCm,Xp,Y6,Yi,Yj,Yc,Ye]
  simp![Fer.mv]
  try simp
 have s1:=SameM.new hD1 (.lst ((F.filter λv=>decide (v.taker=z)).map λv=>MV.str v.name));have d1:updM M Y (.lst ((F.filter λv=>decide (v.taker=z)).map λv=>MV.str v.name)) Y=some (.lst ((F.filter λv=>decide (v.taker=z)).map λv=>MV.str v.name)):=Xb;generalize updM M Y _=M1 at*;have E:=s1 _ _ hf;delta ME;simp!;refine FK F Fer.mv (λv=>.str v.name) (λv=>decide (v.giver=z)) ?_ ?_ D λZ hD2=>?_
 .simp![E]
  exact⟨rfl,by lia,E⟩
 .intro v c L s;simp only[sCm,Xp,Y6,Yi,Yj,Yc,Ye]
  simp![Fer.mv]
  try simp
 have s2:=SameM.new hD2 (.lst ((F.filter λv=>decide (v.giver=z)).map λv=>MV.str v.name));have d2:updM M1 Z (.lst ((F.filter λv=>decide (v.giver=z)).map λv=>MV.str v.name)) Z=some (.lst ((F.filter λv=>decide (v.giver=z)).map λv=>MV.str v.name)):=Xb;generalize updM M1 Z _=M2 at*;have G:=s2 _ _ d1;have I:=s1.trans s2;have l:=I _ _ ha;delta MD;simp!;delta MC;simp!;refine⟨n,5,rfl,?_⟩;obtain⟨j,hmr⟩:∃j,Xk n 5=j:=⟨_,rfl⟩;rw[hmr];have n8:0<=n%8/\n%8<8:=⟨XR _ (by decide),XT _ (by decide)⟩
 have rest:∀A,SameM M2 A->wSs [("_law_mix",Xg),("_law_term",Z2 3)] EF {nx:=fun _ L=>Q .non L,rt:=Q} [some (.int n),some (.str z),some (.ref f),some (.ref a),some (.int m),some (.ref Y),some (.ref Z),some (.int (n%8)),some (.int j),none] A:=by
  intro A B;delta EF;simp!;refine⟨n,6,rfl,?_⟩;simp!;obtain⟨k,hk,hk2⟩:∃k:Nat,j/64%3=(k:Int)/\k<=2:=⟨(j/64%3).toNat,by lia,by lia⟩
  rw[hk];refine⟨_,a,g,k,rfl,by lia,hk2,B _ _ l,zl,λU M4 C u1 u2 u3=>?_⟩
  have hU:TmIn g U:=⟨by lia,by
   have:3^(k+1)<=3^3:=Nat.pow_le_pow_right (by decide) (by lia)
   lia,u3⟩
  have N:=B.trans C;have u:∀O,SameM M2 O->wSs [("_law_mix",Xg),("_law_term",Z2 3)] ED {nx:=fun _ L=>Q .non L,rt:=Q} [some (.int n),some (.str z),some (.ref f),some (.ref a),some (.int m),some (.ref Y),some (.ref Z),some (.int (n%8)),some (.int j),some U.mv] O:=by
   intro O R;have J:∀S,SameM M2 S->wSs [("_law_mix",Xg),("_law_term",Z2 3)] EC {nx:=fun σ M=>wSs [("_law_mix",Xg),("_law_term",Z2 3)] EB {nx:=fun _ L=>Q .non L,rt:=Q} σ M,rt:=Q} [some (.int n),some (.str z),some (.ref f),some (.ref a),some (.int m),some (.ref Y),some (.ref Z),some (.int (n%8)),some (.int j),some U.mv] S:=by
    intro S X;have H:=XR (j/512) (show((m:Int)+1)≠0 by lia)
    have e1:=XT (j/512) (show(0:Int)<(m:Int)+1 by lia)
    delta EC;simp!;refine⟨by lia,?_⟩
    exact q (.jump U (j/512%((m:Int)+1))) _ (I.trans X) ⟨hU,H,by lia⟩ trivial
   delta ED;simp!;refine Xe (λ_=>J O R) λc7=>?_;intro p d;refine _p (SameM.new d _ _ _ (R _ _ l)) Xb ?_;have X:=R.trans (SameM.new d (.lst []));generalize updM O p _=S at*;refine Xe (λ_=>J S X) λW=>?_;have z0:0<g.length:=by
    cases g with
    |nil=>simp at W
    |cons _ _=>simp
   delta EB
   simp![X _ _ l]
   rw[X5];have H:=XR (j/8) (show(g.length:Int)≠0 by lia)
   have e1:=XT (j/8) (show(0:Int)<g.length by lia)
   obtain⟨x,o,ax⟩:=FJ H e1;refine⟨by lia,_,ax,?_⟩
   try walk_at "s"
   exact q (.put x U) _ (I.trans X) ⟨o,hU⟩ trivial
  show wSs _ EE _ _ _;delta EE;simp!;refine Xe (λc6=>?_) λ_=>u M4 N;intro p d;refine _p (SameM.new d _ _ _ (N _ _ d2)) Xb ?_;have R:=N.trans (SameM.new d (.lst []));generalize updM M4 p _=O at*;refine Xe (λW=>?_) λ_=>u O R;have g0:0<(F.filter λv=>decide (v.giver=z)).length:=by
   cases hF:F.filter λv=>decide (v.giver=z)with
   |nil=>rw[hF]at W;simp at W
   |cons _ _=>simp
  delta Mz
  simp![R _ _ d2]
  rw[X5];obtain⟨v,c,bv,av⟩:=PP (i:=j) g0;refine⟨by lia,_,av,?_⟩
  try walk_at "s"
  exact q (.give v.name U) _ (I.trans R) ⟨Xt.mpr ⟨v,c,rfl⟩,hU⟩ (λx o e=>by rw[PQ nd c o e];exact of_decide_eq_true bv)
 delta MB;simp!;refine Xe (λc3=>?_) λ_=>rest M2 (SameM.refl _);intro p d;refine _p (SameM.new d _ _ _ G) Xb ?_;have B:=SameM.new d (.lst []);generalize updM M2 p _=A at*;refine Xe (λW=>?_) λ_=>rest A B
 try walk_at "s"
 intro p2 b;refine _p (SameM.new b _ _ _ (B _ _ l)) Xb ?_;have C:=B.trans (SameM.new b (.lst []));generalize updM A p2 _=M4 at*;refine Xe (λc2=>?_) λ_=>rest M4 C;have g0:0<(F.filter λv=>decide (v.taker=z)).length:=by
  cases hF:F.filter λv=>decide (v.taker=z)with
  |nil=>rw[hF]at W;simp at W
  |cons _ _=>simp
 have z0:0<g.length:=by
  cases g with
  |nil=>simp at c2
  |cons _ _=>simp
 delta MA
 simp![C _ _ G,C _ _ l]
 obtain⟨v,c,bv,av⟩:=PP (i:=j) g0;have H:=XR (j/8) (show(g.length:Int)≠0 by lia)
 have e1:=XT (j/8) (show(0:Int)<g.length by lia)
 obtain⟨x,o,ax⟩:=FJ H e1;rw[X5];refine⟨by lia,_,av,?_⟩
 rw[X5];refine⟨by lia,_,ax,?_⟩
 try walk_at "s"
 exact q (.take v.name x) _ (I.trans C) ⟨Xt.mpr ⟨v,c,rfl⟩,o⟩ (λy hy e=>by rw[PQ nd c hy e];exact of_decide_eq_true bv)
theorem _j1{g e m:Int}(j:0<=g)(h1:g<m)(l:1<=e)(u:e<=m - 1):(g+e)%m≠g:=by
 by_cases h:g+e<m
 .rw[Int.emod_eq_of_lt (by lia) h];lia
 .have:(g+e)%m=g+e - m:=by
   rw[show g+e=(g+e - m)+m by lia,Int.add_emod_right,Int.emod_eq_of_lt (by lia) (by lia)];lia
  rw[this];lia
theorem VU{j:List Str}{i:Int}{k:Nat}(e:i=k){z:Str}(h:j[k]?=some z):atI (j.map MV.str) i=some (.str z):=by
 rw[e];exact Xv (by rw[Xj,h];rfl)
abbrev Ay:SpM:=λy M Q=>∃(n:Int) (p:Addr) (j:List Str) (m:Nat),y=[.int n,.ref p,.int m]/\M p=some (.lst (j.map MV.str))/\15<=j.length/\j.Nodup/\m<=5/\
 ∀(F:List Fer)(l:Addr)u,SameM M u->M l=none->u l=some (.lst (F.map Fer.mv))->F.length<=6->(∀(i:Nat)f,F[i]?=some f->j[5+i]?=some f.name)->(∀f∈F,FerOk (j.take m) f)->Q (.ref l) u
theorem PU:MonW Ay:=by walk_at "m"
theorem _9X(T:Txt K mg t):FnOk P w K mg base CX0 2 t.bF t.cU ["number","names","many"] (liSp K Ay):=by
 refine T.aZ.F.okM _9O (Xw (u:=[("_law_mix",Xg)]) (Xx T) (Xy T) rfl (fMc ⟨Yb,nl0⟩) (fMc ⟨⟨_,_,_,(FnOk.mono (_d T) (by decide)),T.aa.m,T.aa.F.kp,T.aa.b⟩,nl0⟩):Fts P w K mg base 1 MR [("_law_mix",Xg)]) EI _ak (fun vs M Q h=>?_) (fun vs M Q h=>?_)
 .obtain⟨_,_,_,_,rfl,_⟩:=h;rfl
 obtain⟨n,p,y,m,rfl,hp,zl,nd,m5,q⟩:=h;show wSs _ _ _ [some (.int n),some (.ref p),some (.int m),none,none,none,none,none,none] M;delta EI MQ;simp!;intro c z;have s1:=SameM.new z (.lst []);have hd1:updM M c (.lst []) c=some (.lst []):=Xb;generalize updM M c _=M1 at*;delta MP;simp!;refine Xe (λc1=>?_) λc1=>?_
 .delta MN;simp!;obtain⟨r,hr,hr6⟩:∃r:Nat,n/8%7=(r:Int)/\r<=6:=⟨(n/8%7).toNat,by lia,by lia⟩
  rw[hr];obtain⟨J,B⟩:∃J:Nat->Sm->MH->Prop,∀j U L,J j U L↔∃D E G I S,SameM M L/\(∃F:List Fer,L c=some (.lst (F.map Fer.mv))/\F.length=j/\(∀(i:Nat)f,F[i]?=some f->y[5+i]?=some f.name)/\∀f∈F,FerOk (y.take m) f)/\
   U=[some (.int n),some (.ref p),some (.int m),some (.ref c),D,E,G,I,S]:=⟨_,λ_ _ _=>YY⟩
  refine⟨by lia,by lia,J,(B 0 _ _).mpr ⟨_,_,_,_,_,s1,⟨[],hd1,rfl,λi f h=>by simp at h,λf h=>by simp at h⟩,rfl⟩,λj U L h=>trivial,?_,?_⟩
  .rintro j u U L hu h;obtain⟨D,E,G,I,S,s,⟨F,X,W,H,v⟩,rfl⟩:=(B _ _ _).mp h;obtain⟨hj,rfl⟩:=BN hu;have hj:j<r:=by simpa using hj
   delta MM;simp!;refine⟨n,10+(0+(j:Nat)),rfl,?_⟩;obtain⟨l,o⟩:∃l,Xk n (10+(0+(j:Nat)))=l:=⟨_,rfl⟩;rw[o];have g0:=XR l (show(m:Int)≠0 by lia)
   have g1:=XT l (show(0:Int)<m by lia)
   have d0:=XR (l/8) (show((m:Int) - 1)≠0 by lia)
   have d1:=XT (l/8) (show(0:Int)<(m:Int) - 1 by lia)
   delta ML;simp!;refine⟨by lia,?_⟩
   delta MK;simp!;refine⟨by lia,by lia,?_⟩
   have t0:=XR (l%(m:Int)+1+l/8%((m:Int) - 1)) (show(m:Int)≠0 by lia)
   have t1:=XT (l%(m:Int)+1+l/8%((m:Int) - 1)) (show(0:Int)<m by lia)
   have x:(l%(m:Int)+1+l/8%((m:Int) - 1))%(m:Int)≠l%(m:Int):=by
    rw[Int.add_assoc];exact _j1 g0 g1 (by lia) (by lia)
   obtain⟨g,hg⟩:∃g:Nat,l%(m:Int)=(g:Int):=⟨_,(YW g0).symm⟩;rw[hg]at t0 t1 x ⊢;obtain⟨d,b⟩:∃d:Nat,((g:Int)+1+l/8%((m:Int) - 1))%(m:Int)=(d:Int):=⟨_,(YW t0).symm⟩;rw[b]at t1 x ⊢;have gm:g<m:=by lia
   have tm:d<m:=by lia
   have gt:g≠d:=λe=>x (by rw[e])
   delta MJ
   simp![s _ _ hp]
   have h5:=X6 (show 5+j<y.length by lia)
   have N:=X6 (show g<y.length by lia)
   have O:=X6 (show d<y.length by lia)
   refine⟨_,VU (by lia) h5,_,VU rfl N,_,VU rfl O,?_⟩
   obtain⟨C,a,Y⟩:∃C:Nat,l/64%4=(C:Int)/\C<=3:=⟨(l/64%4).toNat,by lia,by lia⟩
   obtain⟨st,hst,Z,A⟩:∃st:Nat,1+l/256%3=(st:Int)/\1<=st/\st<=3:=⟨(1+l/256%3).toNat,by lia,by lia,by lia⟩
   have zg:y[g]∈y.take m:=Y5 (i:=g) (by rw[AK gm];exact N)
   have zt:y[d]∈y.take m:=Y5 (i:=d) (by rw[AK tm];exact O)
   have zn:y[g]≠y[d]:=λe=>gt ((AQ (show g<y.length by lia) nd).mp (N.trans ((congrArg some e).trans O.symm)))
   generalize y[5+j]'(by lia)=z5 at*
   generalize y[g]'(by lia)=z1 at*
   generalize y[d]'(by lia)=z2 at*
   delta MI
   simp![X,a,hst,Yc,Ye]
   rw[X5];refine⟨⟨_,rfl⟩,by lia,?_⟩
   refine(B _ _ _).mpr ⟨_,_,_,_,_,s.upd z _,⟨F++[⟨z5,z1,z2,C,st⟩],?_,by rw[XO,W];rfl,λi f hi=>?_,λf R=>?_⟩,rfl⟩
   .rw[Xb,Yd];rfl
   .rcases Cb hi with⟨_,hi⟩|⟨rfl,rfl⟩
    .exact H i f hi
    .rw[W];exact h5
   .rcases XZ.mp R with R|R
    .exact v f R
    .rw[U0]at R;subst R;exact⟨zg,zt,zn,Y,Z,A⟩
  .rintro U L h;obtain⟨D,E,G,I,S,s,⟨F,X,W,H,v⟩,rfl⟩:=(B _ _ _).mp h;have W:F.length=r:=W.trans (ZJ r);delta EH;simp!;exact q F c L s z X (by lia) H v
 .delta EH;simp!;exact q [] c M1 s1 z hd1 (by simp) (λi f h=>by simp at h) (λf h=>by simp at h)
structure IslsNew (M0 M:MH)(Is:List Isl)(ys:List MV):Prop where
 len:ys.length=Is.length
 at_:∀(i:Nat)(I:Isl)(y:MV),Is[i]?=some I->ys[i]?=some y->∃a b,y=.tup [.str I.name,.ref a,.ref b]/\M0 a=none/\M0 b=none/\M a=some (.lst (I.prs.map prV))/\M b=some (.lst (I.stps.map Stp.mv))
theorem IslsNew.inn{j M:MH}{Is:List Isl}{ys:List MV}(h:IslsNew j M Is ys):IslsIn M Is ys:=⟨h.len,λi I y a b=>by
 obtain⟨c,d,e,_,_,l,u⟩:=h.at_ i I y a b;exact⟨c,d,e,l,u⟩⟩
theorem IslsNew.keep{j M l:MH}{Is:List Isl}{ys:List MV}(h:IslsNew j M Is ys)(s:∀a o,M a=some o->j a=none->l a=some o):IslsNew j l Is ys:=⟨h.len,λi I y a b=>by
 obtain⟨c,d,e,u,z,m,g⟩:=h.at_ i I y a b;exact⟨c,d,e,u,z,s _ _ m u,s _ _ g z⟩⟩
set_option tactic.hygienic true in
theorem PV{l:Type}{v y:l}{j:List l}{i:Nat}(h:(j++[v])[i]?=some y):j[i]?=some y\/(i=j.length/\y=v):=by
 rw[List.getElem?_append]at h;split at h
 .exact .inl h
 .rename_i e
  obtain⟨d,u⟩:∃d,i - j.length=d:=⟨_,rfl⟩;rw[u]at h;cases d with
  |zero=>simp at h;exact .inr ⟨by lia,h.symm⟩
  |succ d=>simp at h
theorem IslsNew.add{z M:MH}{Is:List Isl}{m:List MV}(h:IslsNew z M Is m){I:Isl}{a b:Addr}(g:z a=none)(d:z b=none)(h1:M a=some (.lst (I.prs.map prV)))(h2:M b=some (.lst (I.stps.map Stp.mv))):IslsNew z M (Is++[I]) (m++[.tup [.str I.name,.ref a,.ref b]]):=by
 refine⟨by simp[h.len],λi J y c f=>?_⟩
 have l:=h.len;rcases PV c with j|⟨q,rfl⟩<;>rcases PV f with u|⟨p,rfl⟩
 .exact h.at_ i J y j u
 .have:=(Xz.mp j).1;lia
 .have:=(Xz.mp u).1;lia
 .exact⟨a,b,rfl,g,d,h1,h2⟩
theorem PX{T:List (Str×SpM)}{own:List Str}{C:List Nat}{z:ISr}{U:ITg}{m:IE}{W:Sm}{M:MH}{Q:QM}{Y:Type}(u:List Y)(f:Y->MV)(R:Y->MV->Prop)
  (H:wSr T z W M λS M1=>S.items=u.map f/\u.length<sizeLine/\S.okF M1/\SameM M M1)
  (v:∀x∈u,∀g,SameM M g->wTg U (f x) (sCm own C W) λL=>wE T m L g λy M2=>R x y/\SameM g M2)
  (N:∀(j:Nat)f E,T[j]?=some (f,E)->MonW E)
  (q:∀D g l,M D=none->SameM M g->l.length=u.length->(∀(i:Nat)x y,u[i]?=some x->l[i]?=some y->R x y)->g D=some (.lst l)->Q (.ref D) g):wE T (.comp own C z U .none m) W M Q:=by
 rw[VN];refine mon_sr N z (λS M1 ⟨F,o,G,Z⟩=>?_) H;have s:S.len=u.length:=by rw[<-S.items_len,F,X5]
 refine⟨by rw[s];exact o,λD A=>⟨λi l M2=>SameM M1 M2/\M2 D=some (.lst l)/\l.length=i/\∀(j:Nat)x y,u[j]?=some x->l[j]?=some y->R x y,⟨SameM.new A _,Xb,rfl,λj x y _ h=>by simp at h⟩,?_,?_,?_⟩⟩
 .rintro i l M2 ⟨p,O,e,_⟩;refine⟨O,by lia,?_⟩
  cases S with
  |lst a zs=>exact p _ _ G
  |_=>trivial
 .rintro i x l M2 I ⟨p,O,e,B⟩;rw[F]at I;obtain⟨J,rfl⟩:=_c I;refine Uc U (λL h=>?_) (v u[i] (XG J) M2 (Z.trans p));rw[wI,if_pos rfl];refine X7 N m (λy M3 ⟨r,X⟩=>?_) h;refine⟨X _ _ O,(p.trans X).upd A _,Xb,by rw[XO,e];rfl,λj n b d c=>?_⟩
  rcases Cb c with⟨_,c⟩|⟨rfl,rfl⟩
  .exact B j n b d c
  .rw[e,X6 J]at d;cases d;exact r
 .rintro l M2 ⟨p,O,e,B⟩;rw[VO G];exact q D M2 l (Z.free A) (Z.trans p) (by lia) B O
theorem PY{g:Type}{P:Stp->Prop}:∀{j:List g} {u:List MV},u.length=j.length->(∀(i:Nat)x y,j[i]?=some x->u[i]?=some y->∃S:Stp,y=S.mv/\P S)->∃z:List Stp,u=z.map Stp.mv/\z.length=j.length/\∀S∈z,P S
 |[],[],_,_=>⟨[],rfl,rfl,λ_ h=>nomatch h⟩
 |[],_::_,h,_=>by cases h
 |_::_,[],h,_=>by cases h
 |x::j,y::u,h,r=>by
  obtain⟨S,rfl,d⟩:=r 0 x y rfl rfl;obtain⟨z,rfl,l,c⟩:=PY (j:=j) (u:=u) (by simpa using h) λi x y a b=>r (i+1) x y (by simpa using a) (by simpa using b)
  refine⟨S::z,rfl,by rw[Y0,Y0,l],λf m=>?_⟩
  rcases Xm.mp m with rfl|m
  .exact d
  .exact c f m
theorem _jY{i:Int}(l:0<=i)(h1:i<8):∃m:Nat,atI [MV.int 2,.int 3,.int 4,.int 5,.int 2,.int 3,.int 1,.int 0] i=some (.int m)/\m<=5:=by
 rcases(show i=0\/i=1\/i=2\/i=3\/i=4\/i=5\/i=6\/i=7 by lia)with rfl|rfl|rfl|rfl|rfl|rfl|rfl|rfl
 .exact⟨2,Xv (j:=0) rfl,by lia⟩
 .exact⟨3,Xv (j:=1) rfl,by lia⟩
 .exact⟨4,Xv (j:=2) rfl,by lia⟩
 .exact⟨5,Xv (j:=3) rfl,by lia⟩
 .exact⟨2,Xv (j:=4) rfl,by lia⟩
 .exact⟨3,Xv (j:=5) rfl,by lia⟩
 .exact⟨1,Xv (j:=6) rfl,by lia⟩
 .exact⟨0,Xv (j:=7) rfl,by lia⟩
abbrev UE:SpM:=λm M Q=>∃y:List Int,m=[.frl (y.map .int),.int 5]/\y.length<=63/\
 ∀(W:Wld)(l u:Addr)(z:List MV)j,SameM M j->W.Good->(∀I∈W.isl,I.prs.length<=4)->M l=none->M u=none->l≠u->j l=some (.lst z)->IslsIn j W.isl z->j u=some (.lst (W.fer.map Fer.mv))->Q (.tup [.int W.w,.ref l,.ref u]) j
theorem FL:MonW UE:=by walk_at "m"
theorem _bI(T:Txt K mg t):FnOk P w K mg base CX0 13 t.bS t.bW ["script","start"] (liSp K UE):=by
 refine T.aP.F.okM _bz (Xw (u:=[("_law_cell",Zx),("_law_ferries",Ay),("_law_mix",Xg),("_law_names",Aw),("_law_step",Ax),("_law_word",Ug)]) (Xx T) (Xy T) rfl (fMc ⟨Au,(fMc ⟨PU,(fMc ⟨Yb,(fMc ⟨PM,(fMc ⟨PR,(fMc ⟨FE,nl0⟩)⟩)⟩)⟩)⟩)⟩) (fMc ⟨⟨_,_,_,(FnOk.mono (PD T) (by decide)),T.aq.m,T.aq.F.kp,T.aq.b⟩,(fMc ⟨⟨_,_,_,(FnOk.mono (_9X T) (by decide)),T.aZ.m,T.aZ.F.kp,T.aZ.b⟩,(fMc ⟨⟨_,_,_,(FnOk.mono (_d T) (by decide)),T.aa.m,T.aa.F.kp,T.aa.b⟩,(fMc ⟨⟨_,_,_,(FnOk.mono (_bJ T) (by decide)),T.aK.m,T.aK.F.kp,T.aK.b⟩,(fMc ⟨⟨_,_,_,(FnOk.mono (_cs T) (by decide)),T.aX.m,T.aX.F.kp,T.aX.b⟩,(fMc ⟨⟨_,_,_,(FnOk.mono (PH T) (by decide)),T.am.m,T.am.F.kp,T.am.b⟩,nl0⟩)⟩)⟩)⟩)⟩)⟩):Fts P w K mg base 12 Na [("_law_cell",Zx),("_law_ferries",Ay),("_law_mix",Xg),("_law_names",Aw),("_law_step",Ax),("_law_word",Ug)]) EJ _bV (fun vs M Q h=>?_) (fun vs M Q h=>?_)
 .obtain⟨_,rfl,_⟩:=h;rfl
 obtain⟨O,rfl,nl,q⟩:=h;show wSs _ _ _ [some (.frl (O.map .int)),some (.int 5),none,none,none,none,none,none,none,none,none,none,none,none,none,none] M;have hΦ:=(YJ (u:=[("_law_cell",Zx),("_law_ferries",Ay),("_law_mix",Xg),("_law_names",Aw),("_law_step",Ax),("_law_word",Ug)]) (fMc ⟨Au,(fMc ⟨PU,(fMc ⟨Yb,(fMc ⟨PM,(fMc ⟨PR,(fMc ⟨FE,nl0⟩)⟩)⟩)⟩)⟩)⟩));delta EJ N9;simp!;refine⟨O,0,rfl,by decide,λv0=>?_⟩
 simp!;refine⟨v0,1,rfl,?_⟩;obtain⟨h0,h1⟩:=Va v0 1;generalize Xk v0 1=hd at*;delta N8;simp!;intro p0 hp0;obtain⟨m,hm,m5⟩:=_jY (i:=hd%8) (by lia) (by lia)
 refine⟨_,hm,?_⟩;have s0:=SameM.new hp0 (.lst [MV.int 2,.int 3,.int 4,.int 5,.int 2,.int 3,.int 1,.int 0]);generalize updM M p0 _=M0 at*;delta N7;simp!;refine⟨O,1,rfl,by decide,λv1=>?_⟩
 simp!;refine⟨v1,2,rfl,?_⟩;simp!;refine⟨_,15,rfl,by decide,λpn d M1 s1 hpn hn zl W zg=>?_⟩
 delta N6;simp!;refine⟨O,2,rfl,by decide,λv2=>?_⟩
 simp!;refine⟨v2,3,rfl,?_⟩;obtain⟨z0,z1⟩:=Va v2 3;generalize Xk v2 3=sz at*;delta N5;simp!;intro p1 hp1;obtain⟨C,hwd,wd1,wd2⟩:∃C:Nat,atI [MV.int (1+sz/4%64),.int 64,.int (1+sz/4%5),.int 8] (sz%4)=some (.int C)/\1<=C/\C<=64:=by
  rcases(show sz%4=0\/sz%4=1\/sz%4=2\/sz%4=3 by lia)with e|e|e|e<;>rw[e]
  .exact⟨(1+sz/4%64).toNat,by rw[YW (by lia)];exact at0,by lia,by lia⟩
  .exact⟨64,at1,by lia,by lia⟩
  .exact⟨(1+sz/4%5).toNat,by rw[YW (by lia)];exact at2,by lia,by lia⟩
  .exact⟨8,at3,by lia,by lia⟩
 refine⟨_,hwd,?_⟩;have s2:=SameM.new hp1 (.lst [MV.int (1+sz/4%64),.int 64,.int (1+sz/4%5),.int 8]);generalize updM M1 p1 _=M2 at*;have hn2:=s2 _ _ hn;delta N4;simp!;refine⟨hd,pn,d,m,rfl,hn2,by lia,W,m5,λF pf M3 s3 hpf hf fl fn fo=>?_⟩
 delta N3;simp!;intro D X;have s4:=SameM.new X (.lst []);have hi4:updM M3 D (.lst []) D=some (.lst []):=Xb;have only:∀a,a≠D->updM M3 D (.lst []) a=M3 a:=λa e=>_l e;generalize updM M3 D _=M4 at*;have ndF:(F.map (·.name)).Nodup:=by
  refine Cj.mpr λi j H E hij e=>?_;rw[X5]at H E;rw[Up,Up]at e;have e1:=fn i _ (X6 H);have e2:=fn j _ (X6 E);rw[e]at e1;have:=(AQ (show 5+i<d.length by lia) W).mp (e1.trans e2.symm)
  lia
 delta N2;simp!;obtain⟨J,hJ⟩:∃J:Nat->Sm->MH->Prop,∀j σ Y,J j σ Y↔∃(L:List Isl) (ys:List MV) (v9 v10 v11 v12 v13 v14 v15:Option MV),SameM M3 Y/\Y D=some (.lst ys)/\IslsNew M4 Y L ys/\L.length=j/\(∀(k:Nat)I,L[k]?=some I->d[k]?=some I.name)/\(∀I∈L,IslOk C (F.map (·.name)) I/\∀s∈I.stps,BU F I.name s)/\(∀I∈L,I.prs.length<=4)/\
  σ=[some (.frl (O.map MV.int)),some (.int 5),some (.int hd),some (.int m),some (.ref pn),some (.int sz),some (.int C),some (.ref pf),some (.ref D),v9,v10,v11,v12,v13,v14,v15]:=⟨_,λ_ _ _=>YY⟩
 refine⟨by lia,by lia,J,(hJ 0 _ _).mpr ⟨[],[],_,_,_,_,_,_,_,s4,hi4,⟨rfl,λi I y h=>by simp at h⟩,rfl,λk I h=>by simp at h,λI h=>(nomatch h),λI h=>(nomatch h),rfl⟩,λj σ Y h=>trivial,?_,?_⟩
 .rintro i u σ Y hu h;obtain⟨L,ys,v9,v10,v11,v12,v13,v14,v15,s,Z,hI,il,inm,io,p4,rfl⟩:=(hJ _ _ _).mp h;obtain⟨H,rfl⟩:=BN hu;have H:i<m:=by simpa using H
  have hyl:=hI.len;have bk:∀x,Y x=none->M4 x=none:=λx U=>by
   by_cases e:x=D
   .subst e;rw[Z]at U;cases U
   .rw[only x e];exact s.free U
  delta N1;simp!;refine⟨sz,20+(0+(i:Nat)),rfl,?_⟩;obtain⟨r0,r1⟩:=Va sz (20+(0+(i:Nat)));generalize Xk sz (20+(0+(i:Nat)))=mr at*;have hn5:=s _ _ (s3 _ _ hn2);delta N0
  simp![hn5]
  intro po hpo;obtain⟨g,hzo,zol,zond,zoin⟩:∃g:List Str,cutM (d.map MV.str) (some 11) (some (11+mr%5))=g.map MV.str/\g.length<=4/\g.Nodup/\∀z∈g,z∈d:=by
   refine⟨(d.drop (HT.sIx (d.map MV.str).length 0 (some 11))).take (HT.sIx (d.map MV.str).length (d.map MV.str).length (some (11+mr%5)) - HT.sIx (d.map MV.str).length 0 (some 11)),?_,?_,?_,λz G=>UM (Z8 G)⟩
   .unfold cutM;rw[ZI,AS]
   .have e1:HT.sIx (d.map MV.str).length 0 (some 11)=11:=by
     have:=HT.sIx_nat (d.map MV.str).length 0 11;rw[X5,zl]at this ⊢;exact this
    rw[XQ,YN,e1];lia
   .exact(W.sublist (List.drop_sublist ..)).sublist (AN ..)
  rw[hzo];have s5:=SameM.new hpo (.lst (g.map MV.str));have ho5:updM Y po (.lst (g.map MV.str)) po=some (.lst (g.map MV.str)):=Xb;generalize updM Y po _=M5 at*;delta MZ;simp!;refine FK (XI ((O.length:Int) - 5).toNat) (λk=>.int (5+(k:Nat))) (λk=>.int (O.getD (5+k) 0%1000000007)) (λk=>decide ((5+(k:Int) - 5)%(m:Int)=0+(i:Nat))) ?_ ?_ hΦ λpc hpc=>?_
  .simp!;rw[X5];refine⟨⟨by lia,by lia⟩,rfl,by rw[YF];lia,trivial⟩
  .intro k R M6 s6;have R:k<((O.length:Int) - 5).toNat:=UO.mp R;have hkn:5+k<O.length:=by lia
   simp only[sCm,Xp,Y6,Yi,Yj,Yc,Ye];simp!;refine⟨by lia,λ_=>⟨.int O[5+k],?_,?_⟩⟩
   .have e:(5:Int)+(k:Nat)=((5+k:Nat):Int):=by lia
    rw[e];exact Xv (by rw[Xj,X6 hkn];rfl)
   .simp!;rw[ZY,X6 hkn];rfl
  obtain⟨N,hcs,csl⟩:∃N:List Int,((XI ((O.length:Int) - 5).toNat).filter (λk:Nat=>decide ((5+(k:Int) - 5)%(m:Int)=0+(i:Nat)))).map (λk=>MV.int (O.getD (5+k) 0%1000000007))=N.map MV.int/\N.length<=63:=by
   refine⟨((XI ((O.length:Int) - 5).toNat).filter (λk:Nat=>decide ((5+(k:Int) - 5)%(m:Int)=0+(i:Nat)))).map (λk=>O.getD (5+k) 0%1000000007),by rw[Ym];rfl,?_⟩
   rw[X5];exact Y7 (Cp ..) (by rw[YF];lia)
  rw[hcs];have s6:=SameM.new hpc (.lst (N.map MV.int));have hc6:updM M5 pc (.lst (N.map MV.int)) pc=some (.lst (N.map MV.int)):=Xb;generalize updM M5 pc _=M6 at*;delta MY
  simp![hc6]
  obtain⟨ln,hln,hln2⟩:∃ln:Nat,(if(12:Int)<((N.map MV.int).length:Nat)then(12:Int)else((N.map MV.int).length:Nat))=(ln:Int)/\ln=min 12 N.length:=by
   rw[X5];by_cases h:(12:Int)<(N.length:Nat)
   .rw[if_pos h];exact⟨12,rfl,by lia⟩
   .rw[if_neg h];exact⟨N.length,rfl,by lia⟩
  rw[hln];delta MX;simp!;refine Jf (XI g.length) (λj=>.int (0+(j:Nat))) (λj=>.tup [.str (g.getD j default),.int (UC (Xk mr (0+(j:Nat))) C)]) ?_ ?_ hΦ λpp M7 hpp s7 hp7=>?_
  .simp![s6 _ _ ho5]
   rw[X5];exact⟨by lia,by lia,rfl,by rw[YF];lia,trivial,λ_ _ e=>e⟩
  .intro j E M7 s7;have E:j<g.length:=UO.mp E;simp only[sCm,Xp,Y6,Yi,Yj,Yc,Ye]
   simp![s7 _ _ (s6 _ _ ho5)]
   refine⟨_,VU (k:=j) (by lia) (X6 E),?_⟩
   try walk_at "s"
   refine⟨mr,_,rfl,?_⟩
   try walk_at "s"
   refine⟨_,C,rfl,wd2,λM8 s8=>?_⟩
   try walk_at "s"
   refine⟨?_,s8⟩;rw[ZY,X6 E];rfl
  have s7:SameM M6 M7:=s7;obtain⟨l,A⟩:∃l:List (Str×Int),(XI g.length).map (λj:Nat=>(g.getD j default,UC (Xk mr (0+(j:Nat))) C))=l:=⟨_,rfl⟩;have hp7:M7 pp=some (.lst (l.map prV)):=by rw[hp7,<-A,Ym];rfl
  have hzi:=X6 (show i<d.length by lia)
  generalize d[i]'(by lia)=zi at*
  have v:=(s5.trans s6).trans s7;have hf7:=v _ _ (s _ _ hf);delta MW;simp!;refine PX (N.take 12) MV.int (λ_ y=>∃S:Stp,y=S.mv/\(Z0 (F.map (·.name)) g ln S/\BU F zi S)) ?_ ?_ hΦ λps M8 yss hps s8 ysl hyr hs8=>?_
  .simp![s7 _ _ hc6]
   intro p hp;have e12:=Fg (N.map MV.int) 12;have e12:cutM (N.map MV.int) none (some 12)=(N.take 12).map MV.int:=by rw[ZI];exact e12
   rw[e12]
   try walk_at "s"
   refine⟨rfl,by rw[XQ];lia,?_,SameM.new hp _⟩
   exact Xb
  .intro c hc M8 s8;simp only[sCm,Xp,Y6,Yi,Yj,Yc,Ye];simp!;refine⟨c,4,rfl,?_⟩
   simp![s8 _ _ (v _ _ hn5)]
   refine⟨_,VU (k:=i) (by lia) hzi,?_⟩
   try walk_at "s"
   refine⟨_,zi,pf,po,F,g,ln,rfl,s8 _ _ hf7,fl,ndF,s8 _ _ ((s6.trans s7) _ _ ho5),by lia,by lia,λS M9 s9 si se=>?_⟩
   exact⟨⟨S,rfl,si,se⟩,s9⟩
  obtain⟨ss,rfl,ssl,ssP⟩:=PY ysl hyr;have ssl:ss.length=ln:=by rw[ssl,XQ];lia
  have B:=v.trans s8;delta MU
  simp![B _ _ hn5,B _ _ Z]
  refine⟨⟨_,rfl⟩,_,VU (k:=i) (by lia) hzi,?_⟩
  simp![B _ _ Z]
  have vars:l.map (·.1)=g:=by
   rw[<-A,Ym];apply Vk;intro k;rw[Xj];by_cases R:k<g.length
   .rw[Vh R,X6 R];show some (g.getD k default)=_;rw[ZY,X6 R];rfl
   .rw[ZZ (by rw[YF];lia),ZZ (by lia)];rfl
  have prl:l.length=g.length:=by rw[<-vars,X5]
  have n1:M4 pp=none:=bk _ ((s5.trans s6).free hpp);have n2:M4 ps=none:=bk _ (v.free hps);have s8':∀x o,M8 x=some o->M4 x=none->updM M8 D (.lst (ys++[.tup [.str zi,.ref pp,.ref ps]])) x=some o:=λx o h n=>by
   rw[_l (λe=>by subst e;rw[hi4]at n;cases n)];exact h
  refine⟨by lia,(hJ _ _ _).mpr ⟨L++[⟨zi,l,ss⟩],_,_,_,_,_,_,_,_,(s.trans B).upd X _,Xb,?_,by rw[XO,il];rfl,λk I R=>?_,λI hI'=>?_,λI hI'=>?_,rfl⟩⟩
  .refine(hI.keep λx o h n=>s8' x o (B _ _ h) n).add (I:=⟨zi,l,ss⟩) n1 n2 (s8' _ _ (s8 _ _ hp7) n1) (s8' _ _ hs8 n2)
  .rcases Cb R with⟨_,R⟩|⟨rfl,rfl⟩
   .exact inm k I R
   .rw[il];exact hzi
  .rcases XZ.mp hI' with h'|h'
   .exact io I h'
   .rw[U0]at h';subst h';refine⟨⟨by show l.length<=6;lia,by show ss.length<=12;lia,?_,?_,?_,?_⟩,λS hS=>(ssP S hS).2⟩
    .show(l.map (·.1)).Nodup;rw[vars];exact zond
    .intro x U;have U:x∈l.map (·.1):=U;rw[vars]at U;exact zg x (zoin x U)
    .intro x U;have U:x∈l:=U;rw[<-A]at U;obtain⟨j,_,rfl⟩:=Xt.mp U;exact _dp _ _
    .intro S hS;show Z0 _ (l.map (·.1)) ss.length S;rw[vars,ssl];exact(ssP S hS).1
  .rcases XZ.mp hI' with h'|h'
   .exact p4 I h'
   .rw[U0.mp h'];show l.length<=4;lia
 .rintro σ Y h;obtain⟨L,ys,v9,v10,v11,v12,v13,v14,v15,s,Z,hI,il,inm,io,p4,rfl⟩:=(hJ _ _ _).mp h;have il:L.length=m:=il.trans (ZJ m);delta MS;simp!;have s03:=((s0.trans s1).trans s2).trans s3;have eI:L.map (·.name)=d.take m:=by
   apply Vk;intro k;by_cases R:k<m
   .rw[Xj,AK R,X6 (show k<L.length by lia),inm k _ (X6 (show k<L.length by lia))];rfl
   .rw[ZZ (by rw[X5];lia),ZZ (by rw[XQ];lia)]
  have eF:∀z∈F.map (·.name),∃j:Nat,j<F.length/\d[5+j]?=some z:=λz G=>by
   obtain⟨f,hf,rfl⟩:=Xt.mp G;obtain⟨j,E,rfl⟩:=Y3 hf;exact⟨j,E,fn j _ (X6 E)⟩
  refine q ⟨C,L,F⟩ D pf ys Y (s03.trans s) ?_ p4 (s03.free X) (((s0.trans s1).trans s2).free hpf) (neM hf X).symm Z hI.inn (s _ _ hf);refine⟨wd1,wd2,by show L.length<=5;lia,by show F.length<=6;exact fl,λz G=>?_,λz G=>?_,?_,λI H=>(io I H).1,λf hf=>?_,λI H=>(io I H).2⟩
  .obtain⟨j,_,e⟩:=eF z G;exact zg z (Y5 e)
  .have G:z∈L.map (·.name):=G;rw[eI]at G;exact zg z (Z8 G)
  .show(F.map (·.name)++L.map (·.name)).Nodup;rw[AO,eI];refine⟨ndF,W.sublist (AN ..),λa ha b hb e=>?_⟩;subst e;obtain⟨j,_,e1⟩:=eF a ha;obtain⟨k,R,e2⟩:=Y3 hb;rw[XQ]at R;rw[Ct]at e2;have:=(AQ (show k<d.length by lia) W).mp ((X6 (show k<d.length by lia)).trans ((congrArg some e2).trans e1.symm))
   lia
  .show FerOk (L.map (·.name)) f;rw[eI];exact fo f hf
theorem Yr{z:Str}(h:XF z):ShortT z:=⟨Y7 h.2.1 (by decide),λc j=>Nat.lt_of_le_of_lt (h.2.2 c j).2 (by decide)⟩
theorem UF:ShortT "":=⟨by decide+kernel,fun c j=>by rw[show(("":Str)).cps.toList=[] by decide+kernel]at j;cases j⟩
theorem _jM:¬XF "":=fun h=>absurd h.1 (by decide+kernel)
abbrev YD:SpM:=λj M Q=>∃(n:Int) (z:Str),j=[.int n,.str z]/\XF z/\∀r:Str,¬XF r->ShortT r->Q (.str r) M
theorem Cc:MonW YD:=by walk_at "m"
theorem _h8{i:Int}(l:0<=i)(h1:i<5):∃c:Nat,atI (("A_-1 z~.":Str)).cps.toList i=some c/\c<97:=by
 have e:(("A_-1 z~.":Str)).cps.toList=[65,95,45,49,32,122,126,46]:=by decide+kernel
 rw[e];rcases(show i=0\/i=1\/i=2\/i=3\/i=4 by lia)with rfl|rfl|rfl|rfl|rfl
 .exact⟨65,at0,by decide⟩
 .exact⟨95,at1,by decide⟩
 .exact⟨45,at2,by decide⟩
 .exact⟨49,at3,by decide⟩
 .exact⟨32,Xv (j:=4) rfl,by decide⟩
theorem PZ(T:Txt K mg t):FnOk P w K mg base CX0 1 t.bn t.cQ ["number","name"] (liSp K YD):=by
 refine T.ay.F.okM _9w (Xw (u:=[]) (Xx T) (Xy T) rfl nl0 nl0:Fts P w K mg base 0 Nm []) EL _9A (λp M Q h=>?_) (λp M Q h=>?_)
 .obtain⟨_,_,rfl,_⟩:=h;rfl
 obtain⟨n,z,rfl,u,q⟩:=h;show wSs _ _ _ [some (.int n),some (.str z),none] M;have Y:=u.1;have Z:=u.2.1;delta EL Nl;simp!;obtain⟨a,e,A⟩:∃a:Nat,n/4%((z.length:Int)+1)=(a:Int)/\a<=z.length:=by
  have B:=XR (n/4) (b:=(z.length:Int)+1) (by lia)
  have C:=XT (n/4) (show(0:Int)<(z.length:Int)+1 by lia)
  exact⟨(n/4%((z.length:Int)+1)).toNat,by lia,by lia⟩
 refine⟨by lia,by lia,?_⟩
 rw[e];delta Nk;simp!;refine Xe (λ_=>?_) (λ_=>?_)
 .delta Nj;simp!;exact q _ _jM UF
 delta Ni;simp!;refine Xe (λ_=>?_) (λ_=>?_)
 .delta Nh;simp!;have L:(9:Int) - (z.length:Int)=((9 - z.length:Nat):Int):=by lia
  have N:(("abcdefgh":Str)).cps.toList=[97,98,99,100,101,102,103,104]:=by decide+kernel
  rw[L];have y:=Av "abcdefgh" (9 - z.length);rw[N]at y;have O:=_1 (cutS "abcdefgh" none (some ((9 - z.length:Nat):Int)));rw[y,XQ,Y0,Y0,Y0,Y0,Y0,Y0,Y0,Y0,List.length_nil]at O;refine⟨by lia,by decide+kernel,by lia,q _ (λg=>?_) ⟨by rw[UD];lia,λc j=>?_⟩⟩
  .have:=g.2.1;rw[UD]at this;lia
  .rw[_z,y]at j;rcases XZ.mp j with j|j
   .exact(Yr u).cps c j
   .have j:=Z8 j;simp only[Xm,Ya,or_false]at j;rcases j with rfl|rfl|rfl|rfl|rfl|rfl|rfl|rfl<;>decide
 .delta Ng;simp!;obtain⟨c,j,m⟩:=_h8 (i:=n/64%5) (by lia) (by lia)
  have R:(a:Int)+1=((a+1:Nat):Int):=by lia
  rw[R];have d:=Av z a;have f:=FH z (a+1);have U:=_1 (cutS z none (some (a:Int)));have W:=_1 (cutS z (some ((a+1:Nat):Int)) none);rw[d,XQ,<-_1]at U;rw[f,YN,<-_1]at W;refine⟨by lia,by decide+kernel,c,j,?_⟩
  refine⟨by rw[_y];lia,by lia,by rw[UD,_y];lia,q _ (λg=>?_) ⟨by rw[UD,UD,_y];lia,λx l=>?_⟩⟩
  .have:=g.2.2 c (by rw[_z,_z];simp)
   lia
  .rw[_z,_z,d,f]at l;rcases XZ.mp l with l|l
   .rcases XZ.mp l with l|l
    .exact(Yr u).cps x (Z8 l)
    .obtain rfl:x=c:=by simpa using l
     exact Wg m (by decide)
   .exact(Yr u).cps x (UM l)
theorem pig{u:Type} [DecidableEq u]:∀{l j:List u},l.Nodup->(∀x∈l,x∈j)->l.length<=j.length
 |[],_,_,_=>Zj _
 |a::l,j,nd,h=>by
  rw[ZH]at nd;have y:=h a (XY ..);have:=pig (l:=l) (j:=j.erase a) nd.2 λx z=>(List.mem_erase_of_ne (λe:x=a=>nd.1 (e▸z))).mpr (h x (XU _ z));rw[List.length_erase_of_mem y]at this;have:=List.length_pos_of_mem y;rw[Y0];lia
abbrev Yy:SpM:=λl M Q=>∃(z:Str) (e:Addr) (j:List Str),l=[.str z,.ref e]/\M e=some (.lst (j.map MV.str))/\XF z/\j.length<=25/\∀r:Str,r∉j->XF r->Q (.str r) M
theorem VW:MonW Yy:=by walk_at "m"
theorem FM(T:Txt K mg t):FnOk P w K mg base CX0 1 t.cP t.c9 ["stem","known"] (liSp K Yy):=by
 refine T.aj.F.okM _bB (Xw (u:=[]) (Xx T) (Xy T) rfl nl0 nl0:Fts P w K mg base 0 Nq []) EM _bX (λY M Q h=>?_) (λY M Q h=>?_)
 .obtain⟨_,_,_,rfl,_⟩:=h;rfl
 obtain⟨z,a,p,rfl,Z,R,G,q⟩:=h;show wSs _ _ _ [some (.str z),some (.ref a),none] M;have W:(cutS z none (some 7)).cps.toList=z.cps.toList.take 7:=Av z 7;have I:(cutS z none (some 7)).length<=7:=by rw[_1,W,XQ];omega
 have S:=R.2.1;have A:=R.1;have X:1+(cutS z none (some 7)).length<=8:=by lia
 delta EM Np;simp!;obtain⟨J,L⟩:∃J:Nat->Sm->MH->Prop,∀j m g,J j m g↔g=M/\(∀i,i<j->i<26->cutS z none (some 7)++⟨#[97+i]⟩∈p)/\∃v,m=[some (.str z),some (.ref a),v]:=⟨_,λ_ _ _=>YY⟩;refine⟨J,(L _ _ _).mpr ⟨rfl,λi h=>by lia,_,rfl⟩,λj m g h=>trivial,?_,?_⟩
 .rintro j y m g B h;obtain⟨rfl,N,v,rfl⟩:=(L _ _ _).mp h;obtain⟨C,rfl⟩:=_c (f:=λc=>MV.str ⟨#[c]⟩) (l:=alph.cps.toList) B;obtain⟨D,E⟩:alph.cps.toList[j]=97+j/\j<26:=by
   have h:j<((XI 26).map (97+·)).length:=by rw[<-FF];exact C
   rw[X5,YF]at h;have e:alph.cps.toList[j]?=some (97+j):=by rw[FF,Xj,Vh h];rfl
   exact⟨(Xz.mp e).2,h⟩
  rw[D];have d:XF (cutS z none (some 7)++⟨#[97+j]⟩):=by
   refine⟨by rw[UD,_y];lia,by rw[UD,_y];lia,λx u=>?_⟩
   rw[_z,W]at u;rcases XZ.mp u with u|u
   .exact R.2.2 x (Z8 u)
   .obtain rfl:x=97+j:=by simpa using u
    lia
  delta No;simp!;refine⟨by omega,by rw[_y];omega,?_⟩
  refine .inl ⟨_,Z,rfl,Fl p,?_⟩;rw[Fk];by_cases hin:cutS z none (some 7)++⟨#[97+j]⟩∈p
  .rw[decide_eq_true hin];simp!;refine(L _ _ _).mpr ⟨rfl,λi O U=>?_,_,rfl⟩;rcases CI.mp O with l|rfl
   .exact N i l U
   .exact hin
  .rw[decide_eq_false hin];simp!;delta Nn;simp!;exact⟨by omega,by rw[_y];omega,q _ hin d⟩
 .rintro m g h;obtain⟨rfl,N,v,rfl⟩:=(L _ _ _).mp h;exfalso;have F:(Src.str ("abcdefghijklmnopqrstuvwxyz":Str)).len=26:=by decide+kernel
  rw[F]at N;have:=pig (l:=(XI 26).map λi=>cutS z none (some 7)++⟨#[97+i]⟩) (j:=p) (by
   unfold List.Nodup;rw[List.pairwise_map];refine List.Pairwise.imp (fun{a b} ne e=>ne ?_) List.nodup_range;have e:=congrArg (λs:Str=>s.cps.toList) e;have e:(cutS z none (some 7)++⟨#[97+a]⟩).cps.toList=(cutS z none (some 7)++⟨#[97+b]⟩).cps.toList:=e;rw[_z,_z]at e;have e:=G4 e;have e:[97+a]=[97+b]:=e;have e:=(List.cons.inj e).1;lia) λx u=>by
    obtain⟨i,O,rfl⟩:=Xt.mp u;exact N i (UO.mp O) (UO.mp O)
  rw[X5,YF]at this;lia
abbrev XV:SpM:=λu M Q=>∃(a:Addr) (j:List MV) (k:Nat) (y:MV),u=[.ref a,.int k,y]/\M a=some (.lst j)/\k<j.length/\j.length<=100/\∀p l,SameM M l->M p=none->l p=some (.lst (j.set k y))->Q (.ref p) l
theorem _T:MonW XV:=by walk_at "m"
theorem _j9{j:List MV}{k:Nat}{y:MV}(h:k<j.length):j.take k++y::j.drop (k+1)=j.set k y:=by
 rw[List.set_eq_take_append_cons_drop,if_pos h]
theorem Cd{z:List (Str×SpM)}{X Y K L:IE}{m:Sm}{M:MH}{Q:QM}{a:Addr}{u:List MV}{k l:Nat}{y:MV}(C:∀j Q,wE z X m j Q=Q (.ref a) j)(D:∀j Q,wE z K m j Q=Q (.int k) j)(E:∀j Q,wE z L m j Q=Q (.int l) j)
  (F:∀j Q,SameM M j->(∀g,SameM j g->Q y g)->wE z Y m j Q)(T:M a=some (.lst u))(i:u.length<=1000)(q:∀p j,SameM M j->M p=none->j p=some (.lst (u.take k++y::u.drop l))->Q (.ref p) j):
  wE z (.bin .Add (.bin .Add (.sl X .none (.some K)) (.lst (.cons Y .nil))) (.sl X (.some L) .none)) m M Q:=by
 simp![C,D,E,T]
 intro p G;rw[Fg];have U:=SameM.new G (.lst (u.take k));have I:updM M p (.lst (u.take k)) p=some (.lst (u.take k)):=Xb;generalize updM M p _=M1 at*;refine F _ _ U λM2 J S c=>?_;have W:=J.trans (SameM.new c (.lst [y]));generalize updM M2 S _=M3 at*;refine⟨_,W _ _ I,by rw[XQ];lia,λf e=>?_⟩
 have Z:=(U.trans W).trans (SameM.new e (.lst (u.take k++[y])));have H:updM M3 f (.lst (u.take k++[y])) f=some (.lst (u.take k++[y])):=Xb;generalize updM M3 f _=M4 at*;have N:=Z _ _ T
 simp![N]
 intro O R;rw[Fh];have A:=SameM.new R (.lst (u.drop l));have v:updM M4 O (.lst (u.drop l)) O=some (.lst (u.drop l)):=Xb;have o:=A _ _ H;generalize updM M4 O _=M6 at*
 simp![o,v]
 refine⟨by rw[XO,XQ,YN,Ul];lia,λs d=>?_⟩
 have B:=Z.trans A;refine q s _ (B.trans (SameM.new d _)) (B.free d) ?_;rw[Xb,Vj];rfl
theorem Az(T:Txt K mg t):FnOk P w K mg base CX0 1 t.dz t.cS ["things","at","thing"] (liSp K XV):=by
 refine T.ac.F.okM _8D (Xw (u:=[]) (Xx T) (Xy T) rfl nl0 nl0:Fts P w K mg base 0 Nt []) EN _8R (λu M Q h=>?_) (λu M Q h=>?_)
 .obtain⟨_,_,_,_,rfl,_⟩:=h;rfl
 obtain⟨a,d,k,y,rfl,z,m,c,q⟩:=h;show wSs _ _ _ [some (.ref a),some (.int k),some y] M;delta EN Nr;show wE _ _ _ _ _;refine Cd (k:=k) (l:=k+1) (fun _ _=>rfl) (fun _ _=>rfl) (fun j Q=>by simp!;rfl) (fun j Q s q=>q _ (SameM.refl _)) z (by lia) fun p j s g h=>?_
 rw[_j9 m]at h;exact q p j s g h
def Par(M:MH)(R:RW)(v:MV):Prop:=∃j l u,v=.tup [.int R.w,.ref j,.ref l]/\M j=some (.lst u)/\IslsIn M R.isl u/\M l=some (.lst (R.fer.map RFer.mv))
theorem Par.keep{M j:MH}(s:SameM M j){R:RW}{v:MV}(h:Par M R v):Par j R v:=by
 obtain⟨l,u,y,e,z,m,g⟩:=h;exact⟨l,u,y,e,s _ _ z,m.keep s,s _ _ g⟩
def RW.at(R:RW)(j:Nat)(I:Isl):Option Str:=islG R.w.toNat R.fns R.isl j I
noncomputable def RW.put(R:RW)(k:Nat)(I:Isl):RW:=⟨R.w,R.isl.set k I,R.fer⟩
theorem FN{M:MH}{Is:List Isl}{z:List MV}(h:IslsIn M Is z){k:Nat}{I:Isl}{y:MV}(m:IslIn M I y):IslsIn M (Is.set k I) (z.set k y):=by
 refine⟨by rw[Zt,Zt];exact h.1,λi J u j l=>?_⟩
 rw[Zi]at j l;by_cases c:k=i
 .rw[if_pos c]at j l;split at j
  .split at l
   .cases j;cases l;exact m
   .cases l
  .cases j
 .rw[if_neg c]at j l;exact h.2 i J u j l
theorem FO{fs j:List Str}{n m:Nat}{s:Stp}(h:Z0 fs j n s)(l:n<=m):Z0 fs j m s:=by
 cases s with
 |take f x=>exact h
 |give f U=>exact h
 |put x U=>exact h
 |jump U i=>exact⟨h.1,h.2.1,by have:=h.2.2;lia⟩
theorem Q0{w:Nat}{fs:List Str}{I:Isl}(h:6<I.prs.length\/12<I.stps.length):islF w fs I=some ("TooMany":Str):=by
 unfold islF;by_cases c:6<I.prs.length
 .rw[if_pos c]
 .rw[if_neg c,if_pos (by lia)]
theorem FP{w:Nat}{fs:List Str}{I:Isl}{c:Str}(h1:I.prs.length<=6)(h2:I.stps.length<=12)(h:varF w I.prs=some c):islF w fs I=some c:=by
 unfold islF;rw[if_neg (by lia),if_neg (by lia),h];rfl
theorem _hB{w:Nat}{fs:List Str}{I:Isl}(ok:IslOk w fs I){S:Stp}{k:Nat}{c:Str}(g:k<=I.stps.length)(h11:k<=11)(z:∀n,n<=12->Y2 fs I.vars n S=some c):islF w fs ⟨I.name,I.prs,I.stps.take k++S::I.stps.drop (k+1)⟩=some c:=by
 have d:=ok.nv;have f:=ok.ns;have lt:(I.stps.take k).length=k:=by rw[XQ];lia
 have u:(I.stps.take k++S::I.stps.drop (k+1)).length<=12/\I.stps.length<=(I.stps.take k++S::I.stps.drop (k+1)).length:=by
  rw[XO,lt,Y0,YN];lia
 unfold islF;rw[if_neg (by show¬6<I.prs.length;lia),if_neg (by show¬12<(I.stps.take k++S::I.stps.drop (k+1)).length;lia)]
 have m:varF w I.prs=none:=FB ok.nd λp y=>⟨ok.gd _ (Xt.mpr ⟨p,y,rfl⟩),ok.wd p y⟩;show(varF w I.prs).or _=_;rw[m,Vx];refine VT (j:=k) (x:=S) ?_ (z _ u.1) λi s q l=>?_
 .show(I.stps.take k++S::I.stps.drop (k+1))[k]?=_;rw[Zh (by lia),lt,B3];rfl
 .have l:(I.stps.take k++S::I.stps.drop (k+1))[i]?=some s:=l;rw[YU (by lia)]at l
  exact Pq (FO (ok.st s (Z8 (Y5 l))) u.2)
theorem FQ{w:Nat}{l bs:List (Str×Int)}{p:Str×Int}{c:Str}(h:varF w l=none)(e:(Yk (l.map (·.1)) p.1).or (if 0<=p.2/\p.2<2^w then none else some ("NoWord":Str))=some c):varF w (l++p::bs)=some c:=by
 have u:∀j,j<=l.length->((l++p::bs).map (·.1)).take j=(l.map (·.1)).take j:=λj m=>by
  rw[Yd,List.take_append_of_le_length (by rw[X5];exact m)]
 refine _R (j:=l.length) (x:=p) ?_ ?_ λi y g z=>?_
 .rw[Zh (Xf _),B3];rfl
 .rw[varG,u _ (Xf _),ZE (by rw[X5];exact Xf _)];exact e
 .rw[YU g]at z;rw[varG,u i (by lia)]
  exact _r h z
theorem _h2{w:Nat}{j:List (Str×Int)}(h:varF w j=none)(k:Nat):varF w (j.take k)=none:=by
 obtain⟨l,u⟩:=Pt h;refine FB ?_ λp y=>u p (Z8 y);rw[ZI];exact List.Nodup.sublist (AN _ _) l
abbrev Q1(R:RW)(k:Nat)(M:MH)(Q:QM):Prop:=∀(j:Isl)(C:Str)(v:MV)l,SameM M l->IslSh j->R.at k j=some C->Par l (R.put k j) v->Q (.tup [v,.str C]) l
theorem _kU:XF "v":=by unfold XF;decide+kernel
theorem _h1{fs l:List Str}{r:Str}(y:r∉l)(d:XF r){m:Int}(f:0<=m):∃(S:Stp) (c:Str),atI ([(Stp.put r (.num 0)).mv,(Stp.jump (.num 1) (13+m%100)).mv,(Stp.jump (.var r) 0).mv]++[(Stp.jump (.num 1) (-1 - m%9)).mv]) (m%4)=some S.mv/\atI [MV.str "Unknown",.str "NoStep"] (m%2)=some (.str c)/\(∀n,n<=12->Y2 fs l n S=some c)/\StpSh S:=by
 have sh:=Yr d;have u:∀i:Int,TmSh (.num i):=λi=>⟨by simp[Tm.depth],λx j=>by simp[Tm.reads]at j⟩
 have f1:∀i:Int,Yx l (.num i)=none:=λi=>As ⟨by simp[Tm.depth],by simp[Tm.size],λx j=>by simp[Tm.reads]at j⟩
 rcases(show m%4=0\/m%4=1\/m%4=2\/m%4=3 by lia)with e|e|e|e<;>rw[e]
 .rw[show m%2=0 by lia]
  exact⟨.put r (.num 0),"Unknown",at0,at0,fun n _=>if_neg y,sh,u 0⟩
 .rw[show m%2=1 by lia]
  exact⟨.jump (.num 1) (13+m%100),"NoStep",at1,at1,fun n g=>by simp only[Y2,f1];exact if_neg (by lia),u 1⟩
 .rw[show m%2=0 by lia]
  refine⟨.jump (.var r) 0,"Unknown",at2,at0,fun n g=>?_,⟨by simp[Tm.depth],fun x j=>by simp[Tm.reads]at j;rw[j];exact sh⟩⟩
  have:Yx l (.var r)=some ("Unknown":Str):=by
   unfold Yx;rw[if_neg (by simp[Tm.size,Tm.depth]),if_neg λz=>y (z r (by simp[Tm.reads]))]
  simp only[Y2,this]
 .rw[show m%2=1 by lia]
  exact⟨.jump (.num 1) (-1 - m%9),"NoStep",at3,at1,fun n g=>by simp only[Y2,f1];exact if_neg (by lia),u 1⟩
abbrev ZU:SpM:=λj M Q=>∃(n:Int) (R:RW) (v:MV) (k:Nat) (I:Isl),j=[.int n,v,.int k]/\Par M R v/\R.isl.length<=5/\R.isl[k]?=some I/\IslSh I/\R.at k I=none/\Q1 R k M Q
theorem Q2:MonW ZU:=by walk_at "m"
theorem _7B(T:Txt K mg t):FnOk P w K mg base CX0 2 t.dt t.cx ["number","parts","at"] (liSp K ZU):=by
 refine T.aH.F.okM _7w (Xw (u:=[("_law_exchanged",XV),("_law_fresh",Yy),("_law_mix",Xg)]) (Xx T) (Xy T) rfl (fMc ⟨_T,(fMc ⟨VW,(fMc ⟨Yb,nl0⟩)⟩)⟩) (fMc ⟨⟨_,_,_,(FnOk.mono (Az T) (by decide)),T.ac.m,T.ac.F.kp,T.ac.b⟩,(fMc ⟨⟨_,_,_,(FnOk.mono (FM T) (by decide)),T.aj.m,T.aj.F.kp,T.aj.b⟩,(fMc ⟨⟨_,_,_,(FnOk.mono (_d T) (by decide)),T.aa.m,T.aa.F.kp,T.aa.b⟩,nl0⟩)⟩)⟩):Fts P w K mg base 1 ND [("_law_exchanged",XV),("_law_fresh",Yy),("_law_mix",Xg)]) EQ _8p (fun vs M Q h=>?_) (fun vs M Q h=>?_)
 .obtain⟨_,_,_,_,_,rfl,_⟩:=h;rfl
 obtain⟨n,R,v,k,I,rfl,⟨O,U,Z,rfl,g,W,A⟩,i5,hk,sh,ok,q⟩:=h;obtain⟨e1,e2⟩:=or_none.mp ok;have B:=FC e2;have l1:=B.nv;have l2:=B.ns;have E:=(YJ (u:=[("_law_exchanged",XV),("_law_fresh",Yy),("_law_mix",Xg)]) (fMc ⟨_T,(fMc ⟨VW,(fMc ⟨Yb,nl0⟩)⟩)⟩));have F:=(Xz.mp hk).1;have m:k<Z.length:=by rw[W.1];exact F
 obtain⟨a,b,ey,G,hb⟩:=W.2 k I _ hk (X6 m);have J:atI Z (k:Int)=some (.tup [.str I.name,.ref a,.ref b]):=Xv (by rw[X6 m,ey])
 show wSs _ _ _ [some (.int n),some (.tup [.int R.w,.ref O,.ref U]),some (.int k),none,none,none,none,none,none,none,none,none,none,none] M;delta EQ NC;simp!;delta NB
 simp![g,J]
 delta NA;simp!;refine⟨n,2,rfl,?_⟩;obtain⟨m0,m1⟩:=Va n 2;generalize Xk n 2=more at*
 try walk_at "s"
 delta Nz
 simp![hb,X5]
 obtain⟨j,X,kl,H⟩:∃j:Nat,more/8%(1+if(11:Int)<(I.stps.length:Int)then 11 else(I.stps.length:Int))=(j:Int)/\j<=I.stps.length/\j<=11:=by
  obtain⟨d,hd⟩:∃d:Nat,(if(11:Int)<(I.stps.length:Int)then(11:Int)else(I.stps.length:Int))=(d:Int)/\d<=I.stps.length/\d<=11:=by
   by_cases c:(11:Int)<(I.stps.length:Int)
   .exact⟨11,by rw[if_pos c];rfl,by lia,by lia⟩
   .exact⟨I.stps.length,by rw[if_neg c],by lia,by lia⟩
  rw[hd.1];have h0:=XR (more/8) (b:=1+(d:Int)) (by lia)
  have h1:=XT (more/8) (show(0:Int)<1+(d:Int) by lia)
  exact⟨(more/8%(1+(d:Int))).toNat,by lia,by lia,by lia⟩
 refine⟨by by_cases c:(11:Int)<(I.stps.length:Int)<;>simp only[c,if_true,if_false]<;>lia,?_⟩
 rw[X];delta Ny;simp!;refine _b I.prs prV (λp=>.str p.1) ?_ ?_ E λD hD=>?_
 .simp![G]
  exact⟨rfl,by lia,G⟩
 .intro p hp Y s;simp only[sCm,Xp,Y6,Yi,Yj,Yc,Ye]
  simp![prV]
  try exact⟨rfl,rfl⟩
 have eV:(I.prs.map λp=>MV.str p.1)=I.vars.map MV.str:=by unfold Isl.vars;rw[Ym];rfl
 rw[eV];have s1:=SameM.new hD (.lst (I.vars.map MV.str));have d1:updM M D (.lst (I.vars.map MV.str)) D=some (.lst (I.vars.map MV.str)):=Xb;generalize updM M D _=M1 at*;refine⟨"v",D,I.vars,rfl,d1,_kU,by unfold Isl.vars;rw[X5];lia,fun r hr gr=>?_⟩
 try walk_at "s"
 delta Nw;simp!;intro f o;have s2:=s1.trans (SameM.new o (.lst [(Stp.put r (.num 0)).mv,(Stp.jump (.num 1) (13+more%100)).mv,(Stp.jump (.var r) 0).mv]));have g2:updM M1 f (.lst [(Stp.put r (.num 0)).mv,(Stp.jump (.num 1) (13+more%100)).mv,(Stp.jump (.var r) 0).mv]) f=some (.lst [(Stp.put r (.num 0)).mv,(Stp.jump (.num 1) (13+more%100)).mv,(Stp.jump (.var r) 0).mv]):=Xb
 change wSs _ _ _ _ (updM M1 f (.lst [(Stp.put r (.num 0)).mv,(Stp.jump (.num 1) (13+more%100)).mv,(Stp.jump (.var r) 0).mv]))
 generalize updM M1 f _=M2 at*;delta Nv
 simp![g2]
 obtain⟨S,C,aS,aC,hS,i⟩:=_h1 (fs:=R.fns) hr gr m0
 suffices key:∀M4,SameM M M4->wSs ([("_law_exchanged",XV),("_law_fresh",Yy),("_law_mix",Xg)]:List (Str×SpM)) EO {nx:=fun x Y=>Q MV.non Y,rt:=Q} [some (.int n),some (.tup [.int R.w,.ref O,.ref U]),some (.int k),some (.int R.w),some (.ref O),some (.ref U),some (.str I.name),some (.ref a),some (.ref b),some (.int more),some (.int j),some (.str r),some (.ref f),some S.mv] M4 by
  intro p3 e;refine⟨_,SameM.new e _ _ _ g2,by show 3<=16777215;decide,λp4 hp4=>⟨_,aS,?_⟩⟩
  exact key _ ((s2.trans (SameM.new e _)).trans (SameM.new hp4 _))
 intro M4 s4;delta EO;show wE _ _ _ _ _;refine Cd (k:=j) (l:=j+1) (y:=S.mv) (fun _ _=>rfl) (fun _ _=>rfl) (fun Y Q=>by simp!;rfl) (fun Y Q s q=>q _ (SameM.refl _)) (s4 _ _ hb) (by rw[X5];lia) fun p5 M5 s5 hp5 g5=>?_
 have es:(I.stps.map Stp.mv).take j++S.mv::(I.stps.map Stp.mv).drop (j+1)=(I.stps.take j++S::I.stps.drop (j+1)).map Stp.mv:=by rw[Yd,Xp,ZI,AS]
 rw[es]at g5;have L:=s4.trans s5;show wSs _ _ _ _ M5;delta Nu;simp!;refine⟨O,Z,k,_,rfl,L _ _ g,m,by rw[W.1];lia,λp6 M6 s6 hp6 g6=>?_⟩
 simp!;intro p7 N;refine⟨_,aC,?_⟩;have s7:=s6.trans (SameM.new N (.lst [MV.str "Unknown",.str "NoStep"]));have g7:=SameM.new N (.lst [MV.str "Unknown",.str "NoStep"]) _ _ g6;have u:=L.trans s7;refine q ⟨I.name,I.prs,I.stps.take j++S::I.stps.drop (j+1)⟩ C _ _ u ⟨sh.nm,sh.nv,?_,sh.vs,λs z=>?_⟩ ?_ ⟨p6,U,_,rfl,g7,FN (W.keep u) ⟨a,p5,rfl,u _ _ G,s7 _ _ g5⟩,u _ _ A⟩
 .show(I.stps.take j++S::I.stps.drop (j+1)).length<=100;rw[XO,Y0,XQ,YN];lia
 .have z:s∈I.stps.take j++S::I.stps.drop (j+1):=z;rcases XZ.mp z with z|z
  .exact sh.st s (Z8 z)
  .rcases Xm.mp z with rfl|z
   .exact i
   .exact sh.st s (UM z)
 .show(Yk _ I.name).or _=_;rw[e1,Vx];exact _hB B kl H hS
theorem _fq{z:Type}{f:z->MV}{j:List z}{u:List MV}(l:u.length=j.length)(r:∀(i:Nat)x y,j[i]?=some x->u[i]?=some y->y=f x):u=j.map f:=by
 refine List.ext_getElem (by simp[l]) λi m g=>?_
 rw[Up];exact r i _ _ (X6 (by lia)) (X6 m)
theorem Q3{M:MH}{Is:List Isl}{u:List MV}(h:IslsIn M Is u)(k:Nat):IslsIn M (Is.take k) (u.take k):=by
 refine⟨by rw[XQ,XQ,h.1],λi I y j l=>?_⟩
 rw[List.getElem?_take]at j l;by_cases c:i<k
 .rw[if_pos c]at j l;exact h.2 i I y j l
 .rw[if_neg c]at j;cases j
theorem FR{l:List (Str×SpM)}{k:Str}{E T:IE}{u:Sm}{M:MH}{Q:QM}{m:Nat}{y:MV}(c:∀Q,wE l E u M Q=Q (.int m) M)(L:m<=1000)(p:∀u z Q,wE l T u z Q=Q y z)(g:∀(j:Nat)f d,l[j]?=some (f,d)->MonW d)
  (q:∀D,M D=none->Q (.ref D) (updM M D (.lst (XH m y)))):wE l (.comp [k] [] (.rng E) (.nm 0) .none T) u M Q:=by
 refine _b (XI m) (λi=>.int (i:Nat)) (λ_=>y) ?_ ?_ g λD e=>?_
 .simp![c]
  refine⟨by lia,by lia,?_,by rw[YF];lia,trivial⟩
  show(XI ((m:Int).toNat)).map _=_;rw[ZJ];exact Cq λi _=>by rw[Int.zero_add]
 .intro x _ z _
  simp![p]
 .have:(XI m).map (λ_=>y)=XH m y:=by rw[List.map_const',YF]
  rw[this];exact q D e
abbrev YK:SpM:=λl M Q=>∃(n:Int) (R:RW) (v:MV) (k:Nat) (I:Isl),l=[.int n,v,.int k]/\Par M R v/\1<=R.w/\R.w<=64/\R.isl.length<=5/\R.fer.length<=6/\R.isl[k]?=some I/\IslSh I/\I.prs.length<=4/\(∀f∈R.fer,XF f.name)/\(∀(j:Nat)J,j<=k->R.isl[j]?=some J->R.at j J=none)/\Q1 R k M Q
theorem Ce:MonW YK:=by walk_at "m"
theorem _kL:XF "ab":=by unfold XF;decide+kernel
theorem Q4(T:Txt K mg t):FnOk P w K mg base CX0 3 t.bJ t.cM ["number","parts","at"] (liSp K YK):=by
 refine T.aw.F.okM _6p (Xw (u:=[("_law_bad_name",YD),("_law_exchanged",XV),("_law_fresh",Yy),("_law_mix",Xg),("_law_wrong_step",ZU)]) (Xx T) (Xy T) rfl (fMc ⟨Cc,(fMc ⟨_T,(fMc ⟨VW,(fMc ⟨Yb,(fMc ⟨Q2,nl0⟩)⟩)⟩)⟩)⟩) (fMc ⟨⟨_,_,_,(FnOk.mono (PZ T) (by decide)),T.ay.m,T.ay.F.kp,T.ay.b⟩,(fMc ⟨⟨_,_,_,(FnOk.mono (Az T) (by decide)),T.ac.m,T.ac.F.kp,T.ac.b⟩,(fMc ⟨⟨_,_,_,(FnOk.mono (FM T) (by decide)),T.aj.m,T.aj.F.kp,T.aj.b⟩,(fMc ⟨⟨_,_,_,(FnOk.mono (_d T) (by decide)),T.aa.m,T.aa.F.kp,T.aa.b⟩,(fMc ⟨⟨_,_,_,(FnOk.mono (_7B T) (by decide)),T.aH.m,T.aH.F.kp,T.aH.b⟩,nl0⟩)⟩)⟩)⟩)⟩):Fts P w K mg base 2 O2 [("_law_bad_name",YD),("_law_exchanged",XV),("_law_fresh",Yy),("_law_mix",Xg),("_law_wrong_step",ZU)]) EU _6u (fun vs M Q h=>?_) (fun vs M Q h=>?_)
 .obtain⟨_,_,_,_,_,rfl,_⟩:=h;rfl
 obtain⟨n,R,v,k,I,rfl,par,w1,w2,i5,f6,hk,sh,p4,fg,okJ,q⟩:=h;obtain⟨H,o,ys,rfl,hpi,hI,hpf⟩:=id par;have ok:=okJ k I (Xf _) hk;obtain⟨e1,e2⟩:=or_none.mp ok;have io:=FC e2;obtain⟨gI,nI⟩:=name_ok.mp e1;have l2:=io.ns;have A:=(YJ (u:=[("_law_bad_name",YD),("_law_exchanged",XV),("_law_fresh",Yy),("_law_mix",Xg),("_law_wrong_step",ZU)]) (fMc ⟨Cc,(fMc ⟨_T,(fMc ⟨VW,(fMc ⟨Yb,(fMc ⟨Q2,nl0⟩)⟩)⟩)⟩)⟩));have hkl:=(Xz.mp hk).1;have hky:k<ys.length:=by rw[hI.1];exact hkl
 obtain⟨a,b,ey,ha,hb⟩:=hI.2 k I _ hk (X6 hky);have aty:atI ys (k:Int)=some (.tup [.str I.name,.ref a,.ref b]):=Xv (by rw[X6 hky,ey])
 show wSs _ _ _ [some (.int n),some (.tup [.int R.w,.ref H,.ref o]),some (.int k),none,none,none,none,none,none,none,none,none,none,none] M;delta EU O1;simp!;delta O0
 simp![hpi,aty]
 delta NZ;simp!;refine Xe (λ_=>?_) (λ_=>?_)
 .delta NY;simp!;exact⟨n,R,_,k,I,rfl,par,i5,hk,sh,ok,q⟩
 delta NX;simp!;delta NW;simp!;refine⟨n,2,rfl,?_⟩;obtain⟨m0,m1⟩:=Va n 2;generalize Xk n 2=more at*
 try walk_at "s"
 delta NV;simp!;delta NU;simp!;refine _b R.fer RFer.mv (λf=>.str f.name) ?_ ?_ A λD hD=>?_
 .simp![hpf]
  exact⟨rfl,by lia,hpf⟩
 .intro p hp B s;simp only[sCm,Xp,Y6,Yi,Yj,Yc,Ye]
  simp![RFer.mv]
  try exact⟨rfl,rfl⟩
 have eF:(R.fer.map λf=>MV.str f.name)=R.fns.map MV.str:=by unfold RW.fns;rw[Ym];rfl
 rw[eF];have s1:=SameM.new hD (.lst (R.fns.map MV.str));have d1:updM M D (.lst (R.fns.map MV.str)) D=some (.lst (R.fns.map MV.str)):=Xb;generalize updM M D _=M1 at*;have hpi1:=s1 _ _ hpi;refine PX (ys.take k) (λy=>y) (λx y=>y=fstM x) ?_ ?_ A λD2 M2 zs hD2 s2 zl zr d2=>?_
 .simp![hpi1]
  intro p hp;rw[Fg];exact⟨(W8 _).symm,by rw[XQ];lia,Xb,SameM.new hp _⟩
 .intro y hy B s;obtain⟨J,_,c,d,rfl,_⟩:=(Q3 hI k).mem hy;simp only[sCm,Xp,Y6,Yi,Yj,Yc,Ye];simp!;exact⟨rfl,SameM.refl _⟩
 have ez:=_fq zl zr;rw[(Q3 hI k).fst λz r=>rfl,ZI]at ez;subst ez;have d12:=s2 _ _ d1
 simp![d12,d2]
 refine⟨by rw[X5,X5,XQ,X5];unfold RW.fns;rw[X5];lia,λpo hpo=>?_⟩
 rw[<-Yd];have G:=(s1.trans s2).trans (SameM.new hpo (.lst ((R.fns++(R.isl.map (·.name)).take k).map MV.str)));have g3:updM M2 po (.lst ((R.fns++(R.isl.map (·.name)).take k).map MV.str)) po=some (.lst ((R.fns++(R.isl.map (·.name)).take k).map MV.str)):=Xb;generalize updM M2 po _=M3 at*;have Z:∀(I':Isl)(C:Str)(pa sa:Addr)(v13:Option MV)O,SameM M O->IslSh I'->R.at k I'=some C->O pa=some (.lst (I'.prs.map prV))->O sa=some (.lst (I'.stps.map Stp.mv))->wSs ([("_law_bad_name",YD),("_law_exchanged",XV),("_law_fresh",Yy),("_law_mix",Xg),("_law_wrong_step",ZU)]:List (Str×SpM)) Aq {nx:=fun x B=>Q MV.non B,rt:=Q} [some (.int n),some (.tup [.int R.w,.ref H,.ref o]),some (.int k),some (.int R.w),some (.ref H),some (.ref o),some (.str I'.name),some (.ref pa),some (.ref sa),some (.int (n%7)),some (.int more),some (.str C),some (.ref po),v13] O:=by
  intro I' C pa sa v13 O u sh' e' h1 h2;delta Aq;simp!;refine⟨H,ys,k,_,rfl,u _ _ hpi,hky,by rw[hI.1];lia,λp6 M6 E F g6=>?_⟩
  try walk_at "s"
  have s7:=u.trans E;exact q I' C _ _ s7 sh' e' ⟨p6,o,_,rfl,g6,FN (hI.keep s7) ⟨pa,sa,rfl,E _ _ h1,E _ _ h2⟩,s7 _ _ hpf⟩
 have U:=G _ _ ha;have W:=G _ _ hb;have bad:∀(z C:Str),Yk (R.fns++(R.isl.map (·.name)).take k) z=some C->R.at k ⟨z,I.prs,I.stps⟩=some C:=λz C e=>by
  show(Yk _ z).or _=_;rw[e];rfl
 have L:∀(ps:List (Str×Int))(ss:List Stp)(C:Str),islF R.w.toNat R.fns ⟨I.name,ps,ss⟩=some C->R.at k ⟨I.name,ps,ss⟩=some C:=λps ss C e=>by
  show(Yk _ I.name).or _=_;rw[e1,e];rfl
 have b0:∀O,SameM M3 O->wSs ([("_law_bad_name",YD),("_law_exchanged",XV),("_law_fresh",Yy),("_law_mix",Xg),("_law_wrong_step",ZU)]:List (Str×SpM)) ER {nx:=fun σ M=>wSs ([("_law_bad_name",YD),("_law_exchanged",XV),("_law_fresh",Yy),("_law_mix",Xg),("_law_wrong_step",ZU)]:List (Str×SpM)) Aq {nx:=fun x B=>Q MV.non B,rt:=Q} σ M,rt:=Q} [some (.int n),some (.tup [.int R.w,.ref H,.ref o]),some (.int k),some (.int R.w),some (.ref H),some (.ref o),some (.str I.name),some (.ref a),some (.ref b),some (.int (n%7)),some (.int more),some (.str "NoName"),some (.ref po),none] O:=by
  intro O u;delta ER;simp!;refine⟨more,I.name,rfl,gI,λr hr shr=>?_⟩
  try walk_at "s"
  exact Z ⟨r,I.prs,I.stps⟩ _ a b _ _ (G.trans u) ⟨shr,sh.nv,sh.ns,sh.vs,sh.st⟩ (bad _ _ (At hr)) (u _ _ U) (u _ _ W)
 delta NT;simp!;refine Xe (λ_=>b0 _ (SameM.refl _)) (λc0=>?_);refine Xe (λc1=>?_) (λc1=>?_)
 .intro p4 hp4;have u:=SameM.new hp4 (.lst []);refine _p (u _ _ g3) Xb ?_;generalize updM M3 p4 _=O at*;refine Xe (λ_=>b0 _ u) (λne=>?_);have g4:=u _ _ g3;obtain⟨os,hos⟩:∃os,R.fns++(R.isl.map (·.name)).take k=os:=⟨_,rfl⟩;rw[hos]at g4 ne bad;have l0:0<os.length:=by
   cases os with
   |nil=>exact absurd rfl ne
   |cons _ _=>simp
  delta ET;simp!;rw[if_pos c1];delta NF
  simp![g4]
  rw[X5];have h0:=XR more (b:=(os.length:Int)) (by lia)
  have h1:=XT more (show(0:Int)<os.length by lia)
  obtain⟨d,hd,dl⟩:∃d:Nat,more%(os.length:Int)=(d:Int)/\d<os.length:=⟨(more%(os.length:Int)).toNat,by lia,by lia⟩
  rw[hd];refine⟨by lia,_,Xv (by rw[Xj,X6 dl];rfl),?_⟩
  delta NE;simp!;have i:=XG dl;have zg:XF os[d]:=by
   have i:os[d]∈R.fns++(R.isl.map (·.name)).take k:=by rw[hos];exact i
   rcases XZ.mp i with i|i
   .obtain⟨f,hf,e⟩:=Xt.mp i;rw[<-e];exact fg f hf
   .obtain⟨j,hj,e⟩:=Y3 i;rw[XQ,X5]at hj;rw[Ct,Up]at e;rw[<-e];exact(name_ok.mp (or_none.mp (okJ j _ (by lia) (X6 (by lia)))).1).1
  exact Z ⟨os[d],I.prs,I.stps⟩ _ a b _ _ (G.trans u) ⟨Yr zg,sh.nv,sh.ns,sh.vs,sh.st⟩ (bad _ _ (BX zg i)) (u _ _ U) (u _ _ W)
 delta ET;simp!;rw[if_neg c1];delta NS;simp!;refine Xe (λc2=>?_) (λc2=>?_)
 .delta NH;simp!;refine FR (m:=7 - I.prs.length) (y:=.tup [.str "",.int (-1)]) (fun Q=>?_) (by lia) (fun σ B Q=>by simp!) A fun D4 hD4=>?_
  .simp![U,X5]
   rw[show(7:Int) - (I.prs.length:Int)=((7 - I.prs.length:Nat):Int) by lia]
  have u:=SameM.new hD4 (.lst (XH (7 - I.prs.length) (MV.tup [.str "",.int (-1)])));have g4:updM M3 D4 (.lst (XH (7 - I.prs.length) (MV.tup [.str "",.int (-1)]))) D4=some (.lst (XH (7 - I.prs.length) (MV.tup [.str "",.int (-1)]))):=Xb;generalize updM M3 D4 _=O at*;have Y:=u _ _ U
  simp![Y,g4]
  refine⟨by rw[X5,YM];lia,λp5 N=>?_⟩
  delta NG;simp!;have S:I.prs.map prV++XH (7 - I.prs.length) (MV.tup [.str "",.int (-1)])=(I.prs++XH (7 - I.prs.length) (("",-1):Str×Int)).map prV:=by rw[Yd,Cs];rfl
  rw[S];refine Z ⟨I.name,I.prs++XH (7 - I.prs.length) (("",-1):Str×Int),I.stps⟩ _ p5 b _ _ ((G.trans u).trans (SameM.new N _)) ⟨sh.nm,?_,sh.ns,fun x g=>?_,sh.st⟩ (L _ _ _ (Q0 (.inl ?_))) Xb (SameM.new N _ _ _ (u _ _ W))
  .show(I.prs++XH (7 - I.prs.length) (("",-1):Str×Int)).length<=100;rw[XO,YM];lia
  .rcases XZ.mp g with g|g
   .exact sh.vs x g
   .rw[Vg g];exact UF
  .show 6<(I.prs++XH (7 - I.prs.length) (("",-1):Str×Int)).length;rw[XO,YM];lia
 delta NR;simp!;refine Xe (λc3=>?_) (λc3=>?_)
 .delta NJ;simp!;refine FR (m:=13 - I.stps.length) (y:=(Stp.take "" "").mv) (fun Q=>?_) (by lia) (fun σ B Q=>by simp!;rfl) A fun D4 hD4=>?_
  .simp![W,X5]
   rw[show(13:Int) - (I.stps.length:Int)=((13 - I.stps.length:Nat):Int) by lia]
  have u:=SameM.new hD4 (.lst (XH (13 - I.stps.length) (Stp.take "" "").mv));have g4:updM M3 D4 (.lst (XH (13 - I.stps.length) (Stp.take "" "").mv)) D4=some (.lst (XH (13 - I.stps.length) (Stp.take "" "").mv)):=Xb;generalize updM M3 D4 _=O at*;have hb4:=u _ _ W
  simp![hb4,g4]
  refine⟨by rw[X5,YM];lia,λp5 N=>?_⟩
  delta NI;simp!;have S:I.stps.map Stp.mv++XH (13 - I.stps.length) (Stp.take "" "").mv=(I.stps++XH (13 - I.stps.length) (Stp.take "" "")).map Stp.mv:=by rw[Yd,Cs]
  rw[S];refine Z ⟨I.name,I.prs,I.stps++XH (13 - I.stps.length) (Stp.take "" "")⟩ _ a p5 _ _ ((G.trans u).trans (SameM.new N _)) ⟨sh.nm,sh.nv,?_,sh.vs,fun x g=>?_⟩ (L _ _ _ (Q0 (.inr ?_))) (SameM.new N _ _ _ (u _ _ U)) Xb
  .show(I.stps++XH (13 - I.stps.length) (Stp.take "" "")).length<=100;rw[XO,YM];lia
  .rcases XZ.mp g with g|g
   .exact sh.st x g
   .rw[Vg g];exact⟨UF,UF⟩
  .show 12<(I.stps++XH (13 - I.stps.length) (Stp.take "" "")).length;rw[XO,YM];lia
 have ev:=(or_none.mp ((if_neg (by lia)).symm.trans ((if_neg (by lia)).symm.trans e2):(varF R.w.toNat I.prs).or (I.stps.findSome? (Y2 R.fns I.vars I.stps.length))=none)).1
 have b22:∀O,SameM M3 O->wSs ([("_law_bad_name",YD),("_law_exchanged",XV),("_law_fresh",Yy),("_law_mix",Xg),("_law_wrong_step",ZU)]:List (Str×SpM)) ES {nx:=fun σ M=>wSs ([("_law_bad_name",YD),("_law_exchanged",XV),("_law_fresh",Yy),("_law_mix",Xg),("_law_wrong_step",ZU)]:List (Str×SpM)) Aq {nx:=fun x B=>Q MV.non B,rt:=Q} σ M,rt:=Q} [some (.int n),some (.tup [.int R.w,.ref H,.ref o]),some (.int k),some (.int R.w),some (.ref H),some (.ref o),some (.str I.name),some (.ref a),some (.ref b),some (.int (n%7)),some (.int more),some (.str "NoName"),some (.ref po),none] O:=by
  intro O u;have Y:=u _ _ U;have hb4:=u _ _ W;delta ES;simp!;refine Xe (λc5=>?_) (λc5=>?_)
  .delta NO;simp!;refine _b I.prs prV (λp=>.str p.1) ?_ ?_ A λD5 hD5=>?_
   .simp![Y]
    exact⟨rfl,by lia,Y⟩
   .intro p hp B s;simp only[sCm,Xp,Y6,Yi,Yj,Yc,Ye]
    simp![prV]
    try exact⟨rfl,rfl⟩
   have eV:(I.prs.map λp=>MV.str p.1)=I.vars.map MV.str:=by unfold Isl.vars;rw[Ym];rfl
   rw[eV];have s5:=u.trans (SameM.new hD5 (.lst (I.vars.map MV.str)));have d5:updM O D5 (.lst (I.vars.map MV.str)) D5=some (.lst (I.vars.map MV.str)):=Xb;generalize updM O D5 _=M5 at*;refine⟨I.name,D5,I.vars,rfl,d5,gI,by unfold Isl.vars;rw[X5];lia,λr hr gr=>?_⟩
   try walk_at "s"
   delta NN;show wE _ _ _ _ _;obtain⟨X,hbv,nb⟩:∃X:Int,atI [MV.int (-1 - more),.int (1*2^R.w.toNat+more)] (more/8%2)=some (.int X)/\¬(0<=X/\X<2^R.w.toNat):=by
    rcases(show more/8%2=0\/more/8%2=1 by lia)with e|e<;>rw[e]
    .exact⟨_,at0,by lia⟩
    .exact⟨_,at1,by rw[Int.one_mul];lia⟩
   refine Cd (k:=1) (l:=1) (y:=.tup [.str r,.int X]) (λ_ _=>rfl) (λ_ _=>rfl) (λ_ _=>rfl) (λB Q s q=>?_) (s5 _ _ U) (by rw[X5];lia) λp6 M6 E F g6=>?_
   .simp!;refine⟨⟨by lia,by lia⟩,λp7 hp7=>?_⟩
    exact⟨_,hbv,q _ (SameM.new hp7 _)⟩
   show wSs _ _ _ _ M6;have S:(I.prs.map prV).take 1++MV.tup [.str r,.int X]::(I.prs.map prV).drop 1=(I.prs.take 1++(r,X)::I.prs.drop 1).map prV:=by rw[Yd,Xp,ZI,AS];rfl
   rw[S]at g6;delta NM;simp!;have s36:=s5.trans E;have nr:Yk ((I.prs.take 1).map (·.1)) r=none:=name_ok.mpr ⟨gr,λz=>hr (by rw[ZI]at z;exact Z8 z)⟩
   have ln:(I.prs.take 1++(r,X)::I.prs.drop 1).length<=6:=by rw[XO,Y0,XQ,YN];lia
   refine Z ⟨I.name,I.prs.take 1++(r,X)::I.prs.drop 1,I.stps⟩ _ p6 b _ _ (G.trans s36) ⟨sh.nm,Y7 ln (by decide),sh.ns,λx g=>?_,sh.st⟩ (L _ _ _ (FP ln l2 (FQ (_h2 ev 1) (by rw[nr,if_neg nb];rfl)))) g6 (s36 _ _ W)
   rcases XZ.mp g with g|g
   .exact sh.vs x (Z8 g)
   .rcases Xm.mp g with rfl|g
    .exact Yr gr
    .exact sh.vs x (UM g)
  .delta NP;simp!;refine⟨more,"ab",rfl,_kL,fun r hr shr p5 N=>?_⟩;refine⟨_,SameM.new N _ _ _ Y,by rw[X5];lia,λp6 F=>?_⟩
   have E:=(u.trans (SameM.new N (.lst [MV.tup [.str r,.int 0]]))).trans (SameM.new F (.lst (((r,0)::I.prs).map prV)));exact Z ⟨I.name,(r,0)::I.prs,I.stps⟩ _ p6 b _ _ (G.trans E) ⟨sh.nm,by show I.prs.length+1<=100;lia,sh.ns,λx g=>by
    rcases Xm.mp g with rfl|g
    .exact shr
    .exact sh.vs x g,sh.st⟩ (L _ _ _ (FP (by show I.prs.length+1<=6;lia) l2 (FQ (l:=[]) rfl (by rw[At hr];rfl)))) Xb (E _ _ W)
 delta NQ;simp!;refine Xe (λc4=>?_) (λ_=>b22 _ (SameM.refl _));intro p4 hp4;have u:=SameM.new hp4 (.lst []);refine _p (u _ _ U) Xb ?_;generalize updM M3 p4 _=O at*;refine Xe (λne=>?_) (λ_=>b22 _ u);have Y:=u _ _ U;have l0:0<I.prs.length:=by
  cases S:I.prs with
  |nil=>rw[S]at ne;exact absurd ne (by simp)
  |cons _ _=>simp
 delta NL
 simp![Y]
 rw[X5];have h0:=XR more (b:=(I.prs.length:Int)) (by lia)
 have h1:=XT more (show(0:Int)<I.prs.length by lia)
 obtain⟨d,hd,dl⟩:∃d:Nat,more%(I.prs.length:Int)=(d:Int)/\d<I.prs.length:=⟨(more%(I.prs.length:Int)).toNat,by lia,by lia⟩
 rw[hd];refine⟨by lia,_,Xv (by rw[Xj,X6 dl];rfl),?_⟩
 simp![prV]
 intro p5 N;refine⟨_,SameM.new N _ _ _ Y,by rw[X5];lia,λp6 F=>?_⟩
 delta NK;simp!;have dm:=XG dl;have dg:=io.gd _ (Xt.mpr ⟨_,dm,rfl⟩);have S:I.prs.map prV++[MV.tup [.str I.prs[d].1,.int 0]]=(I.prs++[(I.prs[d].1,0)]).map prV:=by rw[Yd];rfl
 have ep':I.prs.map (λp=>MV.tup [.str p.1,.int p.2])=I.prs.map prV:=rfl;have E:=(u.trans (SameM.new N (.lst [MV.tup [.str I.prs[d].1,.int 0]]))).trans (SameM.new F (.lst ((I.prs++[(I.prs[d].1,0)]).map prV)));rw[S];refine Z ⟨I.name,I.prs++[(I.prs[d].1,0)],I.stps⟩ _ p6 b _ _ (G.trans E) ⟨sh.nm,by show(I.prs++[(I.prs[d].1,0)]).length<=100;rw[XO,Ul];lia,sh.ns,λx g=>?_,sh.st⟩ (L _ _ _ (FP (by show(I.prs++[(I.prs[d].1,0)]).length<=6;rw[XO,Ul];lia) l2 (FQ ev (by rw[BX dg (Xt.mpr ⟨_,dm,rfl⟩)];rfl)))) Xb (E _ _ W)
 rcases XZ.mp g with g|g
 .exact sh.vs x g
 .rw[U0.mp g];exact Yr dg
noncomputable def RW.putF(R:RW)(k:Nat)(f:RFer):RW:=⟨R.w,R.isl,R.fer.set k f⟩
theorem _kp{l:List Str}{f:RFer}(ok:ferF l f=none){r:Str}(L:r∉l){x y:Int}(O:¬(0<=x/\x<=3))(R:¬(1<=y/\y<=3))(d:ShortT f.giver)(st:ShortT f.taker)(N:ShortT r){m:Int}:∃(q:RFer) (c:Str),atI (([⟨f.name,r,f.taker,f.k,f.st⟩,⟨f.name,f.giver,r,f.k,f.st⟩,⟨f.name,f.giver,f.giver,f.k,f.st⟩,⟨f.name,f.giver,f.taker,x,f.st⟩,⟨f.name,f.giver,f.taker,f.k,y⟩]:List RFer).map RFer.mv) (m%5)=some q.mv/\atI [MV.str "Unknown",.str "Unknown",.str "NoFerry",.str "NoFerry",.str "NoFerry"] (m%5)=some (.str c)/\ferF l q=some c/\q.name=f.name/\ShortT q.giver/\ShortT q.taker:=by
 have u:f.giver∈l/\f.taker∈l:=by
  unfold ferF at ok;by_cases c:f.giver∉l\/f.taker∉l
  .rw[if_pos c]at ok;cases ok
  .exact⟨YX.mp λz=>c (.inl z),YX.mp λz=>c (.inr z)⟩
 have p:∀g:RFer,g.giver∈l->g.taker∈l->(g.giver=g.taker\/¬(0<=g.k/\g.k<=3)\/¬(1<=g.st/\g.st<=3))->ferF l g=some ("NoFerry":Str):=fun g a b c=>(if_neg fun z=>z.elim (fun n=>n a) fun n=>n b).trans (if_pos c);rcases(show m%5=0\/m%5=1\/m%5=2\/m%5=3\/m%5=4 by lia)with e|e|e|e|e<;>rw[e]
 .exact⟨⟨f.name,r,f.taker,f.k,f.st⟩,"Unknown",at0,at0,if_pos (.inl L),rfl,N,st⟩
 .exact⟨⟨f.name,f.giver,r,f.k,f.st⟩,"Unknown",at1,at1,if_pos (.inr L),rfl,d,N⟩
 .exact⟨⟨f.name,f.giver,f.giver,f.k,f.st⟩,"NoFerry",at2,at2,p _ u.1 u.1 (.inl rfl),rfl,d,d⟩
 .exact⟨⟨f.name,f.giver,f.taker,x,f.st⟩,"NoFerry",at3,at3,p _ u.1 u.2 (.inr (.inl O)),rfl,d,st⟩
 .exact⟨⟨f.name,f.giver,f.taker,f.k,y⟩,"NoFerry",Xv (j:=4) rfl,Xv (j:=4) rfl,p _ u.1 u.2 (.inr (.inr R)),rfl,d,st⟩
abbrev YL:SpM:=λy M Q=>∃(n:Int) (R:RW) (v:MV) (k:Nat) (f:RFer),y=[.int n,v,.int k]/\Par M R v/\R.isl.length<=5/\R.fer.length<=6/\R.fer[k]?=some f/\XF f.giver/\ShortT f.taker/\ferF R.ins f=none/\
 ∀(j:RFer)(C:Str)(u:MV)l,SameM M l->j.name=f.name->ShortT j.giver->ShortT j.taker->ferF R.ins j=some C->Par l (R.putF k j) u->Q (.tup [u,.str C]) l
theorem Cf:MonW YL:=by walk_at "m"
theorem two_at{x y m:Int}:∃z,atI [MV.int x,.int y] (m%2)=some (.int z)/\(z=x\/z=y):=by
 rcases(show m%2=0\/m%2=1 by lia)with e|e<;>rw[e]
 .exact⟨x,at0,.inl rfl⟩
 .exact⟨y,at1,.inr rfl⟩
theorem Q5(T:Txt K mg t):FnOk P w K mg base CX0 2 t.cy t.bp ["number","parts","at"] (liSp K YL):=by
 refine T.ak.F.okM _8E (Xw (u:=[("_law_exchanged",XV),("_law_fresh",Yy),("_law_mix",Xg)]) (Xx T) (Xy T) rfl (fMc ⟨_T,(fMc ⟨VW,(fMc ⟨Yb,nl0⟩)⟩)⟩) (fMc ⟨⟨_,_,_,(FnOk.mono (Az T) (by decide)),T.ac.m,T.ac.F.kp,T.ac.b⟩,(fMc ⟨⟨_,_,_,(FnOk.mono (FM T) (by decide)),T.aj.m,T.aj.F.kp,T.aj.b⟩,(fMc ⟨⟨_,_,_,(FnOk.mono (_d T) (by decide)),T.aa.m,T.aa.F.kp,T.aa.b⟩,nl0⟩)⟩)⟩):Fts P w K mg base 1 Oc [("_law_exchanged",XV),("_law_fresh",Yy),("_law_mix",Xg)]) EW _8S (fun vs M Q h=>?_) (fun vs M Q h=>?_)
 .obtain⟨_,_,_,_,_,rfl,_⟩:=h;rfl
 obtain⟨n,R,v,k,f,rfl,⟨U,W,B,rfl,l,Y,d⟩,i5,f6,hk,gg,E,ok,q⟩:=h;have F:=(YJ (u:=[("_law_exchanged",XV),("_law_fresh",Yy),("_law_mix",Xg)]) (fMc ⟨_T,(fMc ⟨VW,(fMc ⟨Yb,nl0⟩)⟩)⟩));have G:=(Xz.mp hk).1;have J:atI (R.fer.map RFer.mv) (k:Int)=some (.tup [.str f.name,.str f.giver,.str f.taker,.int f.k,.int f.st]):=Xv (by rw[Xj,hk];rfl)
 show wSs _ _ _ [some (.int n),some (.tup [.int R.w,.ref U,.ref W]),some (.int k),none,none,none,none,none,none,none,none,none,none,none,none,none] M;delta EW Ob;simp!;delta Oa
 simp![d,J]
 delta O9;simp!;refine⟨n,2,rfl,?_⟩;obtain⟨m0,m1⟩:=Va n 2;generalize Xk n 2=more at*
 try walk_at "s"
 delta O8;simp!;obtain⟨j,c,far0⟩:∃j:Int,more%1000000=j/\0<=j:=⟨_,rfl,by lia⟩
 rw[c];delta O7;simp!;have hl:=Y.1;refine _b B (λy=>y) fstM ?_ ?_ F λD S=>?_
 .simp![l]
  exact⟨by simp[Src.items],by lia,l⟩
 .intro y X M' s;obtain⟨I,_,a,b,rfl,_⟩:=Y.mem X;simp only[sCm,Xp,Y6,Yi,Yj,Yc,Ye];simp!
  rfl
 have eI:B.map fstM=R.ins.map MV.str:=Y.fst λz r=>rfl;rw[eI];have s1:=SameM.new S (.lst (R.ins.map MV.str));have d1:updM M D (.lst (R.ins.map MV.str)) D=some (.lst (R.ins.map MV.str)):=Xb;generalize updM M D _=M1 at*;refine⟨f.giver,D,R.ins,rfl,d1,gg,by unfold RW.ins;rw[X5];lia,λr hr gr=>?_⟩
 try walk_at "s"
 delta O6;simp!;intro p2 H;have s2:=s1.trans (SameM.new H (.lst (([⟨f.name,r,f.taker,f.k,f.st⟩,⟨f.name,f.giver,r,f.k,f.st⟩,⟨f.name,f.giver,f.giver,f.k,f.st⟩]:List RFer).map RFer.mv)));have g2:updM M1 p2 (.lst (([⟨f.name,r,f.taker,f.k,f.st⟩,⟨f.name,f.giver,r,f.k,f.st⟩,⟨f.name,f.giver,f.giver,f.k,f.st⟩]:List RFer).map RFer.mv)) p2=some (.lst (([⟨f.name,r,f.taker,f.k,f.st⟩,⟨f.name,f.giver,r,f.k,f.st⟩,⟨f.name,f.giver,f.giver,f.k,f.st⟩]:List RFer).map RFer.mv)):=Xb;obtain⟨x,hx,ex⟩:=two_at (x:=4+j) (y:=-1 - j) (m:=more);obtain⟨y,X,ey⟩:=two_at (x:=4+j) (y:=0 - j) (m:=more);obtain⟨f',C,aF,aC,eF,en,sg,st⟩:=_kp (m:=n) ok hr (x:=x) (y:=y) (by lia) (by lia) (Yr gg) E (Yr gr)
 suffices key:∀(D:EndM)(Z:Addr)p,D.rt=Q->SameM M p->p Z=some (.lst (([⟨f.name,r,f.taker,f.k,f.st⟩,⟨f.name,f.giver,r,f.k,f.st⟩,⟨f.name,f.giver,f.giver,f.k,f.st⟩,⟨f.name,f.giver,f.taker,x,f.st⟩,⟨f.name,f.giver,f.taker,f.k,y⟩]:List RFer).map RFer.mv))->wSs ([("_law_exchanged",XV),("_law_fresh",Yy),("_law_mix",Xg)]:List (Str×SpM)) EV D [some (.int n),some (.tup [.int R.w,.ref U,.ref W]),some (.int k),some (.int R.w),some (.ref U),some (.ref W),some (.str f.name),some (.str f.giver),some (.str f.taker),some (.int f.k),some (.int f.st),some (.int more),some (.int j),some (.str r),some (.ref Z),none] p by
  delta O5;simp!;intro p3 e;refine⟨_,hx,λZ L=>?_⟩;have o:=(s2.trans (SameM.new e _)).trans (SameM.new L (.lst [RFer.mv ⟨f.name,f.giver,f.taker,x,f.st⟩]));have i:=SameM.new L (.lst [RFer.mv ⟨f.name,f.giver,f.taker,x,f.st⟩]) _ _ (SameM.new e (.lst [MV.int (4+j),.int (-1 - j)]) _ _ g2);refine⟨_,i,by show 3<=16777215;decide,λp5 u=>?_⟩
  have A:=o.trans (SameM.new u (.lst (([⟨f.name,r,f.taker,f.k,f.st⟩,⟨f.name,f.giver,r,f.k,f.st⟩,⟨f.name,f.giver,f.giver,f.k,f.st⟩,⟨f.name,f.giver,f.taker,x,f.st⟩]:List RFer).map RFer.mv)));delta O4;simp!;intro p6 g;refine⟨_,X,λp7 N=>?_⟩;refine⟨_,SameM.new N _ _ _ (SameM.new g _ _ _ Xb),by show 4<=16777215;decide,λp8 hp8=>?_⟩
  exact key _ p8 _ rfl (((A.trans (SameM.new g _)).trans (SameM.new N _)).trans (SameM.new hp8 _)) Xb
 intro D Z p S o i;delta EV;simp!;intro p5 u;refine⟨_,aC,?_⟩;have A:=SameM.new u (.lst [MV.str "Unknown",.str "Unknown",.str "NoFerry",.str "NoFerry",.str "NoFerry"]);generalize updM p p5 _=M5 at*;have g5:=A _ _ i;have O:=o.trans A;delta O3
 simp![g5]
 refine⟨_,aF,?_⟩;refine⟨W,_,k,_,rfl,O _ _ d,by rw[X5];exact G,by rw[X5];lia,λp6 M6 s6 g g6=>?_⟩
 try walk_at "s"
 have s7:=O.trans s6;rw[S];refine q f' C _ _ s7 en sg st eF ⟨U,p6,B,rfl,s7 _ _ l,Y.keep s7,?_⟩;rw[g6];show _=some (MO.lst ((R.fer.set k f').map RFer.mv));rw[List.map_set]
theorem Q6{N:List (Str×SpM)}{own:List Str}{C:List Nat}{z:ISr}{U:ITg}{u m:IE}{W:Sm}{M:MH}{Q:QM}{Y:Type}(l:List Y)(f g:Y->MV)(b:Y->Bool)
  (s:wSr N z W M λS M1=>S.items=l.map f/\l.length<sizeLine/\S.okF M1/\SameM M M1)
  (n:∀x∈l,∀d,SameM M d->wTg U (f x) (sCm own C W) λc=>wE N u c d λv M2=>v=.bl (b x)/\SameM d M2/\(b x=true->wE N m c M2 λy E=>y=g x/\SameM M2 E))
  (p:∀(j:Nat)f F,N[j]?=some (f,F)->MonW F)(q:∀D d,M D=none->SameM M d->d D=some (.lst ((l.filter b).map g))->Q (.ref D) d):wE N (.comp own C z U (.some u) m) W M Q:=by
 rw[VN];refine mon_sr p z (λS M1 ⟨R,h2,G,Z⟩=>?_) s;have I:S.len=l.length:=by rw[<-S.items_len,R,X5]
 refine⟨by rw[I];exact h2,λD A=>⟨λi O M2=>SameM M1 M2/\M2 D=some (.lst O)/\O=((l.take i).filter b).map g,⟨SameM.new A _,Xb,by simp⟩,?_,?_,?_⟩⟩
 .rintro i O M2 ⟨e,L,rfl⟩;refine⟨L,?_,?_⟩
  .rw[X5];have R:=Cp b (l.take i);rw[XQ]at R;lia
  cases S with
  |tup _=>trivial
  |rng _ _=>trivial
  |str _=>trivial
  |lst a zs=>exact e _ _ G
 .rintro i x O M2 J ⟨e,L,rfl⟩;rw[R]at J;obtain⟨X,rfl⟩:=_c J;refine Uc U (λc h=>?_) (n l[i] (XG X) M2 (Z.trans e));rw[wI];refine X7 p u (λv E ⟨B,T,e3⟩=>?_) h;subst B;have H:l.take (i+1)=l.take i++[l[i]]:=by rw[Um,X6 X];rfl
  refine⟨b l[i],rfl,?_⟩;by_cases hb:b l[i]=true
  .rw[if_pos hb];refine X7 p m (λy M4 ⟨B,o⟩=>?_) (e3 hb);subst B;refine⟨o _ _ (T _ _ L),((e.trans T).trans o).upd A _,Xb,?_⟩;rw[H,AM,Yd,G5 hb]
   rfl
  .rw[if_neg hb];refine⟨e.trans T,T _ _ L,?_⟩;rw[H,AM,Yd,G6 hb];simp
 .rintro O M2 ⟨e,L,rfl⟩;rw[I,ZE (Xf _)]at L;rw[VO G];exact q D M2 (Z.free A) (Z.trans e) L
theorem Cg{l:Type}{j:List l}{f:l->MV}{m:Int}(h:j≠ []):(0:Int)<((j.map f).length:Int)/\∃x∈j,atI (j.map f) (m%((j.map f).length:Int))=some (f x):=by
 have y:0<j.length:=List.length_pos_iff.mpr h;rw[X5];have z:=XR m (b:=(j.length:Int)) (by lia)
 have g:=XT m (show(0:Int)<j.length by lia)
 obtain⟨d,u,dl⟩:∃d:Nat,m%(j.length:Int)=(d:Int)/\d<j.length:=⟨(m%(j.length:Int)).toNat,by lia,by lia⟩
 rw[u];exact⟨by lia,j[d],XG dl,Xv (by rw[Xj,X6 dl];rfl)⟩
abbrev Uh:SpM:=λy M Q=>∃(n:Int) (R:RW) (v:MV),y=[.int n,v]/\Par M R v/\R.isl.length<=5/\R.fer≠ []/\R.fer.length<=6/\R.ins.Nodup/\(∀I∈R.isl,I.stps.length<=12/\I.prs.length<=6)/\(∀f∈R.fer,ferF R.ins f=none)/\
 ∀(j:Nat)(I:Isl)(S:Stp)(k:Nat)(u:MV)l,SameM M l->R.isl[j]?=some I->k<=11->(∀n,Z0 R.fns I.vars n S)->¬REnd R.fer I.name S->(∃f∈R.fer,(∃i,S=.give f.name (.num i))\/∃p∈I.prs,S=.take f.name p.1)->Par l (R.put j ⟨I.name,I.prs,I.stps.take k++S::I.stps.drop (k+1)⟩) u->Q (.tup [u,.str "NoFerry"]) l
theorem Q7:MonW Uh:=by walk_at "m"
theorem _7C(T:Txt K mg t):FnOk P w K mg base CX0 2 t.cJ t.dk ["number","parts"] (liSp K Uh):=by
 refine T.aW.F.okM _7x (Xw (u:=[("_law_exchanged",XV),("_law_mix",Xg)]) (Xx T) (Xy T) rfl (fMc ⟨_T,(fMc ⟨Yb,nl0⟩)⟩) (fMc ⟨⟨_,_,_,(FnOk.mono (Az T) (by decide)),T.ac.m,T.ac.F.kp,T.ac.b⟩,(fMc ⟨⟨_,_,_,(FnOk.mono (_d T) (by decide)),T.aa.m,T.aa.F.kp,T.aa.b⟩,nl0⟩)⟩):Fts P w K mg base 1 Oq [("_law_exchanged",XV),("_law_mix",Xg)]) EX _8q (fun vs M Q h=>?_) (fun vs M Q h=>?_)
 .obtain⟨_,_,_,rfl,_⟩:=h;rfl
 obtain⟨n,R,v,rfl,⟨J,X,L,rfl,U,hI,o⟩,i5,f0,f6,nd,il,fo,q⟩:=h;have hΦ:=(YJ (u:=[("_law_exchanged",XV),("_law_mix",Xg)]) (fMc ⟨_T,(fMc ⟨Yb,nl0⟩)⟩));have hl:=hI.1;have z1:(L.zip R.isl).map UW=L:=List.map_fst_zip (Vq hl);have zl:(L.zip R.isl).length=R.isl.length:=by rw[UN,hl,Nat.min_self]
 have zi:∀x∈L.zip R.isl,∃(j:Nat) (a b:Addr),R.isl[j]?=some x.2/\L[j]?=some x.1/\x.1=.tup [.str x.2.name,.ref a,.ref b]/\M a=some (.lst (x.2.prs.map prV))/\M b=some (.lst (x.2.stps.map Stp.mv)):=by
  intro x g;obtain⟨i,h1,h2⟩:=PB g;obtain⟨a,b,e,A,hb⟩:=hI.2 i _ _ h2 h1;exact⟨i,a,b,h2,h1,e,A,hb⟩
 show wSs _ _ _ [some (.int n),some (.tup [.int R.w,.ref J,.ref X]),none,none,none,none,none,none,none,none,none,none] M;delta EX Op;simp!;delta Oo;simp!;refine⟨n,1,rfl,?_⟩
 simp![o]
 obtain⟨p0,f,B,af⟩:=Cg (m:=Xk n 1) (f:=RFer.mv) f0;refine⟨p0,_,af,?_⟩;have of:=fo f B;have hin:f.giver∈R.ins/\f.taker∈R.ins/\f.giver≠f.taker:=by
  unfold ferF at of;by_cases c:f.giver∉R.ins\/f.taker∉R.ins
  .rw[if_pos c]at of;cases of
  rw[if_neg c]at of;refine⟨YX.mp λz=>c (.inl z),YX.mp λz=>c (.inr z),λe=>?_⟩;rw[if_pos (.inl e)]at of;cases of
 delta On;simp!;refine Q6 (L.zip R.isl) UW UW (λx=>!decide (x.2.name=f.giver)) ?_ ?_ hΦ λD1 M1 hD1 s1 d1=>?_
 .simp![U]
  exact⟨z1.symm,by rw[zl];lia,U,SameM.refl _⟩
 .intro x g C s;obtain⟨j,a,b,_,_,e,_⟩:=zi x g;rw[e];simp only[sCm,Xp,Y6,Yi,Yj,Yc,Ye]
  simp![RFer.mv]
  exact⟨SameM.refl _,λ_=>SameM.refl _⟩
 obtain⟨ws,E⟩:∃ws,(L.zip R.isl).filter (λx=>!decide (x.2.name=f.giver))=ws:=⟨_,rfl⟩;have wm:∀x∈ws,x∈L.zip R.isl/\x.2.name≠f.giver:=λx g=>by
  rw[<-E,Vl]at g;exact⟨g.1,by simpa using g.2⟩
 have w0:ws≠ []:=λz=>by
  obtain⟨I,hI',e⟩:=Xt.mp hin.2.1;obtain⟨j,F,rfl⟩:=Y3 hI';have g:(L[j]'(by lia),R.isl[j])∈L.zip R.isl:=Y5 (PC (X6 (by lia)) (X6 F))
  have:(L[j]'(by lia),R.isl[j])∈ws:=by
   rw[<-E,Vl];exact⟨g,by simpa [e]using hin.2.2.symm⟩
  rw[z]at this;cases this
 rw[E]at d1;have W:=s1 _ _ U;delta Om;simp!;refine Q6 (L.zip R.isl) UW UW (λx=>!decide (x.2.name=f.taker)&& !x.2.prs.isEmpty) ?_ ?_ hΦ λD2 M2 hD2 s2 d2=>?_
 .simp![W]
  exact⟨z1.symm,by rw[zl];lia,W,SameM.refl _⟩
 .intro x g C s;obtain⟨j,a,b,_,_,e,A,_⟩:=zi x g;have ha':=s _ _ (s1 _ _ A);rw[e];simp only[sCm,Xp,Y6,Yi,Yj,Yc,Ye]
  simp![RFer.mv]
  refine Xe (λc=>?_) (λc=>?_)
  .intro p hp;have H:=SameM.new hp (.lst []);refine _p (H _ _ ha') Xb ?_;generalize updM C p _=M3 at*;exact⟨by rw[decide_eq_false c];simp,H,λ_=>SameM.refl _⟩
  .exact⟨by rw[decide_eq_true (YX.mp c)];rfl,SameM.refl _,λ_=>SameM.refl _⟩
 obtain⟨os,hos⟩:∃os,(L.zip R.isl).filter (λx=>!decide (x.2.name=f.taker)&& !x.2.prs.isEmpty)=os:=⟨_,rfl⟩;have om:∀x∈os,x∈L.zip R.isl/\x.2.name≠f.taker/\x.2.prs≠ []:=λx g=>by
  rw[<-hos,Vl]at g;exact⟨g.1,by simpa using g.2⟩
 rw[hos]at d2;have s02:=s1.trans s2;have Y:∀(x:MV×Isl)(S:Stp)(D:EndM)Z,D.rt=Q->SameM M Z->x∈L.zip R.isl->(∀n,Z0 R.fns x.2.vars n S)->¬REnd R.fer x.2.name S->(∃f∈R.fer,(∃i,S=.give f.name (.num i))\/∃p∈x.2.prs,S=.take f.name p.1)->wSs ([("_law_exchanged",XV),("_law_mix",Xg)]:List (Str×SpM)) BK D [some (.int n),some (.tup [.int R.w,.ref J,.ref X]),some (.int R.w),some (.ref J),some (.ref X),some f.mv,some (.ref D1),some (.ref D2),some x.1,some S.mv,none,none] Z:=by
  intro x S D Z hD s4 g hS hE hS2;obtain⟨j,a,b,F,hyj,e,A,hb⟩:=zi x g;have hjl:=(Xz.mp F).1;rw[e];delta BK;simp!;refine⟨n,3,rfl,?_⟩;obtain⟨k,hk,k11⟩:∃k:Nat,Xk n 3%12=(k:Int)/\k<=11:=⟨(Xk n 3%12).toNat,by lia,by lia⟩
  simp!;rw[hk];delta Of;show wE _ _ _ _ _;refine Cd (a:=b) (k:=k) (l:=k+1) (y:=S.mv) (fun C Q=>by simp!) (fun _ _=>rfl) (fun C Q=>by simp!;rfl) (fun C Q s q=>q _ (SameM.refl _)) (s4 _ _ hb) (by rw[X5];have:=(il _ (Y5 F)).1;lia) fun p5 M5 s5 hp5 g5=>?_
  have es:(x.2.stps.map Stp.mv).take k++S.mv::(x.2.stps.map Stp.mv).drop (k+1)=(x.2.stps.take k++S::x.2.stps.drop (k+1)).map Stp.mv:=by rw[Yd,Xp,ZI,AS]
  rw[es]at g5;have s45:=s4.trans s5;show wSs _ _ _ _ M5;delta Oe;simp!;have N:=s45 _ _ U;refine⟨⟨L,N⟩,L,N,j,by rw[hyj,e],λy hy=>?_,λi y hi ne=>?_,?_⟩
  .simp only[Xm,Ya,or_false]at hy;rcases hy with rfl|rfl
   .exact⟨_,rfl⟩
   .exact⟨_,rfl⟩
  .have hil:i<R.isl.length:=by rw[<-hl];exact(Xz.mp hi).1
   obtain⟨c,d,e',_⟩:=hI.2 i _ _ (X6 hil) hi;refine⟨_,_,e',λz=>ne ?_⟩;have hj2:=(Xz.mp F).2;exact(AR (xs:=R.ins) (h₀:=by unfold RW.ins;simpa using hil) (h₁:=by unfold RW.ins;simpa using hjl) nd).mp (by unfold RW.ins;rw[Up,Up,hj2];exact z)
  try walk_at "s"
  refine⟨J,L,j,_,rfl,N,by rw[hl];exact hjl,by lia,λp6 M6 s6 hp6 g6=>?_⟩
  try walk_at "s"
  delta Od;simp!;have s7:=s45.trans s6;rw[hD];exact q j x.2 S k _ _ s7 F k11 hS hE hS2 ⟨p6,X,_,rfl,g6,FN (hI.keep s7) ⟨a,p5,rfl,s7 _ _ A,s6 _ _ g5⟩,s7 _ _ o⟩
 have d12:=s2 _ _ d1;delta Ol;simp!;refine⟨n,2,rfl,?_⟩
 simp![d12]
 obtain⟨p1,x,g,ax⟩:=Cg (m:=Xk n 2) (f:=UW) w0;refine⟨p1,_,ax,?_⟩;delta Oj
 simp![RFer.mv]
 have giv:∀(D:EndM)Z,D.rt=Q->SameM M Z->wSs ([("_law_exchanged",XV),("_law_mix",Xg)]:List (Str×SpM)) BK D [some (.int n),some (.tup [.int R.w,.ref J,.ref X]),some (.int R.w),some (.ref J),some (.ref X),some f.mv,some (.ref D1),some (.ref D2),some x.1,some (Stp.give f.name (.num (n%5))).mv,none,none] Z:=fun D Z hD s4=>by
  obtain⟨xz,xn⟩:=wm x g;exact Y x (.give f.name (.num (n%5))) D Z hD s4 xz (λ_=>⟨Xt.mpr ⟨f,B,rfl⟩,by simp[Tm.depth],by simp[Tm.size],λy hy=>by simp[Tm.reads]at hy⟩) (λe=>xn (e f B rfl).symm) ⟨f,B,.inl ⟨_,rfl⟩⟩
 delta Oi;simp!;refine Xe (λc=>?_) (λ_=>giv _ _ rfl s02);intro p3 hp3;have H:=SameM.new hp3 (.lst []);refine _p (H _ _ d2) Xb ?_;have G:=s02.trans H;have d23:=H _ _ d2;generalize updM M2 p3 _=M3 at*;refine Xe (λne=>?_) (λ_=>giv _ _ rfl G);have o0:os≠ []:=λz=>by rw[z]at ne;exact absurd ne (by simp)
 delta Oh;simp!;refine⟨n,2,rfl,?_⟩
 simp![d23]
 obtain⟨p4,u,hu,au⟩:=Cg (m:=Xk n 2) (f:=UW) o0;refine⟨p4,_,au,?_⟩;obtain⟨uz,un,up⟩:=om u hu;obtain⟨j,a,b,F,hyj,e,A,hb⟩:=zi u uz;have ha3:=G _ _ A;obtain⟨O,rest,ep⟩:∃O rest,u.2.prs=O::rest:=by
  cases h:u.2.prs with
  |nil=>exact absurd h up
  |cons O rest=>exact⟨O,rest,rfl⟩
 rw[ep]at ha3;rw[e];delta Og;have a0:atI ((O::rest).map prV) 0=some (.tup [.str O.1,.int O.2]):=at0
 simp![ha3,a0,RFer.mv,prV]
 have pm:O∈u.2.prs:=by rw[ep];exact XY ..
 have:=Y u (.take f.name O.1) {nx:=λx C=>Q MV.non C,rt:=Q} M3 rfl G uz (λ_=>⟨Xt.mpr ⟨f,B,rfl⟩,Xt.mpr ⟨O,pm,rfl⟩⟩) (λe=>un (e f B rfl).symm) ⟨f,B,.inr ⟨O,pm,rfl⟩⟩;rw[e]at this;exact this
noncomputable def RW.fi(R:RW):Nat->Option Str
 |0=>R.f0|1=>R.f1|2=>R.f2|3=>R.f3|4=>R.f4|5=>R.f5|_=>none
noncomputable def RW.Upto(R:RW)(r:Nat):Prop:=∀i,i<=r->R.fi i=none
noncomputable def RW.Bad(R:RW)(r:Nat)(C:Str):Prop:=r<=5/\(∀i,i<r->R.fi i=none)/\R.fi r=some C
theorem RW.fault_none{R:RW}(h:R.Upto 5):R.fault=none:=by
 have j:R.f0=none:=h 0 (by decide)
 have l:R.f1=none:=h 1 (by decide)
 have u:R.f2=none:=h 2 (by decide)
 have y:R.f3=none:=h 3 (by decide)
 have z:R.f4=none:=h 4 (by decide)
 have m:R.f5=none:=h 5 (by decide)
 rw[RW.fault,j,l,u,y,z,m];rfl
theorem RW.Bad.fault{R:RW}{r:Nat}{C:Str}(h:R.Bad r C):R.fault=some C:=by
 obtain⟨d,z,e⟩:=h;have g:∀i,i<r->R.fi i=none:=z;rcases(show r=0\/r=1\/r=2\/r=3\/r=4\/r=5 by lia)with rfl|rfl|rfl|rfl|rfl|rfl
 .have e:R.f0=some C:=e;rw[RW.fault,e];rfl
 .have j:R.f0=none:=g 0 (by decide)
  have e:R.f1=some C:=e;rw[RW.fault,j,e];rfl
 .have j:R.f0=none:=g 0 (by decide)
  have l:R.f1=none:=g 1 (by decide)
  have e:R.f2=some C:=e;rw[RW.fault,j,l,e];rfl
 .have j:R.f0=none:=g 0 (by decide)
  have l:R.f1=none:=g 1 (by decide)
  have u:R.f2=none:=g 2 (by decide)
  have e:R.f3=some C:=e;rw[RW.fault,j,l,u,e];rfl
 .have j:R.f0=none:=g 0 (by decide)
  have l:R.f1=none:=g 1 (by decide)
  have u:R.f2=none:=g 2 (by decide)
  have y:R.f3=none:=g 3 (by decide)
  have e:R.f4=some C:=e;rw[RW.fault,j,l,u,y,e];rfl
 .have j:R.f0=none:=g 0 (by decide)
  have l:R.f1=none:=g 1 (by decide)
  have u:R.f2=none:=g 2 (by decide)
  have y:R.f3=none:=g 3 (by decide)
  have m:R.f4=none:=g 4 (by decide)
  have e:R.f5=some C:=e;rw[RW.fault,j,l,u,y,m,e];rfl
theorem Q8{R:RW}(h:R.f0=none):1<=R.w/\R.w<=64:=YX.mp λn=>by
 unfold RW.f0 at h;rw[if_neg n]at h;cases h
theorem Q9{R:RW}(h:R.f1=none):R.isl.length<=5/\R.fer.length<=6:=by
 unfold RW.f1 at h;by_cases c:5<R.isl.length\/6<R.fer.length
 .rw[if_pos c]at h;cases h
 .lia
theorem Qa{F:List RFer}(l:(F.map (·.name)).Nodup)(h:∀f∈F,XF f.name):fnsF F=none:=Uf λj f e=>name_ok.mpr ⟨h f (Y5 e),Fu l (by rw[Xj,e];rfl)⟩
theorem FS{l z:Type}{u:List l}{k j:Nat}{y:l}{f:l->z}(h:j<=k):((u.set k y).map f).take j=(u.map f).take j:=by
 rw[<-ZI,<-ZI,List.take_set_of_le h]
theorem AA{l:Type}{u:List l}{k j:Nat}{y z:l}(h:j<k)(e:(u.set k y)[j]?=some z):u[j]?=some z:=by
 rwa [ZF (by lia)]at e
theorem AB{j:Type}{l:List j}{k:Nat}{y:j}(h:k<l.length):(l.set k y)[k]?=some y:=by rw[Cn h]
theorem FT{R:RW}{k j:Nat}{I:Isl}{J:Isl}(h:j<=k):(R.put k I).at j J=R.at j J:=by
 show(Yk (R.fns++((R.isl.set k I).map (·.name)).take j) J.name).or _=_;rw[FS h];rfl
theorem FU{R:RW}{k:Nat}{l:Isl}{C:Str}(h2:R.Upto 2)(y:k<R.isl.length)(z:∀(j:Nat)J,j<k->R.isl[j]?=some J->R.at j J=none)(e:R.at k l=some C):(R.put k l).Bad 3 C:=by
 refine⟨by decide,λi u=>?_,?_⟩
 .rcases(show i=0\/i=1\/i=2 by lia)with rfl|rfl|rfl
  .exact h2 0 (by decide)
  .have:=h2 1 (by decide)
   show(if 5<(R.isl.set k l).length\/6<R.fer.length then some ("TooMany":Str)else none)=none;rw[Zt];exact this
  .exact h2 2 (by decide)
 .refine _R (j:=k) (x:=l) (AB y) ((FT (Xf _)).trans e) λi J u m=>?_;exact(FT (Vp u)).trans (z i J u (AA u m))
theorem _hM{R:RW}{k:Nat}{f j:RFer}(h:R.fer[k]?=some f)(e:j.name=f.name):(R.putF k j).fns=R.fns:=by
 show(R.fer.set k j).map (·.name)=R.fer.map (·.name);refine Vk λi=>?_;rw[Xj,Xj,Zi];by_cases c:k=i
 .subst c;rw[if_pos rfl,if_pos (Xz.mp h).1,h];exact congrArg some e
 .rw[if_neg c]
theorem FV{R:RW}{k:Nat}{f l:RFer}{C:Str}(h3:R.Upto 3)(c:R.fer[k]?=some f)(q:l.name=f.name)(p:∀(j:Nat)g,j<k->R.fer[j]?=some g->ferF R.ins g=none)(e:ferF R.ins l=some C):(R.putF k l).Bad 4 C:=by
 have u:=(Xz.mp c).1;have y:=_hM c q;refine⟨by decide,λi m=>?_,?_⟩
 .rcases(show i=0\/i=1\/i=2\/i=3 by lia)with rfl|rfl|rfl|rfl
  .exact h3 0 (by decide)
  .have:=h3 1 (by decide)
   show(if 5<R.isl.length\/6<(R.fer.set k l).length then some ("TooMany":Str)else none)=none;rw[Zt];exact this
  .obtain⟨L,N⟩:=RW.f2_ok (h3 2 (by decide))
   have O:∀z∈R.fns,XF z:=λz T=>by
    obtain⟨f,U,rfl⟩:=Xt.mp T;exact N f U
   refine Qa (by show(R.putF k l).fns.Nodup;rw[y];exact L) λg d=>O _ (by rw[<-y];exact Xt.mpr ⟨g,d,rfl⟩)
  .have:=h3 3 (by decide)
   show rowF R.isl (islG R.w.toNat (R.putF k l).fns R.isl)=none;rw[y];exact this
 .exact _R (j:=k) (x:=l) (AB u) e λi g m d=>p i g m (AA m d)
theorem Qb{F:List RFer}{z:Str}{j:List Stp}:∀y∈j,endF F z y=none\/endF F z y=some ("NoFerry":Str):=fun y _=>by
 unfold endF;by_cases c:REnd F z y
 .exact .inl (if_pos c)
 .exact .inr (if_neg c)
theorem Qc{l:Type}{g:l->Option Str}{o:Option Str}:∀{j:List l},(∀y∈j,g y=none\/g y=o)->j.findSome? g=none\/j.findSome? g=o
 |[],_=>.inl rfl
 |a::j,h=>by
  rw[W6];cases e:g a with
  |none=>exact Qc λy u=>h y (XU _ u)
  |some b=>
   rcases h a (XY ..)with z|z
   .rw[e]at z;cases z
   .exact .inr (e.symm.trans z)
theorem _kk{R:RW}{k:Nat}{I j:Isl}(h:R.isl[k]?=some I)(e:j.name=I.name):(R.put k j).ins=R.ins:=by
 show(R.isl.set k j).map (·.name)=R.isl.map (·.name);refine Vk λi=>?_;rw[Xj,Xj,Zi];by_cases c:k=i
 .subst c;rw[if_pos rfl,if_pos (Xz.mp h).1,h];exact congrArg some e
 .rw[if_neg c]
theorem _kB{R:RW}{j k:Nat}{I:Isl}{S:Stp}(h:R.Upto 5)(m:R.isl[j]?=some I)(N:k<=11)(O:∀n,Z0 R.fns I.vars n S)(T:¬REnd R.fer I.name S):(R.put j ⟨I.name,I.prs,I.stps.take k++S::I.stps.drop (k+1)⟩).Bad 5 "NoFerry":=by
 have z:=(Xz.mp m).1;have g:=_kk (j:=⟨I.name,I.prs,I.stps.take k++S::I.stps.drop (k+1)⟩) m rfl;have f3:R.f3=none:=h 3 (by decide)
 refine⟨by decide,λi U=>?_,?_⟩
 .rcases(show i=0\/i=1\/i=2\/i=3\/i=4 by lia)with rfl|rfl|rfl|rfl|rfl
  .exact h 0 (by decide)
  .have:=h 1 (by decide)
   show(if 5<(R.isl.set j _).length\/6<R.fer.length then some ("TooMany":Str)else none)=none;rw[Zt];exact this
  .exact h 2 (by decide)
  .refine Uf λi J l=>?_;have L:∀{d},R.isl[i]?=some d->d.name=J.name->Yk (R.fns++((R.put j ⟨I.name,I.prs,I.stps.take k++S::I.stps.drop (k+1)⟩).isl.map (·.name)).take i) J.name=none:=fun{d} q e=>by
    have:=(or_none.mp (_r f3 q)).1;have g:(R.put j ⟨I.name,I.prs,I.stps.take k++S::I.stps.drop (k+1)⟩).isl.map (·.name)=R.isl.map (·.name):=g;rw[g,<-e];exact this
   by_cases c:i=j
   .subst c;have l:(R.isl.set i _)[i]?=some J:=l;rw[AB z]at l;cases l;refine or_none.mpr ⟨L m rfl,Pu ?_⟩;obtain⟨_,_,y⟩:=RW.f3_ok f3 m;have W:=y.ns;have p:(I.stps.take k++S::I.stps.drop (k+1)).length<=12/\I.stps.length<=(I.stps.take k++S::I.stps.drop (k+1)).length:=by
     rw[XO,Y0,XQ,YN];lia
    refine⟨y.nv,p.1,y.nd,y.gd,y.wd,λs u=>?_⟩;have u:s∈I.stps.take k++S::I.stps.drop (k+1):=u;rcases XZ.mp u with u|u
    .exact FO (y.st s (Z8 u)) p.2
    .rcases Xm.mp u with rfl|u
     .exact O _
     .exact FO (y.st s (UM u)) p.2
   .have l:(R.isl.set j _)[i]?=some J:=l;rw[ZF (λe=>c e.symm)]at l;exact or_none.mpr ⟨L l rfl,(or_none.mp (_r f3 l)).2⟩
  .have:=h 4 (by decide)
   show rowF R.fer (λ_ f=>ferF (R.put j _).ins f)=none;rw[g];exact this
 .refine Fm (λJ _=>Qc Qb) ⟨_,Y5 (AB z),?_⟩;exact Fm Qb ⟨S,by simp,if_neg T⟩
theorem _hW{R:RW}{k:Nat}{l:RFer}{C:Str}(h1:R.Upto 1)(y:k<R.fer.length)(z:R.f2=none)(e:Yk (R.fns.take k) l.name=some C):(R.putF k l).Bad 2 C:=by
 refine⟨by decide,λi u=>?_,?_⟩
 .rcases(show i=0\/i=1 by lia)with rfl|rfl
  .exact h1 0 (by decide)
  .have:=h1 1 (by decide)
   show(if 5<R.isl.length\/6<(R.fer.set k l).length then some ("TooMany":Str)else none)=none;rw[Zt];exact this
 .refine _R (j:=k) (x:=l) (AB y) (by show Yk (((R.fer.set k l).map (·.name)).take k) l.name=_;rw[FS (Xf _)];exact e) λi g u m=>?_
  show Yk (((R.fer.set k l).map (·.name)).take i) g.name=_;rw[FS (Vp u)];exact _r z (AA u m)
theorem Ch{R:RW}{k:Nat}{I:Isl}(h:R.Sh)(l:IslSh I):(R.put k I).Sh:=⟨by show(R.isl.set k I).length<=100;rw[Zt];exact h.i,h.f,λJ j=>by
 rcases Ck j with j|rfl
 .exact h.il J j
 .exact l,h.fe⟩
theorem Ci{R:RW}{k:Nat}{f:RFer}(h:R.Sh)(l:ShortT f.name/\ShortT f.giver/\ShortT f.taker):(R.putF k f).Sh:=⟨h.i,by show(R.fer.set k f).length<=100;rw[Zt];exact h.f,h.il,λg j=>by
 rcases Ck j with j|rfl
 .exact h.fe g j
 .exact l⟩
noncomputable def RW.V4(R:RW):Prop:=∀I∈R.isl,I.prs.length<=4
abbrev Ui:SpM:=fun y M Q=>∃(r:Nat) (n:Int) (R:RW) (v:MV),y=[.int r,.int n,v]/\r<=5/\Par M R v/\R.Sh/\R.Upto r/\(3<=r->R.V4)/\(∀j,SameM M j->Q (.tup [v,.str ""]) j)/\
 ∀(l:RW)(C:Str)(u:MV)j,SameM M j->l.Bad r C->l.Sh->(3<r->l.V4)->Par j l u->Q (.tup [u,.str C]) j
theorem Qd:MonW Ui:=by walk_at "m"
theorem _fI{j:Type}{l:List j}{f:j->MV}(h:(l.map f).isEmpty=false):l≠ []:=λz=>by rw[z]at h;cases h
theorem _g1{M:MH}{Is z:List Isl}{m g:List MV}(h:IslsIn M Is m)(d:IslsIn M z g):IslsIn M (Is++z) (m++g):=by
 refine⟨by rw[XO,XO,h.1,d.1],λi I y u j=>?_⟩
 have l:=h.1;by_cases c:i<Is.length
 .rw[YU c]at u;rw[YU (by lia)]at j
  exact h.2 i I y u j
 .rw[Zh (by lia)]at u j
  rw[l]at j;exact d.2 _ I y u j
theorem _j3{m n:Int}(h:0<=m):∃z,atI [MV.int 0,.int (-1 - m),.int (65+m)] (n%3)=some (.int z)/\¬(1<=z/\z<=64):=by
 rcases(show n%3=0\/n%3=1\/n%3=2 by lia)with e|e|e<;>rw[e]
 .exact⟨_,at0,by lia⟩
 .exact⟨_,at1,by lia⟩
 .exact⟨_,at2,by lia⟩
theorem _bK(T:Txt K mg t):FnOk P w K mg base CX0 4 t.br t.cu ["rank","number","parts"] (liSp K Ui):=by
 refine T.aJ.F.okM _bC (Xw (u:=[("_law_bad_name",YD),("_law_end_fault",YL),("_law_exchanged",XV),("_law_island_fault",YK),("_law_mix",Xg),("_law_step_fault",Uh)]) (Xx T) (Xy T) rfl (fMc ⟨Cc,(fMc ⟨Cf,(fMc ⟨_T,(fMc ⟨Ce,(fMc ⟨Yb,(fMc ⟨Q7,nl0⟩)⟩)⟩)⟩)⟩)⟩) (fMc ⟨⟨_,_,_,(FnOk.mono (PZ T) (by decide)),T.ay.m,T.ay.F.kp,T.ay.b⟩,(fMc ⟨⟨_,_,_,(FnOk.mono (Q5 T) (by decide)),T.ak.m,T.ak.F.kp,T.ak.b⟩,(fMc ⟨⟨_,_,_,(FnOk.mono (Az T) (by decide)),T.ac.m,T.ac.F.kp,T.ac.b⟩,(fMc ⟨⟨_,_,_,(FnOk.mono (Q4 T) (by decide)),T.aw.m,T.aw.F.kp,T.aw.b⟩,(fMc ⟨⟨_,_,_,(FnOk.mono (_d T) (by decide)),T.aa.m,T.aa.F.kp,T.aa.b⟩,(fMc ⟨⟨_,_,_,(FnOk.mono (_7C T) (by decide)),T.aW.m,T.aW.F.kp,T.aW.b⟩,nl0⟩)⟩)⟩)⟩)⟩)⟩):Fts P w K mg base 3 OM [("_law_bad_name",YD),("_law_end_fault",YL),("_law_exchanged",XV),("_law_island_fault",YK),("_law_mix",Xg),("_law_step_fault",Uh)]) F6 _bY (fun vs M Q h=>?_) (fun vs M Q h=>?_)
 .obtain⟨_,_,_,_,rfl,_⟩:=h;rfl
 obtain⟨r,n,R,v,rfl,r5,F,sh,up,v4,q0,q⟩:=h;obtain⟨A,B,G,rfl,O,hI,Y⟩:=id F;have hΦ:=(YJ (u:=[("_law_bad_name",YD),("_law_end_fault",YL),("_law_exchanged",XV),("_law_island_fault",YK),("_law_mix",Xg),("_law_step_fault",Uh)]) (fMc ⟨Cc,(fMc ⟨Cf,(fMc ⟨_T,(fMc ⟨Ce,(fMc ⟨Yb,(fMc ⟨Q7,nl0⟩)⟩)⟩)⟩)⟩)⟩));have hl:=hI.1;have F0:R.f0=none:=up 0 (Zj _);obtain⟨w1,w2⟩:=Q8 F0;show wSs _ _ _ [some (.int r),some (.int n),some (.tup [.int R.w,.ref A,.ref B]),none,none,none,none,none,none,none,none] M;delta F6 OL;simp!;delta OK;simp!;refine⟨n,4,rfl,?_⟩;obtain⟨m0,m1⟩:=Va n 4;generalize Xk n 4=more at*
 try walk_at "s"
 delta OJ;simp!;refine Xe (λc=>?_) (λc0=>?_)
 .obtain rfl:r=0:=by lia
  delta OI;simp!;intro p1 hp1;obtain⟨z,hz,bz⟩:=_j3 (n:=n) m0;have s1:=SameM.new hp1 (.lst [MV.int 0,.int (-1 - more),.int (65+more)]);exact⟨_,hz,q ⟨z,R.isl,R.fer⟩ _ _ _ s1 ⟨by decide,λi hi=>by lia,if_neg bz⟩ ⟨sh.i,sh.f,sh.il,sh.fe⟩ (λh=>by lia) ⟨A,B,G,rfl,s1 _ _ O,hI.keep s1,s1 _ _ Y⟩⟩
 have F1:R.f1=none:=up 1 (by lia)
 obtain⟨i5,f6⟩:=Q9 F1;have many:∀R':RW,R'.w=R.w->5<R'.isl.length\/6<R'.fer.length->R'.Bad 1 "TooMany":=fun R' e h=>⟨by decide,fun i hi=>by
  obtain rfl:i=0:=by lia
  exact if_pos (by rw[e];exact⟨w1,w2⟩),if_pos h⟩
 delta OH;simp!;have more3:0<=more%3/\more%3<3:=by lia
 have b7:(r:Int)=1->∀D:EndM,D.rt=Q->wSs ([("_law_bad_name",YD),("_law_end_fault",YL),("_law_exchanged",XV),("_law_island_fault",YK),("_law_mix",Xg),("_law_step_fault",Uh)]:List (Str×SpM)) BL D [some (.int r),some (.int n),some (.tup [.int R.w,.ref A,.ref B]),some (.int R.w),some (.ref A),some (.ref B),some (.int more),none,none,none,none] M:=by
  intro c D W;obtain rfl:r=1:=by lia
  delta BL;simp!;delta OE;simp!;obtain⟨m,hm,ml,mg⟩:∃m:Nat,7+more%3 - (R.fer.length:Int)=(m:Int)/\m<=9/\7<=R.fer.length+m:=⟨(7+more%3 - (R.fer.length:Int)).toNat,by lia,by lia,by lia⟩
  refine FR (m:=m) (y:=RFer.mv ⟨"","","",9,9⟩) (fun Q=>?_) (by lia) (fun σ M' Q=>by simp!;rfl) hΦ fun D4 hD4=>?_
  .simp![Y,X5,hm]
  have E:=SameM.new hD4 (.lst (XH m (RFer.mv ⟨"","","",9,9⟩)));have g4:updM M D4 (.lst (XH m (RFer.mv ⟨"","","",9,9⟩))) D4=some (.lst (XH m (RFer.mv ⟨"","","",9,9⟩))):=Xb;generalize updM M D4 _=M4 at*;have hf4:=E _ _ Y
  simp![hf4,g4]
  refine⟨by rw[X5,YM];lia,λp5 hp5=>?_⟩
  have ep:R.fer.map RFer.mv++XH m (RFer.mv ⟨"","","",9,9⟩)=(R.fer++XH m (⟨"","","",9,9⟩:RFer)).map RFer.mv:=by rw[Yd,Cs]
  rw[ep,W];have s5:=E.trans (SameM.new hp5 (.lst ((R.fer++XH m (⟨"","","",9,9⟩:RFer)).map RFer.mv)));refine q ⟨R.w,R.isl,R.fer++XH m (⟨"","","",9,9⟩:RFer)⟩ _ _ _ s5 (many _ rfl (.inr ?_)) ⟨sh.i,?_,sh.il,fun f hf=>?_⟩ (fun h=>by lia) ⟨A,p5,G,rfl,s5 _ _ O,hI.keep s5,Xb⟩
  .show 6<(R.fer++XH m (⟨"","","",9,9⟩:RFer)).length;rw[XO,YM];lia
  .show(R.fer++XH m (⟨"","","",9,9⟩:RFer)).length<=100;rw[XO,YM];lia
  .rcases XZ.mp hf with hf|hf
   .exact sh.fe f hf
   .rw[Vg hf];exact⟨UF,UF,UF⟩
 refine Xe (λc=>Xe (λ_=>?_) (λ_=>b7 c _ rfl)) (λc1=>?_)
 .obtain rfl:r=1:=by lia
  delta OG;simp!;obtain⟨m,hm,ml,mg⟩:∃m:Nat,6+more%3 - (G.length:Int)=(m:Int)/\m<=8/\6<=R.isl.length+m:=⟨(6+more%3 - (G.length:Int)).toNat,by lia,by lia,by lia⟩
  refine Pz (XI m) (fun i=>.int (i:Nat)) (fun _ y N M2=>∃a b,N=[a,b]/\y=.tup [.str "",.ref a,.ref b]/\M2 a=some (.lst [])/\M2 b=some (.lst [])) (fun M1=>M1=M) ?_ ?_ ?_ hΦ fun D zs Ns M1 W s1 l1 l2 nd1 dn1 fr1 at1 hd1=>?_
  .rintro x y N M2 M3 hk ⟨a,b,rfl,e1,e2,e3⟩;exact⟨a,b,rfl,e1,by rw[hk a (by simp)];exact e2,by rw[hk b (by simp)];exact e3⟩
  .simp![O,hm]
   refine⟨by lia,by lia,?_,by rw[YF];lia,.inl ⟨trivial,rfl⟩⟩
   show(XI ((m:Int).toNat)).map _=_;rw[ZJ];exact Cq λi _=>by rw[Int.zero_add]
  .rintro x H M1 M' rfl s;simp!;intro p hp p' hp';have sp:=SameM.new hp (.lst []);have hpp:updM M' p (.lst []) p=some (.lst ([]:List MV)):=Xb;have sp':=SameM.new hp' (.lst []);refine⟨sp.trans sp',[p,p'],by simp[neM hpp hp'],?_,p,p',rfl,rfl,sp' _ _ hpp,Xb⟩
   intro x H;simp only[Xm,Ya,or_false]at H;rcases H with rfl|rfl
   .exact⟨hp,_,sp' _ _ hpp⟩
   .exact⟨sp.free hp',_,Xb⟩
  rw[YF]at l1 l2;have hzs:IslsIn M1 (XH m ⟨"",[],[]⟩) zs:=by
   refine⟨by rw[YM];exact l1,λi I y Z hy=>?_⟩
   have hi:i<m:=by rw[<-l1];exact(Xz.mp hy).1
   rw[Vg (Y5 Z)];obtain⟨a,b,_,e,h1,h2⟩:=at1 i i y _ (Vh hi) hy (X6 (by rw[l2];exact hi))
   exact⟨a,b,e,h1,h2⟩
  have hpi1:=s1 _ _ O;delta OF
  simp![hpi1,hd1]
  refine⟨by lia,λp2 hp2=>?_⟩
  have s2:=SameM.new hp2 (.lst (G++zs));have s12:=s1.trans s2;refine q ⟨R.w,R.isl++XH m ⟨"",[],[]⟩,R.fer⟩ _ _ _ s12 (many _ rfl (.inl ?_)) ⟨?_,sh.f,fun J l=>?_,sh.fe⟩ (fun h=>by lia) ⟨p2,B,_,rfl,Xb,(_g1 (hI.keep s1) hzs).keep s2,s12 _ _ Y⟩
  .show 5<(R.isl++XH m (⟨"",[],[]⟩:Isl)).length;rw[XO,YM];lia
  .show(R.isl++XH m (⟨"",[],[]⟩:Isl)).length<=100;rw[XO,YM];lia
  .rcases XZ.mp l with l|l
   .exact sh.il J l
   .rw[Vg l];exact⟨UF,by simp,by simp,λx H=>by simp at H,λx H=>by simp at H⟩
 have F2:R.f2=none:=up 2 (by lia)
 obtain⟨nd,gd⟩:=RW.f2_ok F2;delta BL;simp!;rw[if_neg c1];delta OD;simp!;have b11:∀(D:EndM)M4,D.rt=Q->SameM M M4->(r=3->R.isl=[])->wSs ([("_law_bad_name",YD),("_law_end_fault",YL),("_law_exchanged",XV),("_law_island_fault",YK),("_law_mix",Xg),("_law_step_fault",Uh)]:List (Str×SpM)) F5 D [some (.int r),some (.int n),some (.tup [.int R.w,.ref A,.ref B]),some (.int R.w),some (.ref A),some (.ref B),some (.int more),none,none,none,none] M4:=by
  intro D M4 W E h3;have par4:=F.keep E;delta F5;simp!;intro p5 hp5;have s5:=SameM.new hp5 (.lst []);refine _p (s5 _ _ (E _ _ Y)) Xb ?_;have U:=E.trans s5;generalize updM M4 p5 _=M5 at*;have ret:∀D:EndM,D.rt=Q->wSs ([("_law_bad_name",YD),("_law_end_fault",YL),("_law_exchanged",XV),("_law_island_fault",YK),("_law_mix",Xg),("_law_step_fault",Uh)]:List (Str×SpM)) EZ D [some (.int r),some (.int n),some (.tup [.int R.w,.ref A,.ref B]),some (.int R.w),some (.ref A),some (.ref B),some (.int more),none,none,none,none] M5:=fun D W=>by
   delta EZ;simp!;rw[W];exact q0 _ U
  refine Xe (λ_=>ret _ W) (λne=>Xe (λ_=>ret _ W) (λc3=>?_));have fne:R.fer≠ []:=_fI (f:=RFer.mv) (by simpa using ne)
  have dI:=U _ _ Y;obtain⟨p0,f,hf,af⟩:=Cg (m:=Xk n 1) (f:=RFer.mv) fne;delta OB;simp!;refine Xe (λc4=>?_) (λc4=>?_)
  .obtain rfl:r=4:=by lia
   delta OA;simp!;refine⟨n,1,rfl,?_⟩
   simp![dI]
   refine⟨p0,?_⟩;have h0:=XR (Xk n 1) (b:=((R.fer.map RFer.mv).length:Int)) (by lia)
   have h1:=XT (Xk n 1) p0;obtain⟨d,hd⟩:∃d:Nat,Xk n 1%((R.fer.map RFer.mv).length:Int)=(d:Int):=⟨_,(YW h0).symm⟩;rw[hd]at h1 ⊢;rw[X5]at h1;have dl:d<R.fer.length:=by lia
   have F3:R.f3=none:=up 3 (by decide)
   have F4:R.f4=none:=up 4 (by decide)
   have of:∀(j:Nat)g,R.fer[j]?=some g->ferF R.ins g=none:=λj g hg=>_r F4 hg;have hg:XF R.fer[d].giver:=by
    have o:=of d _ (X6 dl);unfold ferF at o;by_cases cc:R.fer[d].giver∉R.ins\/R.fer[d].taker∉R.ins
    .rw[if_pos cc]at o;cases o
    obtain⟨J,l,e⟩:=Xt.mp (YX.mp λz=>cc (.inl z));obtain⟨j,hj,rfl⟩:=Y3 l;rw[<-e];exact(RW.f3_ok F3 (X6 hj)).1
   have X:=sh.fe _ (XG dl);refine⟨n,R,_,d,R.fer[d],rfl,F.keep U,i5,f6,X6 dl,hg,X.2.2,of d _ (X6 dl),λf' C v' M' s' en sg st e u=>?_⟩
   try walk_at "s"
   rw[W];exact q _ C v' M' (U.trans s') (FV (λi hi=>up i (by lia)) (X6 dl) en (λj g _ hg=>of j g hg) e) (Ci sh ⟨by rw[en];exact X.1,sg,st⟩) (λ_=>v4 (by decide)) u
  delta Oz;simp!;refine Xe (λc5=>?_) (λc5=>?_)
  .obtain rfl:r=5:=by lia
   delta Oy;simp!;have F3:R.f3=none:=up 3 (by decide)
   have F4:R.f4=none:=up 4 (by decide)
   have ok3:∀I∈R.isl,IslOk R.w.toNat R.fns I:=λI Z=>by
    obtain⟨j,hj,rfl⟩:=Y3 Z;exact(RW.f3_ok F3 (X6 hj)).2.2
   have ndI:R.ins.Nodup:=FA λj z hz hm=>by
    unfold RW.ins at hz;rw[Xj]at hz;cases ej:R.isl[j]? with
    |none=>rw[ej]at hz;cases hz
    |some J=>
     rw[ej]at hz;cases hz;exact(RW.f3_ok F3 ej).2.1 (Zs _ hm)
   refine⟨n,R,_,rfl,F.keep U,i5,fne,f6,ndI,λI Z=>⟨(ok3 I Z).ns,(ok3 I Z).nv⟩,λf hf=>?_,λj I S k v' M' s' hj k11 hS hE hS2 u=>?_⟩
   .obtain⟨j,hj,rfl⟩:=Y3 hf;exact _r F4 (X6 hj)
   try walk_at "s"
   rw[W];have mI:=Y5 hj;have L:=sh.il I mI;refine q _ _ v' M' (U.trans s') (_kB up hj k11 hS hE) (Ch sh ⟨L.nm,L.nv,?_,L.vs,λs hs=>?_⟩) (λ_ J l=>?_) u
   .show(I.stps.take k++S::I.stps.drop (k+1)).length<=100;have:=(ok3 I mI).ns;rw[XO,Y0,XQ,YN];lia
   .have hs:s∈I.stps.take k++S::I.stps.drop (k+1):=hs;rcases XZ.mp hs with hs|hs
    .exact L.st s (Z8 hs)
    .rcases Xm.mp hs with rfl|hs
     .obtain⟨g,hg,⟨i,rfl⟩|⟨p,hp,rfl⟩⟩:=hS2
      .exact⟨(sh.fe g hg).1,by simp[Tm.depth],λx H=>by simp[Tm.reads]at H⟩
      .exact⟨(sh.fe g hg).1,L.vs p hp⟩
     .exact L.st s (UM hs)
   .rcases Ck l with l|rfl
    .exact v4 (by decide) J l
    .exact v4 (by decide) I mI
  obtain rfl:r=2:=by lia
  delta Ox
  simp![dI]
  refine⟨p0,?_⟩;have h0:=XR more (b:=((R.fer.map RFer.mv).length:Int)) (by lia)
  have h1:=XT more p0;obtain⟨d,hd⟩:∃d:Nat,more%((R.fer.map RFer.mv).length:Int)=(d:Int):=⟨_,(YW h0).symm⟩;rw[hd]at h1 ⊢;rw[X5]at h1;have dl:d<R.fer.length:=by lia
  have ad:atI (R.fer.map RFer.mv) (d:Int)=some (.tup [.str R.fer[d].name,.str R.fer[d].giver,.str R.fer[d].taker,.int R.fer[d].k,.int R.fer[d].st]):=Xv (by rw[Xj,X6 dl];rfl)
  have X:=sh.fe _ (XG dl);have fin:∀(z C:Str)(D:EndM),D.rt=Q->ShortT z->Yk (R.fns.take d) z=some C->wSs ([("_law_bad_name",YD),("_law_end_fault",YL),("_law_exchanged",XV),("_law_island_fault",YK),("_law_mix",Xg),("_law_step_fault",Uh)]:List (Str×SpM)) EY D [some (.int 2),some (.int n),some (.tup [.int R.w,.ref A,.ref B]),some (.int R.w),some (.ref A),some (.ref B),some (.int more),none,some (.int d),some (.str z),some (.str C)] M5:=by
   intro z C D W shz ez;delta EY
   simp![dI,ad]
   have ec:cutM [MV.str R.fer[d].name,.str R.fer[d].giver,.str R.fer[d].taker,.int R.fer[d].k,.int R.fer[d].st] (some 1) none=[MV.str R.fer[d].giver,.str R.fer[d].taker,.int R.fer[d].k,.int R.fer[d].st]:=Fh _ 1;rw[ec];refine⟨by show 5<=16777216;decide,B,_,d,_,rfl,dI,by rw[X5];exact dl,by rw[X5];lia,λp6 M6 s6 hp6 g6=>?_⟩
   try walk_at "s"
   have s7:=U.trans s6;rw[W];refine q (R.putF d ⟨z,R.fer[d].giver,R.fer[d].taker,R.fer[d].k,R.fer[d].st⟩) C _ _ s7 (_hW (λi hi=>up i (by lia)) dl F2 ez) (Ci sh ⟨shz,X.2.1,X.2.2⟩) (λh=>by lia) ⟨A,p6,G,rfl,s7 _ _ O,hI.keep s7,?_⟩
   rw[g6];show _=some (MO.lst ((R.fer.set d _).map RFer.mv));rw[List.map_set];rfl
  delta Ow;simp!;refine⟨n,5,rfl,?_⟩
  simp![dI,ad]
  refine⟨_,_,rfl,gd _ (XG dl),λz bz shz=>?_⟩
  try walk_at "s"
  delta Ov;simp!;delta Ou;simp!;refine Xe (λcd=>Xe (λ_=>?_) (λ_=>fin z _ _ W shz (At bz))) (λ_=>fin z _ _ W shz (At bz));delta Ot;simp!;refine⟨n,6,rfl,?_⟩;have h2:=XR (Xk n 6) (b:=(d:Int)) (by lia)
  have h3:=XT (Xk n 6) (show(0:Int)<(d:Int) by lia)
  obtain⟨e,he⟩:∃e:Nat,Xk n 6%(d:Int)=(e:Int):=⟨_,(YW h2).symm⟩;have el:e<d:=by lia
  have el2:e<R.fer.length:=by lia
  have ae:atI (R.fer.map RFer.mv) (e:Int)=some (.tup [.str R.fer[e].name,.str R.fer[e].giver,.str R.fer[e].taker,.int R.fer[e].k,.int R.fer[e].st]):=Xv (by rw[Xj,X6 el2];rfl)
  simp![dI,he,ae]
  refine⟨by lia,?_⟩
  delta Os;simp!;refine fin R.fer[e].name _ _ W (Yr (gd _ (XG el2))) (BX (gd _ (XG el2)) ?_);rw[G2];exact⟨e,by unfold RW.fns;rw[X5];lia,by unfold RW.fns;rw[Up]⟩
 refine Xe (λc3=>?_) (λc3=>b11 _ _ rfl (SameM.refl _) λe=>by lia)
 obtain rfl:r=3:=by lia
 intro p4 hp4;have E:=SameM.new hp4 (.lst []);refine _p (E _ _ O) Xb ?_;generalize updM M p4 _=M4 at*;refine Xe (λne=>?_) (λe=>b11 _ _ rfl E λ_=>?_)
 .have hne:R.isl≠ []:=λz=>by
   rw[z]at hl;rw[Vf hl]at ne;cases ne
  have hpi4:=E _ _ O;delta OC;simp!;refine⟨n,1,rfl,?_⟩
  simp![hpi4]
  have l0:0<R.isl.length:=List.length_pos_iff.mpr hne;have h0:=XR (Xk n 1) (b:=(G.length:Int)) (by lia)
  have h1:=XT (Xk n 1) (show(0:Int)<(G.length:Int) by lia)
  obtain⟨d,hd⟩:∃d:Nat,Xk n 1%(G.length:Int)=(d:Int):=⟨_,(YW h0).symm⟩;rw[hd]at h1 ⊢;have dl:d<R.isl.length:=by lia
  have F3:R.f3=none:=up 3 (by decide)
  have okJ:∀(j:Nat)J,R.isl[j]?=some J->R.at j J=none:=λj J l=>_r F3 l;refine⟨by lia,n,R,_,d,R.isl[d],rfl,F.keep E,w1,w2,i5,f6,X6 dl,sh.il _ (XG dl),v4 (by decide) _ (XG dl),gd,λj J _ l=>okJ j J l,λI' C v' M' s' L e u=>?_⟩
  try walk_at "s"
  exact q _ C v' M' (E.trans s') (FU (λi hi=>up i (by lia)) dl (λj J _ l=>okJ j J l) e) (Ch sh L) (λh=>by lia) u
 .have:G=[]:=by
   cases G with
   |nil=>rfl
   |cons _ _=>simp at e
  rw[this]at hl;exact Vf hl.symm
noncomputable def cls8:List Str:=["NoName","Twice","NoWidth","NoWord","TooMany","Unknown","NoFerry","NoStep"]
def Cl(o:Option Str):Prop:=∀c,o=some c->c∈cls8
theorem Cl.non:Cl none:=λ_ h=>nomatch h
theorem Cl.of{c:Str}(h:c∈cls8):Cl (some c):=λ_ e=>Yo e▸h
theorem Cl.if{P:Prop} [Decidable P] {a b:Option Str}(j:Cl a)(l:Cl b):Cl (if P then a else b):=by
 by_cases c:P
 .rw[if_pos c];exact j
 .rw[if_neg c];exact l
theorem Cl.or{a b:Option Str}(j:Cl a)(l:Cl b):Cl (a.or b):=by
 cases a with
 |none=>exact l
 |some _=>exact j
theorem Cl.find{j:Type}{g:j->Option Str}{l:List j}(h:∀x,Cl (g x)):Cl (l.findSome? g):=λc e=>by
 obtain⟨x,_,u⟩:=List.exists_of_findSome?_eq_some e;exact h x c u
theorem Cl.row{l:Type}{g:Nat->l->Option Str}{u:List l}(h:∀j x,Cl (g j x)):Cl (rowF u g):=Cl.find λj=>by
 cases u[j]? with
 |none=>exact Cl.non
 |some x=>exact h j x
theorem cl_mem:("NoName":Str)∈cls8/\("Twice":Str)∈cls8/\("NoWidth":Str)∈cls8/\("NoWord":Str)∈cls8/\("TooMany":Str)∈cls8/\("Unknown":Str)∈cls8/\("NoFerry":Str)∈cls8/\("NoStep":Str)∈cls8:=by decide+kernel
theorem FW{j:List Str}{U:Tm}:Cl (Yx j U):=.if (.of cl_mem.2.2.2.2.1) (.if .non (.of cl_mem.2.2.2.2.2.1))
theorem _mz{fs j:List Str}{n:Nat}{S:Stp}:Cl (Y2 fs j n S):=by
 cases S with
 |take f x=>exact .if .non (.of cl_mem.2.2.2.2.2.1)
 |give f U=>exact .if FW (.of cl_mem.2.2.2.2.2.1)
 |put x U=>exact .if FW (.of cl_mem.2.2.2.2.2.1)
 |jump U i=>
  have l:=FW (j:=j) (U:=U);cases e:Yx j U with
  |some c=>
   have:Y2 fs j n (.jump U i)=some c:=by unfold Y2;simp only[e]
   rw[this,<-e];exact l
  |none=>
   have:Y2 fs j n (.jump U i)=if 0<=i/\i<=(n:Int)then none else some ("NoStep":Str):=by unfold Y2;simp only[e]
   rw[this];exact .if .non (.of cl_mem.2.2.2.2.2.2.2)
theorem FX{e:List Str}{z:Str}:Cl (Yk e z):=.if (.if (.of cl_mem.2.1) .non) (.of cl_mem.1)
theorem RW.cl(R:RW):Cl R.fault:=by
 refine .or (.if .non (.of cl_mem.2.2.1)) (.or (.if (.of cl_mem.2.2.2.2.1) .non) (.or (.row λ_ _=>FX) (.or (.row λ_ _=>.or FX (.if (.of cl_mem.2.2.2.2.1) (.if (.of cl_mem.2.2.2.2.1) (.or (.row λ_ _=>.or FX (.if .non (.of cl_mem.2.2.2.1))) (.find λ_=>_mz))))) (.or (.row λ_ _=>.if (.of cl_mem.2.2.2.2.2.1) (.if (.of cl_mem.2.2.2.2.2.2.1) .non)) (.find λ_=>.find λ_=>.if .non (.of cl_mem.2.2.2.2.2.2.1))))))
theorem Qe{c:Str}(h:c∈cls8):¬c="":=fun e=>by
 subst e;exact absurd h (by decide+kernel)
theorem RW.Bad.ne{R:RW}{r:Nat}{C:Str}(h:R.Bad r C):¬C="":=Qe (R.cl C h.fault)
abbrev UG:SpM:=fun y M Q=>∃(one two:Int) (R:RW) (v:MV),y=[.int one,.int two,v]/\Par M R v/\R.Sh/\R.Upto 5/\R.V4/\(∀j,SameM M j->Q (.tup [v,.str ""]) j)/\
 ∀(l:RW)(r:Nat)(C:Str)(u:MV)j,SameM M j->l.Bad r C->l.Sh->Par j l u->Q (.tup [u,.str C]) j
theorem FY:MonW UG:=by walk_at "m"
theorem _9W(T:Txt K mg t):FnOk P w K mg base CX0 5 t.cG t.cb ["one","two","parts"] (liSp K UG):=by
 refine T.aQ.F.okM _9N (Xw (u:=[("_law_end_fault",YL),("_law_fault",Ui),("_law_island_fault",YK),("_law_mix",Xg)]) (Xx T) (Xy T) rfl (fMc ⟨Cf,(fMc ⟨Qd,(fMc ⟨Ce,(fMc ⟨Yb,nl0⟩)⟩)⟩)⟩) (fMc ⟨⟨_,_,_,(FnOk.mono (Q5 T) (by decide)),T.ak.m,T.ak.F.kp,T.ak.b⟩,(fMc ⟨⟨_,_,_,(FnOk.mono (_bK T) (by decide)),T.aJ.m,T.aJ.F.kp,T.aJ.b⟩,(fMc ⟨⟨_,_,_,(FnOk.mono (Q4 T) (by decide)),T.aw.m,T.aw.F.kp,T.aw.b⟩,(fMc ⟨⟨_,_,_,(FnOk.mono (_d T) (by decide)),T.aa.m,T.aa.F.kp,T.aa.b⟩,nl0⟩)⟩)⟩)⟩):Fts P w K mg base 4 OX [("_law_end_fault",YL),("_law_fault",Ui),("_law_island_fault",YK),("_law_mix",Xg)]) Fb _aj (fun vs M Q h=>?_) (fun vs M Q h=>?_)
 .obtain⟨_,_,_,_,rfl,_⟩:=h;rfl
 obtain⟨one,two,R,v,rfl,N,sh,up,v4,q0,q⟩:=h;obtain⟨n,x,ys,rfl,hpi,hI,hpf⟩:=id N;have hΦ:=(YJ (u:=[("_law_end_fault",YL),("_law_fault",Ui),("_law_island_fault",YK),("_law_mix",Xg)]) (fMc ⟨Cf,(fMc ⟨Qd,(fMc ⟨Ce,(fMc ⟨Yb,nl0⟩)⟩)⟩)⟩));have hl:=hI.1;obtain⟨w1,w2⟩:=Q8 (up 0 (by decide))
 obtain⟨i5,f6⟩:=Q9 (up 1 (by decide))
 obtain⟨nd,gd⟩:=RW.f2_ok (up 2 (by decide))
 have F3:R.f3=none:=up 3 (by decide)
 have F4:R.f4=none:=up 4 (by decide)
 have I:∀(j:Nat)J,R.isl[j]?=some J->R.at j J=none:=λj J O=>_r F3 O;show wSs _ _ _ [some (.int one),some (.int two),some (.tup [.int R.w,.ref n,.ref x]),none,none,none,none,none,none] M;delta Fb OW;simp!;delta OV
 simp![hpi]
 have b9:∀D:EndM,D.rt=Q->wSs ([("_law_end_fault",YL),("_law_fault",Ui),("_law_island_fault",YK),("_law_mix",Xg)]:List (Str×SpM)) F9 D [some (.int one),some (.int two),some (.tup [.int R.w,.ref n,.ref x]),some (.int (one/36%4)),none,none,none,none,none] M:=by
  intro D a;delta F9;simp!;obtain⟨C,S,r15⟩:∃C:Nat,(if two%6>one%6 then two%6 else one%6)=(C:Int)/\C<=5:=by
   by_cases c:two%6>one%6
   .exact⟨(two%6).toNat,by rw[if_pos c];lia,by lia⟩
   .exact⟨(one%6).toNat,by rw[if_neg c];lia,by lia⟩
  obtain⟨r2,hr2,r21⟩:∃r2:Nat,(if two%6<one%6 then two%6 else one%6)=(r2:Int)/\(¬one%6=two%6->r2<C):=by
   by_cases c:two%6<one%6
   .refine⟨(two%6).toNat,by rw[if_pos c];lia,λ_=>?_⟩
    rw[if_neg (by lia)]at S;lia
   .refine⟨(one%6).toNat,by rw[if_neg c];lia,λ_=>?_⟩
    by_cases d:two%6>one%6
    .rw[if_pos d]at S;lia
    .lia
  rw[S];have b10:∀(Y:RW)(Z:Str)(m:MV)M1,SameM M M1->Par M1 Y m->Y.Sh->((Z=""/\m=.tup [.int R.w,.ref n,.ref x]/\Y=R)\/(Y.Bad C Z/\(3<C->Y.V4)))->wSs ([("_law_end_fault",YL),("_law_fault",Ui),("_law_island_fault",YK),("_law_mix",Xg)]:List (Str×SpM)) F8 D [some (.int one),some (.int two),some (.tup [.int R.w,.ref n,.ref x]),some (.int (one/36%4)),none,some m,none,some (.str Z),none] M1:=by
   intro Y Z m M1 L l f h1;have fin:∀(v8:Option MV)M2,SameM M1 M2->wSs ([("_law_end_fault",YL),("_law_fault",Ui),("_law_island_fault",YK),("_law_mix",Xg)]:List (Str×SpM)) BM D [some (.int one),some (.int two),some (.tup [.int R.w,.ref n,.ref x]),some (.int (one/36%4)),none,some m,none,some (.str Z),v8] M2:=fun v8 M2 U=>by
    delta BM;simp!;rw[a];rcases h1 with⟨rfl,rfl,_⟩|⟨E,_⟩
    .exact q0 _ (L.trans U)
    .exact q Y C Z m M2 (L.trans U) E f (l.keep U)
   delta F8;simp!;refine Xe (λne=>?_) (λ_=>fin _ _ (SameM.refl _));have r2l:=r21 ne;delta OO;simp!;rw[hr2];refine⟨r2,one/6,Y,m,rfl,by lia,l,f,?_,λh3=>?_,λM2 U=>?_,λR2 C2 v2 M2 U E X _ u=>?_⟩
   .rcases h1 with⟨_,_,rfl⟩|⟨E,_⟩
    .exact λi A=>up i (by lia)
    .exact λi A=>E.2.1 i (by lia)
   .rcases h1 with⟨_,_,rfl⟩|⟨_,h4⟩
    .exact v4
    .exact h4 (by lia)
   .simp!;delta F7;simp!;exact fin _ _ U
   .simp!;delta F7;simp!;rw[if_pos E.ne];delta ON;simp!;delta BM;simp!;rw[a];exact q R2 r2 C2 v2 M2 (L.trans U) E X u
  refine⟨C,two/6,R,_,rfl,r15,N,sh,λi A=>up i (by lia),λ_=>v4,λM1 L=>?_,λY Z m M1 L E f h4 l=>?_⟩
  .simp!;exact b10 R _ _ M1 L (N.keep L) sh (.inl ⟨rfl,rfl,rfl⟩)
  .simp!;exact b10 Y Z m M1 L l f (.inr ⟨E,h4⟩)
 have b5:∀D:EndM,D.rt=Q->wSs ([("_law_end_fault",YL),("_law_fault",Ui),("_law_island_fault",YK),("_law_mix",Xg)]:List (Str×SpM)) Fa D [some (.int one),some (.int two),some (.tup [.int R.w,.ref n,.ref x]),some (.int (one/36%4)),none,none,none,none,none] M:=by
  intro D a;delta Fa
  simp![hpf,X5]
  refine Xe (λ_=>Xe (λc=>?_) (λ_=>b9 _ a)) (λ_=>b9 _ a);delta OR;simp!;refine⟨two,8,rfl,?_⟩
  simp![hpf,X5]
  have h0:=XR (Xk two 8) (b:=(R.fer.length:Int) - 1) (by lia)
  have h1:=XT (Xk two 8) (show(0:Int)<(R.fer.length:Int) - 1 by lia)
  obtain⟨k,hk,k1,F⟩:∃k:Nat,1+Xk two 8%((R.fer.length:Int) - 1)=(k:Int)/\1<=k/\k<R.fer.length:=⟨(1+Xk two 8%((R.fer.length:Int) - 1)).toNat,by lia,by lia,by lia⟩
  rw[hk];refine⟨by lia,?_⟩
  have of:∀(j:Nat)g,R.fer[j]?=some g->ferF R.ins g=none:=λj g H=>_r F4 H;have gg:∀(j:Nat)g,R.fer[j]?=some g->XF g.giver:=λj g H=>by
   have o:=of j g H;unfold ferF at o;by_cases cc:g.giver∉R.ins\/g.taker∉R.ins
   .rw[if_pos cc]at o;cases o
   obtain⟨J,O,e⟩:=Xt.mp (YX.mp λz=>cc (.inl z));obtain⟨j,s,rfl⟩:=Y3 O;rw[<-e];exact(RW.f3_ok F3 (X6 s)).1
  have B:=λj (s:j<R.fer.length)=>sh.fe _ (XG s);have p:=X6 F;delta OQ;simp!;refine⟨two/6,R,_,k,R.fer[k],rfl,N,i5,f6,p,gg k _ p,(B k F).2.2,of k _ p,λf1 Z m M1 L en sg st e1 l=>?_⟩;simp!;delta OP;simp!;refine⟨one,9,rfl,?_⟩;have h2:=XR (Xk one 9) (b:=(k:Int)) (by lia)
  have h3:=XT (Xk one 9) (show(0:Int)<(k:Int) by lia)
  obtain⟨j,s⟩:∃j:Nat,Xk one 9%(k:Int)=(j:Int):=⟨_,(YW h2).symm⟩;simp!;rw[s];have jk:j<k:=by lia
  have G:j<R.fer.length:=by lia
  have W:=X6 G;have y:(R.putF k f1).fer[j]?=some R.fer[j]:=by
   show(R.fer.set k f1)[j]?=_;rw[ZF (by lia)];exact W
  have b1:=FV (λi A=>up i (by lia)) p en (λj g _ H=>of j g H) e1
  refine⟨by lia,one/144,R.putF k f1,m,j,R.fer[j],rfl,l,i5,by show(R.fer.set k f1).length<=6;rw[Zt];exact f6,y,gg j _ W,(B j G).2.2,of j _ W,λf2 C2 v2 M2 U en2 sg2 st2 e2 u=>?_⟩
  try walk_at "s"
  rw[a];refine q _ 4 C2 v2 M2 (L.trans U) (FV (λi A=>b1.2.1 i (by lia)) y en2 (λi g A H=>of i g (AA (by lia) H)) e2) (Ci (Ci sh ⟨by rw[en];exact(B k F).1,sg,st⟩) ⟨by rw[en2];exact(B j G).1,sg2,st2⟩) u
 refine Xe (λ_=>Xe (λc=>?_) (λ_=>b5 _ rfl)) (λ_=>b5 _ rfl);delta OU;simp!;refine⟨two,8,rfl,?_⟩
 simp![hpi]
 have h0:=XR (Xk two 8) (b:=(ys.length:Int) - 1) (by lia)
 have h1:=XT (Xk two 8) (show(0:Int)<(ys.length:Int) - 1 by lia)
 obtain⟨k,hk,k1,F⟩:∃k:Nat,1+Xk two 8%((ys.length:Int) - 1)=(k:Int)/\1<=k/\k<R.isl.length:=⟨(1+Xk two 8%((ys.length:Int) - 1)).toNat,by lia,by lia,by lia⟩
 rw[hk];refine⟨by lia,?_⟩
 have p:=X6 F;delta OT;simp!;refine⟨two/6,R,_,k,R.isl[k],rfl,N,w1,w2,i5,f6,p,sh.il _ (XG F),v4 _ (XG F),gd,λj J _ O=>I j J O,λI1 Z m M1 L f e1 l=>?_⟩;simp!;delta OS;simp!;refine⟨one,9,rfl,?_⟩;have h2:=XR (Xk one 9) (b:=(k:Int)) (by lia)
 have h3:=XT (Xk one 9) (show(0:Int)<(k:Int) by lia)
 obtain⟨j,s⟩:∃j:Nat,Xk one 9%(k:Int)=(j:Int):=⟨_,(YW h2).symm⟩;simp!;rw[s];have jk:j<k:=by lia
 have G:j<R.isl.length:=by lia
 have W:=X6 G;have y:(R.put k I1).isl[j]?=some R.isl[j]:=by
  show(R.isl.set k I1)[j]?=_;rw[ZF (by lia)];exact W
 have ok1:∀(i:Nat)J,i<=j->(R.put k I1).isl[i]?=some J->(R.put k I1).at i J=none:=λi J A O=>by
  rw[FT (by lia)]
  exact I i J (AA (by lia) O)
 have b1:=FU (λi A=>up i (by lia)) F (λj J _ O=>I j J O) e1
 have l1:(R.put k I1).isl.length=R.isl.length:=Zt ..;refine⟨by lia,one/144,R.put k I1,m,j,R.isl[j],rfl,l,w1,w2,by rw[l1];exact i5,f6,y,sh.il _ (XG G),v4 _ (XG G),gd,ok1,λI2 C2 v2 M2 U X e2 u=>?_⟩
 try walk_at "s"
 exact q _ 3 C2 v2 M2 (L.trans U) (FU (λi A=>b1.2.1 i (by lia)) (by rw[l1];exact G) (λi J A O=>ok1 i J (by lia) O) e2) (Ch (Ch sh f) X) u
noncomputable def names10:List Str:=["NoName","Twice","NoWidth","NoWord","TooMany","Unknown","NoFerry","NoStep","NoCode","NoText"]
noncomputable def AC(c:Str):List MV:=.bl true::names10.map λz=>.bl (decide (z=c))
abbrev ZV:SpM:=λl M Q=>∃(R:RW) (v:MV),l=[v]/\Par M R v/\R.Sh/\
 (∀k j,SameM M j->R.fault=none->j k=some (.lst [])->Q (.ref k) j)/\(∀k c j,SameM M j->R.fault=some c->j k=some (.lst (AC c))->Q (.ref k) j)
theorem FZ:MonW ZV:=by walk_at "m"
theorem _di(T:Txt K mg t):FnOk P w K mg base CX0 58 t.bH t.bX ["parts"] (liSp K ZV):=by
 refine T.aU.F.okT (G:=OZ) _de (Xw (u:=[]) (Xx T) (Xy T) rfl nl0 nl0:Fts P w K mg base 57 OY []) (YZ (u:=[("_law_made",Ca)]) rfl (fMc ⟨_9y,nl0⟩) (fMc ⟨⟨_,_,_,(FnOk.mono (_ct T) (by decide)),T.aL.m,T.aL.F.kp,T.aL.b⟩,nl0⟩):FtX P w K mg base 57 ["_law_made"] [("_law_made",Ca)]) T.ex (by decide+kernel) Fc _dH (fun q M Q h=>?_) (fun q M Q h=>?_)
 .obtain⟨_,_,rfl,_⟩:=h;rfl
 obtain⟨R,v,rfl,y,sh,p,L⟩:=h;show wTs _ _ _ _ _ [some v,none,none] M;delta Fc;simp!;intro k N;have z:=SameM.new N (.lst []);have O:updM M k (.lst []) k=some (.lst []):=Xb;generalize updM M k _=M1 at*;obtain⟨U,W,Y,rfl,m,Z,g⟩:=y.keep z;refine⟨R,U,W,Y,rfl,sh,m,Z,g,λM2 v u e=>?_,λM2 c u e=>?_⟩
 .try walk_at "s"
  exact p _ _ (z.trans u) e (u _ _ O)
 .have A:∀j l,l j=some (.lst (AC c))->SameM M l->Q (.ref j) l:=λj l h s=>L j c l s e h;have f:=R.cl c e;simp only[cls8,Xm,Ya,or_false]at f;rcases f with rfl|rfl|rfl|rfl|rfl|rfl|rfl|rfl
  all_goals
   refine⟨by decide+kernel,λj d=>?_⟩
   refine A j _ ?_ ((z.trans u).trans (SameM.new d _));rw[Xb];simp[P8,AC,names10]
noncomputable def Fer.r(f:Fer):RFer:=⟨f.name,f.giver,f.taker,f.k,f.st⟩
def Wld.r(W:Wld):RW:=⟨W.w,W.isl,W.fer.map Fer.r⟩
theorem Wld.r_fns(W:Wld):W.r.fns=W.fns:=by
 show(W.fer.map Fer.r).map (·.name)=W.fer.map (·.name);rw[Ym];rfl
theorem Wld.r_mv(W:Wld):W.r.fer.map RFer.mv=W.fer.map Fer.mv:=by
 show(W.fer.map Fer.r).map RFer.mv=_;rw[Ym];rfl
theorem AD{W:Wld}{f:RFer}(h:f∈W.r.fer):∃g∈W.fer,f=g.r:=by
 obtain⟨g,j,rfl⟩:=Xt.mp h;exact⟨g,j,rfl⟩
theorem Wld.Good.upto{W:Wld}(G:W.Good):W.r.Upto 5:=by
 obtain⟨d,c,q⟩:=AO.mp G.nd;have N:W.r.w.toNat=W.w:=rfl;intro i R;rcases(show i=0\/i=1\/i=2\/i=3\/i=4\/i=5 by lia)with rfl|rfl|rfl|rfl|rfl|rfl
 .have:=G.w1;have:=G.w2;exact if_pos (by show(1:Int)<=(W.w:Int)/\(W.w:Int)<=64;lia)
 .have:=G.i5;have:=G.f6;exact if_neg (by show¬(5<W.isl.length\/6<(W.fer.map Fer.r).length);rw[X5];lia)
 .refine Qa (by show W.r.fns.Nodup;rw[W.r_fns];exact d) λf p=>?_
  obtain⟨g,l,rfl⟩:=AD p;exact G.fg _ (Xt.mpr ⟨g,l,rfl⟩)
 .refine Uf λj I y=>or_none.mpr ⟨name_ok.mpr ⟨G.ig _ (Xt.mpr ⟨I,Y5 y,rfl⟩),λz=>?_⟩,Pu ?_⟩
  .rw[W.r_fns]at z;rcases XZ.mp z with z|z
   .exact q _ z _ (Xt.mpr ⟨I,Y5 y,rfl⟩) rfl
   .exact Fu c (by show(W.isl.map (·.name))[j]?=some I.name;rw[Xj,show W.isl[j]?=some I from y];rfl) z
  .rw[W.r_fns,N];exact G.io I (Y5 y)
 .refine Uf λj f p=>?_;obtain⟨g,l,rfl⟩:=AD (Y5 p);have m:=G.fo g l;have T:=m.k3;have Y:=m.s1;have Z:=m.s3;refine(if_neg λz=>z.elim (λn=>n m.g) λn=>n m.t).trans (if_neg ?_);rintro(z|z|z)
  .exact m.ne z
  .exact z (by show(0:Int)<=(g.k:Int)/\(g.k:Int)<=3;lia)
  .exact z (by show(1:Int)<=(g.st:Int)/\(g.st:Int)<=3;lia)
 .refine Ue λI y=>Ue λs O=>if_pos ?_;have:=G.en I y s O;cases s with
  |take f x=>
   intro u L e;obtain⟨g,l,rfl⟩:=AD L;exact this g l e
  |give f U=>
   intro u L e;obtain⟨g,l,rfl⟩:=AD L;exact this g l e
  |put _ _=>trivial
  |jump _ _=>trivial
theorem Wld.Good.sh{W:Wld}(G:W.Good):W.r.Sh:=by
 have y:∀{m:List Str} {U:Tm},(∀x∈m,XF x)->TmIn m U->TmSh U:=λh u=>⟨Y7 u.1 (by decide),λx z=>Yr (h x (u.2.2 x z))⟩
 refine⟨Y7 G.i5 (by decide),by show(W.fer.map Fer.r).length<=100;rw[X5];exact Y7 G.f6 (by decide),λI d=>?_,λf p=>?_⟩
 .have j:=G.io I d;refine⟨Yr (G.ig _ (Xt.mpr ⟨I,d,rfl⟩)),Y7 j.nv (by decide),Y7 j.ns (by decide),λx z=>Yr (j.gd _ (Xt.mpr ⟨x,z,rfl⟩)),λs e=>?_⟩
  have l:=j.st s e;cases s with
  |take f x=>exact⟨Yr (G.fg f l.1),Yr (j.gd x l.2)⟩
  |give f U=>exact⟨Yr (G.fg f l.1),y j.gd l.2⟩
  |put x U=>exact⟨Yr (j.gd x l.1),y j.gd l.2⟩
  |jump U i=>exact y j.gd l.1
 .obtain⟨g,c,rfl⟩:=AD p;have q:=G.fo g c;exact⟨Yr (G.fg _ (Xt.mpr ⟨g,c,rfl⟩)),Yr (G.ig _ q.g),Yr (G.ig _ q.t)⟩
theorem _lX(T:Txt K mg t):FnOk P w K mg base CX0 60 t.dc t.be ["script"] (liSp K Jd):=by
 refine T.cA.F.okM _l4 (Xw (u:=[("_law_cell",Zx),("_law_kin",ZV),("_law_mix",Xg),("_law_spoiled",UG),("_law_world",UE)]) (Xx T) (Xy T) rfl (fMc ⟨Au,(fMc ⟨FZ,(fMc ⟨Yb,(fMc ⟨FY,(fMc ⟨FL,nl0⟩)⟩)⟩)⟩)⟩) (fMc ⟨⟨_,_,_,(FnOk.mono (PD T) (by decide)),T.aq.m,T.aq.F.kp,T.aq.b⟩,(fMc ⟨⟨_,_,_,(FnOk.mono (_di T) (by decide)),T.aU.m,T.aU.F.kp,T.aU.b⟩,(fMc ⟨⟨_,_,_,(FnOk.mono (_d T) (by decide)),T.aa.m,T.aa.F.kp,T.aa.b⟩,(fMc ⟨⟨_,_,_,(FnOk.mono (_9W T) (by decide)),T.aQ.m,T.aQ.F.kp,T.aQ.b⟩,(fMc ⟨⟨_,_,_,(FnOk.mono (_bI T) (by decide)),T.aP.m,T.aP.F.kp,T.aP.b⟩,nl0⟩)⟩)⟩)⟩)⟩):Fts P w K mg base 59 P7 [("_law_cell",Zx),("_law_kin",ZV),("_law_mix",Xg),("_law_spoiled",UG),("_law_world",UE)]) Ff _mA (fun vs M Q h=>?_) (fun vs M Q h=>?_)
 .obtain⟨d,rfl,_⟩:=h;rfl
 obtain⟨d,rfl,i,q⟩:=h;have B:=(YJ (u:=[("_law_cell",Zx),("_law_kin",ZV),("_law_mix",Xg),("_law_spoiled",UG),("_law_world",UE)]) (fMc ⟨Au,(fMc ⟨FZ,(fMc ⟨Yb,(fMc ⟨FY,(fMc ⟨FL,nl0⟩)⟩)⟩)⟩)⟩));show wSs _ _ _ [some (.frl (d.map .int)),none,none,none,none,none,none,none] M;have B:=(YJ (u:=[("_law_cell",Zx),("_law_kin",ZV),("_law_mix",Xg),("_law_spoiled",UG),("_law_world",UE)]) (fMc ⟨Au,(fMc ⟨FZ,(fMc ⟨Yb,(fMc ⟨FY,(fMc ⟨FL,nl0⟩)⟩)⟩)⟩)⟩));delta Ff P6;simp!;refine⟨d,rfl,i,λW R U ys M1 s1 G Y _ _ _ n a hpf=>?_⟩;have f:Par M1 W.r (.tup [.int W.w,.ref R,.ref U]):=⟨R,U,ys,rfl,n,a,by rw[W.r_mv];exact hpf⟩
 have up:=G.upto;have sh:=G.sh
 try walk_at "s"
 delta P5;simp!;refine⟨d,3,rfl,by decide,λv3=>?_⟩
 try walk_at "s"
 refine⟨v3,5,rfl,?_⟩
 try walk_at "s"
 delta P4;simp!;refine⟨d,4,rfl,by decide,λv4=>?_⟩
 try walk_at "s"
 refine⟨v4,6,rfl,?_⟩
 try walk_at "s"
 delta P3;simp!;have E:∀(j:RW)(C:Str)(N:MV)M2,SameM M1 M2->Par M2 j N->j.Sh->((C=""/\j.fault=none)\/j.fault=some C)->wSs ([("_law_cell",Zx),("_law_kin",ZV),("_law_mix",Xg),("_law_spoiled",UG),("_law_world",UE)]:List (Str×SpM)) Fe {nx:=fun x o=>Q MV.non o,rt:=Q} [some (.frl (d.map MV.int)),some (.tup [.int W.w,.ref R,.ref U]),some (.int (Xk v3 5)),some (.int (Xk v4 6)),some N,some (.str C),none,none] M2:=by
  intro j C N M2 Z l O h2;delta Fe;simp!;intro F hp3;have s3:=SameM.new hp3 (.lst (names10.map MV.str));have g3:updM M2 F (.lst (names10.map MV.str)) F=some (.lst (names10.map MV.str)):=Xb
  change wSs _ _ _ _ (updM M2 F (.lst (names10.map MV.str)))
  generalize updM M2 F _=M3 at*;delta P2;simp!;intro Y hp4;have s4:=SameM.new hp4 (.lst []);have g4:updM M3 Y (.lst []) Y=some (.lst ([]:List MV)):=Xb;have g34:=s4 _ _ g3;have I:=s3.trans s4;generalize updM M3 Y _=M4 at*;have m:∀(s:Addr)(L:List MV)A,SameM M2 A->A s=some (.lst L)->(∀v∈L,YB v=true)->((L=[]/\j.fault=none)\/∃c,j.fault=some c/\L=AC c)->wSs ([("_law_cell",Zx),("_law_kin",ZV),("_law_mix",Xg),("_law_spoiled",UG),("_law_world",UE)]:List (Str×SpM)) Fd {nx:=fun x o=>Q MV.non o,rt:=Q} [some (.frl (d.map MV.int)),some (.tup [.int W.w,.ref R,.ref U]),some (.int (Xk v3 5)),some (.int (Xk v4 6)),some N,some (.str C),some (.ref F),some (.ref s)] A:=by
   intro s L A J g5 fl hL;delta Fd;simp!;have go:∀(k:Addr)u,SameM A u->u k=some (.lst L)->wCmp .Eq (.ref k) (.ref s) u λx M1=>onB x λc=>if c=true then ZV [.tup [.int W.w,.ref R,.ref U]] M1 λx M1=>∀p,M1 p=none->wCmp .Eq x (.ref p) (updM M1 p (.lst [])) Q else Q (.bl false) M1:=by
    intro k u y S;refine _hP (k:=λb=>onB (.bl b) λc=>if c=true then ZV [.tup [.int W.w,.ref R,.ref U]] u λx M1=>∀p,M1 p=none->wCmp .Eq x (.ref p) (updM M1 p (.lst [])) Q else Q (.bl false) u) rfl (Alike.lstFlat 0 (.inr ⟨_,rfl,S⟩) (.inr ⟨_,rfl,y _ _ g5⟩) fl) (by decide) ?_
    simp!;refine⟨W.r,_,rfl,f.keep ((Z.trans J).trans y),sh,λk2 M7 s7 _ hk2=>?_,λk2 c M7 s7 e _=>?_⟩
    .intro p8 hp8;simp!;refine _p (SameM.new hp8 _ _ _ hk2) Xb ?_;exact q _
    .rw[RW.fault_none up]at e;cases e
   refine⟨j,N,rfl,l.keep J,O,λk u y e S=>?_,λk c u y e S=>?_⟩
   .rcases hL with⟨rfl,_⟩|⟨c,g,_⟩
    .exact go k u y S
    .rw[e]at g;cases g
   .rcases hL with⟨_,g⟩|⟨c',g,rfl⟩
    .rw[e]at g;cases g
    .rw[e]at g;cases g;exact go k u y S
  delta P1;simp!;refine Xe (λne=>?_) (λe=>?_)
  .delta P0;simp!;intro p5 hp5;have J:=SameM.new hp5 (.lst [.bl true]);have g5:updM M4 p5 (.lst [.bl true]) p5=some (.lst [.bl true]):=Xb;have X:=J _ _ g34;have s25:=I.trans J;generalize updM M4 p5 _=A at*;refine _b names10 MV.str (λz=>.bl (decide (z=C))) ?_ ?_ B λD hD=>?_
   .simp![X]
    exact⟨rfl,by decide,X⟩
   .intro z _ o _;simp only[sCm,Xp,Y6,Yi,Yj,Yc,Ye];simp!
   .simp!;have y:=SameM.new hD (.lst (names10.map λz=>.bl (decide (z=C))));refine⟨_,y _ _ g5,by rw[X5];decide,λp7 hp7=>?_⟩
    try walk_at "s"
    refine m p7 (AC C) _ ((s25.trans y).trans (SameM.new hp7 _)) Xb ?_ (.inr ⟨C,h2.resolve_left λz=>ne z.1,rfl⟩);intro v H;rcases Xm.mp H with rfl|H
    .rfl
    .obtain⟨z,_,rfl⟩:=Xt.mp H;rfl
  .refine m Y [] M4 I g4 (λv H=>nomatch H) (.inl ⟨rfl,?_⟩);rcases h2 with⟨_,h⟩|h
   .exact h
   .exact absurd (YX.mp e) (Qe (j.cl C h))
 refine⟨_,_,W.r,_,rfl,f,sh,up,Y,λM2 Z=>?_,λj r C N M2 Z bd O l=>?_⟩
 .simp!;exact E W.r "" _ M2 Z (f.keep Z) sh (.inl ⟨rfl,RW.fault_none up⟩)
 .simp!;exact E j C N M2 Z l O (.inr bd.fault)
end
theorem all_mk{l:Cz}{w:Xd}{K:X1}{h:Heap}{y:Str->Option Value}{fa:Addr}(X:K.In h)(G:h.Ns Xl y)(hfa:y "law"=some (.ref fa))
  {f1 f2 f3 f4 f5 f6 f7 f8 f9 z m g d c f q p L N O P R U W Y Z A B C D E F I J M Q S H o i n f42:Addr} {d1 d2 d3 d4 d5 d6 d7 d8 d9 x b a d13 d14 d15 d16 d17 d18 d19 d20 d21 d22 d23 d24 d25 d26 d27 d28 d29 d30 d31 d32 d33 d34 d35 d36 d37 d38 d39 d40 d41 u:Xi}
  {tk1:Tok}
  {tk2:Tok}
  {tk3:Tok}
  {tk4:Tok}
  {tk5:Tok}
  {tk6:Tok}
  {tk7:Tok}
  {tk8:Tok}
  {tk9:Tok}
  {tk10:Tok}
  (h1:Fn1 K "is_whole" WI f1 d1)
  (h2:Fn1 K "is_width" WJ f2 d2)
  (h3:Fn1 K "two_to" WK f3 d3)
  (h4:Fn1 K "fits" WL f4 d4)
  (h5:Fn1 K "parts_within" WM f5 d5)
  (h6:Fn1 K "size_of" WN f6 d6)
  (h7:Fn1 K "names_read" WO f7 d7)
  (h8:Fn1 K "vars_in" WP f8 d8)
  (h9:Fn1 K "is_name" WQ f9 d9)
  (h10:Fn1 K "refuse_name" WR z x)
  (h11:Fn1 K "refuse_unknown" WT m b)
  (h12:Fn1 K "refuse_ferry_names" WU g a)
  (h13:Fn1 K "refuse_variables" WV d d13)
  (h14:Fn1 K "refuse_term" WW c d14)
  (h15:Fn1 K "refuse_step" WX f d15)
  (h16:Fn1 K "refuse_island" WY q d16)
  (h17:Fn1 K "refuse_islands" WZ p d17)
  (h18:Fn1 K "refuse_ferry" A0 L d18)
  (h19:Fn1 K "refuse_wrong_end" A1 N d19)
  (h20:Fn1 K "refuse_wrong_ends" A2 O d20)
  (h21:Fn1 K "frozen" A3 P d21)
  (h22:Fn1 K "made" A4 R d22)
  (h23:Fn1 K "_law_cell" A5 U d23)
  (h24:Fn1 K "_law_mix" A6 W d24)
  (h25:Fn1 K "_law_names" A7 Y d25)
  (h26:Fn1 K "_law_word" A8 Z d26)
  (h27:Fn1 K "_law_term" A9 A d27)
  (h28:Fn1 K "_law_step" Aa B d28)
  (h29:Fn1 K "_law_ferries" Ab C d29)
  (h30:Fn1 K "_law_world" Ac D d30)
  (h31:Fn1 K "_law_made" Ad E d31)
  (h32:Fn1 K "_law_bad_name" Ae F d32)
  (h33:Fn1 K "_law_fresh" Af I d33)
  (h34:Fn1 K "_law_exchanged" Ag J d34)
  (h35:Fn1 K "_law_wrong_step" Ah M d35)
  (h36:Fn1 K "_law_island_fault" Ai Q d36)
  (h37:Fn1 K "_law_end_fault" Aj S d37)
  (h38:Fn1 K "_law_step_fault" Ak H d38)
  (h39:Fn1 K "_law_fault" Al o d39)
  (h40:Fn1 K "_law_spoiled" Am i d40)
  (h41:Fn1 K "_law_kin" An n d41)
  (h42:Fn1 K "law" Ao f42 u)
  (z1:XA K Xl "ValueError"=some none)
  (z2:XA K Xl "all"=some none)
  (z3:XA K Xl "bool"=some none)
  (z4:XA K Xl "dict"=some none)
  (z5:XA K Xl "int"=some none)
  (z6:XA K Xl "isinstance"=some none)
  (z7:XA K Xl "len"=some none)
  (z8:XA K Xl "list"=some none)
  (z9:XA K Xl "max"=some none)
  (z10:XA K Xl "min"=some none)
  (z11:XA K Xl "range"=some none)
  (z12:XA K Xl "set"=some none)
  (z13:XA K Xl "sorted"=some none)
  (z14:XA K Xl "tuple"=some none)
  (g1:XA K Xl "MOST_WIDTH"=some (some (.int 64 tk1)))
  (g2:XA K Xl "MOST_LETTERS"=some (some (.int 8 tk2)))
  (g3:XA K Xl "MOST_ISLANDS"=some (some (.int 5 tk3)))
  (g4:XA K Xl "MOST_FERRIES"=some (some (.int 6 tk4)))
  (g5:XA K Xl "MOST_VARS"=some (some (.int 6 tk5)))
  (g6:XA K Xl "MOST_STEPS"=some (some (.int 12 tk6)))
  (g7:XA K Xl "MOST_PARTS"=some (some (.int 30 tk7)))
  (g8:XA K Xl "MOST_DEPTH"=some (some (.int 8 tk8)))
  (g9:XA K Xl "MOST_K"=some (some (.int 3 tk9)))
  (g10:XA K Xl "MOST_STAGES"=some (some (.int 3 tk10)))
  (xx:exsB K XB XC=true):
  ∃fd:Xi,(∀(s:X0)(v:Value),BindsTo s fd ⟨[v],[]⟩ [("script",v)])/\∀j:Heap,K.In j->j.Ns Xl y->FnOk l.prog w K y j CX0 60 fa fd ["script"] (BD K):=by
 have e:=hfa.symm.trans (YG X G h42.a);cases e;have T:Txt K y ⟨f1,d1,f2,d2,f3,d3,f4,d4,f5,d5,f6,d6,f7,d7,f8,d8,f9,d9,z,x,m,b,g,a,d,d13,c,d14,f,d15,q,d16,p,d17,L,d18,N,d19,O,d20,P,d21,R,d22,U,d23,W,d24,Y,d25,Z,d26,A,d27,B,d28,C,d29,D,d30,E,d31,F,d32,I,d33,J,d34,M,d35,Q,d36,S,d37,H,d38,o,d39,i,d40,n,d41,fa,u⟩:={
  ao:=h1.t X G λ_ _ _ _ _ _=>us1 (λ_=>rfl)
  b4:=h2.t X G λ_ _ _ _ _ _=>us1 (λ_=>rfl)
  aR:=h3.t X G λ_ _ _ _ _ _=>us1 (λ_=>rfl)
  aT:=h4.t X G λ_ _ _ _ _ _=>us2 (λ_ _=>rfl)
  aA:=h5.t X G λ_ _ _ _ _ _=>us1 (λ_=>rfl)
  aE:=h6.t X G λ_ _ _ _ _ _=>us1 (λ_=>rfl)
  ar:=h7.t X G λ_ _ _ _ _ _=>us1 (λ_=>rfl)
  b3:=h8.t X G λ_ _ _ _ _ _=>us1 (λ_=>rfl)
  b6:=h9.t X G λ_ _ _ _ _ _=>us1 (λ_=>rfl)
  ah:=h10.t X G λ_ _ _ _ _ _=>us2 (λ_ _=>rfl)
  ai:=h11.t X G λ_ _ _ _ _ _=>us2 (λ_ _=>rfl)
  bb:=h12.t X G λ_ _ _ _ _ _=>us1 (λ_=>rfl)
  aO:=h13.t X G λ_ _ _ _ _ _=>us2 (λ_ _=>rfl)
  b8:=h14.t X G λ_ _ _ _ _ _=>us2 (λ_ _=>rfl)
  aI:=h15.t X G λ_ _ _ _ _ _=>us4 (λ_ _ _ _=>rfl)
  aG:=h16.t X G λ_ _ _ _ _ _=>us3 (λ_ _ _=>rfl)
  aM:=h17.t X G λ_ _ _ _ _ _=>us3 (λ_ _ _=>rfl)
  aY:=h18.t X G λ_ _ _ _ _ _=>us2 (λ_ _=>rfl)
  ba:=h19.t X G λ_ _ _ _ _ _=>us4 (λ_ _ _ _=>rfl)
  aN:=h20.t X G λ_ _ _ _ _ _=>us2 (λ_ _=>rfl)
  ag:=h21.t X G λ_ _ _ _ _ _=>us1 (λ_=>rfl)
  aV:=h22.t X G λ_ _ _ _ _ _=>us3 (λ_ _ _=>rfl)
  aq:=h23.t X G λ_ _ _ _ _ _=>us2 (λ_ _=>rfl)
  aa:=h24.t X G λ_ _ _ _ _ _=>us2 (λ_ _=>rfl)
  aK:=h25.t X G λ_ _ _ _ _ _=>us2 (λ_ _=>rfl)
  am:=h26.t X G λ_ _ _ _ _ _=>us2 (λ_ _=>rfl)
  aB:=h27.t X G λ_ _ _ _ _ _=>us3 (λ_ _ _=>rfl)
  aX:=h28.t X G λ_ _ _ _ _ _=>us5 (λ_ _ _ _ _=>rfl)
  aZ:=h29.t X G λ_ _ _ _ _ _=>us3 (λ_ _ _=>rfl)
  aP:=h30.t X G λ_ _ _ _ _ _=>us2 (λ_ _=>rfl)
  aL:=h31.t X G λ_ _ _ _ _ _=>us1 (λ_=>rfl)
  ay:=h32.t X G λ_ _ _ _ _ _=>us2 (λ_ _=>rfl)
  aj:=h33.t X G λ_ _ _ _ _ _=>us2 (λ_ _=>rfl)
  ac:=h34.t X G λ_ _ _ _ _ _=>us3 (λ_ _ _=>rfl)
  aH:=h35.t X G λ_ _ _ _ _ _=>us3 (λ_ _ _=>rfl)
  aw:=h36.t X G λ_ _ _ _ _ _=>us3 (λ_ _ _=>rfl)
  ak:=h37.t X G λ_ _ _ _ _ _=>us3 (λ_ _ _=>rfl)
  aW:=h38.t X G λ_ _ _ _ _ _=>us2 (λ_ _=>rfl)
  aJ:=h39.t X G λ_ _ _ _ _ _=>us3 (λ_ _ _=>rfl)
  aQ:=h40.t X G λ_ _ _ _ _ _=>us3 (λ_ _ _=>rfl)
  aU:=h41.t X G λ_ _ _ _ _ _=>us1 (λ_=>rfl)
  cA:=h42.t X G λ_ _ _ _ _ _=>us1 (λ_=>rfl)
  ce:=YO X G z1
  dC:=YO X G z2
  bD:=YO X G z3
  c0:=YO X G z4
  bT:=YO X G z5
  dw:=YO X G z6
  bL:=YO X G z7
  cI:=YO X G z8
  bA:=YO X G z9
  ci:=YO X G z10
  bg:=YO X G z11
  cY:=YO X G z12
  bu:=YO X G z13
  dh:=YO X G z14
  dy:=⟨_,YG X G g1⟩
  bw:=⟨_,YG X G g2⟩
  dD:=⟨_,YG X G g3⟩
  cT:=⟨_,YG X G g4⟩
  cE:=⟨_,YG X G g5⟩
  bU:=⟨_,YG X G g6⟩
  c6:=⟨_,YG X G g7⟩
  du:=⟨_,YG X G g8⟩
  cW:=⟨_,YG X G g9⟩
  cj:=⟨_,YG X G g10⟩
  ex:=_mt xx z1 X G
 }
 exact⟨u,h42.bt λ_ _ _ _ _ _ _=>rfl,λj _ _=>_k2 (FnOk.mono (_lX T) (by decide))⟩
theorem walk{l:Cz}{q:Xh}{y:List Str}{L:(Str->Option Value)->Heap->Prop}{c:Xd->Heap->Prop}{d:DefRec}{K:Params->X1}(N:l.most=some 63)(g:d.params.defaults=[])
  (O:∀(w:Xd)(h:Heap),c w h->(K w.params).In h)
  (F:∀(w:Xd)(m:Str->Option Value)(p:Addr)(h:Heap),(K w.params).In h->h.Ns Xl m->m d.name=some (.ref p)->
   ∃e:Xi,(∀(s:X0)(u:Value),BindsTo s e ⟨[u],[]⟩ [("script",u)])/\∀j:Heap,(K w.params).In j->j.Ns Xl m->FnOk l.prog w (K w.params) m j CX0 60 p e ["script"] (BD (K w.params))):
  PySem.W.WalkO q y L c l.row.toRowW d [] (λf P=>PySem.call f P):=
 L2.walk_of (n:=63) (k:=60) (x:="script") (B:=fun _=>CX0) (C:=fun w=>BD (K w.params)) N (by decide) g ⟨rfl,by decide,by decide⟩ O F (fun _ H a R T U W=>⟨a,R,rfl,_mp U W,T,fun _=>rfl⟩) fun _ _ _ _ _ z=>z
end My
structure PySem.W.Fast:Prop where
 (tw10013815572559046098 tw15006092780990723414 tw3116766735187732235 tw8992519863548193059 tw5219568411931878856 tw18039862015372948557 tw4283459933258228288 tw3656002300985328713 tw15952332195248823559 tw9538003287727041692 tw9599966587052627916 tw9981456211842974042 tw15845418323271941450 tw4166031357370731693 tw14579302795105817788 tw12923609387225313110 tw8746685707697458285 tw15497889294772411189 tw3754191688348855514 tw15259907610427677236 tw9473567756142531992 tw12176036338856559803 tw12561797700585724236 tw15841236826027097918 tw5173472342423269988 tw2150362269615950378 tw17529426945866157824 tw5970395382082225313 tw7166848552008823504 tw17349609665087886858 tw14848434462847300455 tw1822301806565542763 tw102606274241473456 tw1665072881655090630 tw3804140832839829554 tw16342728508621896143 tw9505636744510669617 tw1470000958126763059 tw9216964651181653498 tw1776635862823277299 tw10766801514320130301 tw11106887777743388615 tw4961899388118157347 tw11922860264678321094 tw17119030739665339868 tw10536667433084003815 tw13053084847889033663 tw9267460434830267379 tw14972850065578213488 tw1411944853074397704 tw10794302237256261964 tw14108354851696069499 tw9161921876658357042 tw7980094844874623035 tw1761433256138527634 tw14410276953740728703 tw399418842287010728 tw6487293158093416034 tw10694219543919430750 tw9627642091427689132 tw7053204205884110538 tw13088781538435044688 tw1304604412708217568 tw1703369718242914406 tw13784255342841846512 tw10562631073104268963 tw15864780391402329223 tw12370553824314209190 tw180329796745044051 tw8610588796104234952 tw8622888906820231540 tw3290941474463454818 tw5804236130645286624 tw13357176448689015060 tw2129779208423757402 tw16093418225746614138 tw6757802718098515366 tw17352432622025854898 tw2542299739431274546 tw11762558354839292280 tw18013597863853038771 tw2128332163735872504 tw15712589444934598138 tw12093094974448660163 tw8658274011569704466 tw18047948632650801041 tw3703004456439638369 tw9684372551064375042 tw900829544499827482 tw2686304293364884878 tw6696951437208036553 tw17727935586562058028 tw13428750197661947664 tw11349878473164310450 tw13718997229679720341 tw18391062491708799340 tw5639506174207599458 tw6402515243365332985 tw75982920824097994 tw9713363115406000141 tw7985373809842596467 tw15659752861614751274 tw13952825963107238435 tw17845216457295940938 tw18029622050319053926 tw18191721787957884124 tw10828042365981159160 tw7526523439609093325 tw1940095832559242182 tw1468798386483287041 tw16826435863109209503 tw18259484442278653010 tw18109169024815293349 tw507542098241838254 tw126584465868990073 tw1770404241746077241 tw16013106301301944108 tw1045956000634022998 tw2083128665556828177 tw15583119646112218505 tw6334986162842106668 tw4717587909100884468 tw4830725933546671147 tw14335100223150874507 tw16784527412225665924 tw18358681556633816134 tw10166503361707548320 tw9904939840176522231 tw7114862755470599878 tw14856422881427399339 tw10356628693290505240 tw14105188660056823992 tw14996191921368724530 tw16105467427455776029 tw8128314202266711611 tw2724922106181821954 tw1654625403814854978 tw13498253686951793926 tw10909805464297228303 tw10417710096903335227 tw5634270646309348486 tw1830347700492688515 tw17777665504810156638 tw3177814195116105018 tw8270849655617376577 tw3524808514927790356 tw1488620590237355301 tw3109198980539421978 tw16614999656372194566 tw14229159161423631947 tw10905069284304733573 tw3616886008814832317 tw1706629830588463199 tw13584258748128058487 tw13344094560581271985 tw11047040055172152942 tw7975877295596894771 tw441892415016910380 tw16167934935006626871 tw582080757138395809 tw2397289511578888832 tw4539432745939793095 tw6935801658349199151 tw675514266290169786 tw14134843711465444056 tw3149391831879837969 tw7228278855036662317 tw8055431168519302764 tw14833366075262716625 tw16645713497312945438 tw2134991813163853905 tw10118149692938945404 tw17646298491454137799 tw7244803894304662805 tw861309979042133349 tw536898548242019286 tw13293008950391658615 tw11222022362467977060 tw12657751243707322406 tw15717492673679539625 tw5698022101205039431 tw1764941859513559980 tw15094068495437304209 tw13982280088040900378 tw17868734015480716523 tw3996087419680180972 tw9946117190743620378 tw17821541850057821900 tw15479011821097451367 tw14036273808794575121 tw11161929030267088882 tw9420370039872067756 tw8336062003824822037 tw17427750423599458664 tw2258363622473445583 tw10409521804515813218 tw3412008311156001012 tw4990042348242496367 tw14843607422055032031 tw7454877094673893354 tw5711379790950032461 tw7734383670346477789 tw2092616448648838002 tw7658822518971186889 tw17740115091450036075 tw8423290100655881763 tw2069352136552305215 tw18018146995164189114 tw10730292281263580968 tw3742077910968039452 tw2957794115600924707 tw7819562121334917788 tw11895699907335799209 tw3740253957711657093 tw3176895979316866103 tw9301349069081087646 tw1070730216265308345 tw6745529306047933740 tw11842297443390340609 tw11791092621166359408 tw17803482314803529336 tw11202749130002379163 tw10420016476735710569 tw4113328277805433073 tw7080941517457283221 tw4442851619690684183 tw4162186486467531923 tw15359406808188745215 tw13914746276218025565 tw905878990022235434 tw7095905208707253465 tw3786205075820855601 tw15586812567744624281 tw7238396481822058112 tw15609174215071926946 tw8272771217356518394 tw5742941791401103889 tw14652204523408804975 tw6331484017296307045 tw4673808732606704368 tw8001595180259650667 tw14208124483503486512 tw3985019577876131552 tw15957406780712639666 tw720157740561842494 tw7598658129912207150 tw8898261687770398895 tw12474091635260612411 tw4594695582764204098 tw16810836442404963851 tw12728983560078055437 tw15416354051202316645 tw15165268086683830435 tw13842729915692328052 tw13081285235661759340 tw8776020552342139494 tw2907104611190233825 tw3134015011563157845 tw2570004263241620771 tw11774256339977908390 tw9188375387301007271 tw4173911000443063735 tw13383389718895202613 tw16520704218666551570 tw17660811026842856072 tw6951508806982566355 tw14692537093491601233 tw3494303999610519052 tw8658835418039507111 tw14017666000606197115 tw12574686368285395522 tw4883633636994033933 tw12177040982088079471 tw6347874146763291118 tw15321653318673104212 tw12915686018417740164 tw14886162964336462210 tw2239671088650054100 tw15423091017097743663 tw5368292965823482241 tw3463292084725785555 tw6908417813143074283 tw265202038017731711 tw11573533156117269857 tw3388899782138773458 tw9498337472343645064 tw1622861894431214104 tw1342181563700629402 tw4103395413602920861 tw10528332257351491782 tw16934810119699704427 tw7760147057295536338 tw3510244779074721815 tw389308190149943747 tw2484512087494132244 tw7432973422409081160 tw8289686754765883797 tw4841179638123599702 tw14918159083846618007 tw5350144847919601151 tw7718162769724642537 tw15973408855399573727 tw602973430767577949 tw12884624027239330839 tw15408899517772949606 tw11591693318128518498 tw17379387586301455498 tw3038575138335278045 tw1524889294651171621 tw9880028196331753322 tw8306420638281360914 tw10867481388044349255 tw6225980492341058072 tw6377689388141812166 tw5511396866431547439 tw7880737449983747500 tw3797764751027095108 tw8392841847625812106 tw2167470121392649555 tw6590768414235641680 tw699284009602801626 tw11662418380883520466 tw11609657701842343627 tw3586129031672238150 tw11140273974138456380 tw11359842473384762517 tw8618156124256182483 tw7632226059851560853 tw8151367441552025406 tw11738291152443389788 tw8694919402858199386 tw18050338713959314803 tw16513611480987839248 tw15728065663164365645 tw10993699274515253959 tw14814639218244753475 tw1530547096248051433 tw9291472945724161977 tw11253906683277832258 tw3849933470131104942 tw14463442821607788073 tw10017705425975982051 tw2344368160434950151 tw15497689470409325638 tw15954052128913725671 tw15160630097766885797 tw14247880377397943323 tw16861439241877178221 tw7253865588601485380 tw1895021084354518647 tw14284498804024982263 tw3580776579650020732 tw5957983218692253496 tw8680428683422962785 tw13450335960208042258 tw4244815784142454705 tw15968077488093304919 tw14487339165232272988 tw657691784334997531 tw7916765514223936828 tw3086597620185520082 tw17765954449272736526 tw7603575429078827954 tw1483562908836762614 tw10308197537384531052 tw16992970348449592465 tw16095545299254816539 tw3119058481562384772 tw6613733015260984060 tw13956690965835972011 tw2127716359606013762 tw4072300286832402573 tw2854665111706319213 tw10115168545005927799 tw2061302528770485886 tw12806236703777425205 tw2556467858269667331 tw11919041004443983326 tw1204204802637420013 tw17574427453216935719 tw13911043526510985115 tw4910866695586304663 tw13917437032357804987 tw5185358886504872946 tw4832816274195185132 tw1671251254611848311 tw194151548760862810 tw4841762822363996220 tw4043183531686332480 tw9569325176630329010 tw9679882142468295566 tw1110688131933210596 tw4942184321568699630 tw6574141881772460717 tw15795390615644677522 tw11060844338984106417 tw5862078054399704626 tw5721865349153791158 tw11330209558849463855 tw17730335451398483179 tw3758299798621750663 tw5291132916372998762 tw12986305286171993542 tw9150420847576240364 tw17012905365815289848 tw1109267597429655970 tw8883598153695178748 tw2464197002908239869 tw8129506137091448288 tw18049882761307405017:True)
open PySem PySem.W PyProof.Rows
local macro_rules | `(tactic| walk_at "q_fn") => `(tactic| (refine' ⟨?a, L2.fun_mk ?l ?c ?k⟩; (case a => k_is); (case l => k_is); (case c => k_is); (case k => k_is)))
set_option maxRecDepth 100000 in
set_option maxHeartbeats 0 in
theorem PySem.Challenge.cw_bellferry_k22_worlds_refused_holds : PySem.Challenge.rw_bellferry_k22_worlds_refused.Holds := by
 w_on;o_law;k_head;(case hw=>w_witness2)
 k_fill
 refine My.walk (l:=PySem.Challenge.rw_bellferry_k22_worlds_refused) rfl rfl (λw h Y=>PySem.W.kIn_of Y) ?F
 case F=>
  intro w y z h u G j;refine' My.all_mk u G j ?h1 ?h2 ?h3 ?h4 ?h5 ?h6 ?h7 ?h8 ?h9 ?h10 ?h11 ?h12 ?h13 ?h14 ?h15 ?h16 ?h17 ?h18 ?h19 ?h20 ?h21 ?h22 ?h23 ?h24 ?h25 ?h26 ?h27 ?h28 ?h29 ?h30 ?h31 ?h32 ?h33 ?h34 ?h35 ?h36 ?h37 ?h38 ?h39 ?h40 ?h41 ?h42 ?z1 ?z2 ?z3 ?z4 ?z5 ?z6 ?z7 ?z8 ?z9 ?z10 ?z11 ?z12 ?z13 ?z14 ?g1 ?g2 ?g3 ?g4 ?g5 ?g6 ?g7 ?g8 ?g9 ?g10 ?xx
  (case h1=>walk_at "q_fn")
  (case h2=>walk_at "q_fn")
  (case h3=>walk_at "q_fn")
  (case h4=>walk_at "q_fn")
  (case h5=>walk_at "q_fn")
  (case h6=>walk_at "q_fn")
  (case h7=>walk_at "q_fn")
  (case h8=>walk_at "q_fn")
  (case h9=>walk_at "q_fn")
  (case h10=>walk_at "q_fn")
  (case h11=>walk_at "q_fn")
  (case h12=>walk_at "q_fn")
  (case h13=>walk_at "q_fn")
  (case h14=>walk_at "q_fn")
  (case h15=>walk_at "q_fn")
  (case h16=>walk_at "q_fn")
  (case h17=>walk_at "q_fn")
  (case h18=>walk_at "q_fn")
  (case h19=>walk_at "q_fn")
  (case h20=>walk_at "q_fn")
  (case h21=>walk_at "q_fn")
  (case h22=>walk_at "q_fn")
  (case h23=>walk_at "q_fn")
  (case h24=>walk_at "q_fn")
  (case h25=>walk_at "q_fn")
  (case h26=>walk_at "q_fn")
  (case h27=>walk_at "q_fn")
  (case h28=>walk_at "q_fn")
  (case h29=>walk_at "q_fn")
  (case h30=>walk_at "q_fn")
  (case h31=>walk_at "q_fn")
  (case h32=>walk_at "q_fn")
  (case h33=>walk_at "q_fn")
  (case h34=>walk_at "q_fn")
  (case h35=>walk_at "q_fn")
  (case h36=>walk_at "q_fn")
  (case h37=>walk_at "q_fn")
  (case h38=>walk_at "q_fn")
  (case h39=>walk_at "q_fn")
  (case h40=>walk_at "q_fn")
  (case h41=>walk_at "q_fn")
  (case h42=>walk_at "q_fn")
  (case z1=>k_is)
  (case z2=>k_is)
  (case z3=>k_is)
  (case z4=>k_is)
  (case z5=>k_is)
  (case z6=>k_is)
  (case z7=>k_is)
  (case z8=>k_is)
  (case z9=>k_is)
  (case z10=>k_is)
  (case z11=>k_is)
  (case z12=>k_is)
  (case z13=>k_is)
  (case z14=>k_is)
  (case g1=>k_is)
  (case g2=>k_is)
  (case g3=>k_is)
  (case g4=>k_is)
  (case g5=>k_is)
  (case g6=>k_is)
  (case g7=>k_is)
  (case g8=>k_is)
  (case g9=>k_is)
  (case g10=>k_is)
  (case xx=>kernel_rfl)
