import PyProof.Rows.All
import Wide.All
import OpenK.AllK
import Wide.FinOn
import Lean
import PyProof.EqAt
import PyProof.EqKinds
import PyProof.TupleCall
import PySem.Challenge.RW_bellferry_k53_when_an_island_waits
import PyProof.Rows.SetFrom
import PyProof.FactsAll.set_1
import PyProof.CollectWalk
import PyProof.Rows.SortStr
import PyProof.IsiH_list
import PyProof.ConsumeWalk
import PyProof.StrWalks
import PyProof.IsiH_tuple
import PyProof.SliceStr2
import PyProof.ListRange
import PyProof.Rows.Range3
import PyProof.Rows.CallKwBuiltin
import PyProof.WalkInts
import PyProof.NeKinds
import PyProof.FString5
set_option Elab.async false
set_option tactic.hygienic false
set_option linter.all false
set_option maxRecDepth 100000
set_option maxHeartbeats 8000000
set_option genSizeOf false
set_option genSizeOfSpec false
noncomputable section
set_option bootstrap.genMatcherCode false
set_option compiler.extract_closed false
open PySem renaming Value->X0,World->Xn,Program->Xw,sysModules->YM,mainGlobals->Xp,bootBuiltins->YH,Around->Xz,Shared->X2,wpAny->X3,model->X6,backTo->Y2,starEach->XC,wpAny_mono->Zx,holding->Z6,wpAny_truthy_bool->Zy,swapsWith->Zz,assignEach->ZA,wpAny_bind->X1,wpAny_holding->YN,wpAny_passesOwn->UN,letOwnedTupleGo->BL,wpAny_pure->X9,wpAny_load->Vh,rawInt->Y6,foldedSetIterable->BM,Operator->Uk,binaryOp->Yk,compareOp->XZ,codeAny->YW,attributeBase->Ul,FuncData->Xd,codeAny_mono->Vi,wpAny_Call_Name_kw->Um,backToKw->ZX,keywordEach->ZY,Keyword->Z7,NameKind->Z8,wpAny_callSpecial?_slot->BN,wpAny_call_entry->Zf,wpAny_typeOf->ZB,wpAny_newObj_type->ZZ,typeLookup->Vj,sliceBounds->UO,call_meets->UP,valueAt->Z2,tupleKind_room_in1->BO,wpAny_richCompare_same_room->Vk,wpAny_loadPart'->Yh,plainId_quiet->Zg,codeAny_builtin->Z9,codeAny_call_builtin->Wg,wpAny_dictEntries->BP,wpAny_notOrdered_dict->BQ,wpAny_isInstance->Uo,SetTable->Yx,wpAny_setState_of->Wh,wpAny_rule->Up,wpAny_askSetting->Wi,wpAny_pyIter_list->BR,typeLookup_type->Vl,builtinLookup_eq_fast->Vm,wpAny_setField->Vn,ownMembersOf->YX,getattributeRaised->BS
open List renaming getElem?_eq_getElem->X7,length_map->Xb,getElem?_eq_some_iff->XE,mem_of_getElem?->Xu,replicate->Xj,getElem?_map->Xr,mem_cons->Xl,mem_cons_of_mem->XS,getD_eq_getElem?_getD->Ya,map_cons->Xx,size_toArray->XO,not_mem_nil->XI,getElem_of_mem->Y0,getElem_mem->XQ,mem_singleton->Y1,range->Xs,map_append->XX,mem_cons_self->Yb,length_append->Ye,getD_cons_succ->Yr,getD_cons_zero->Ys,nil_append->Y7,length_take->Yf,length_replicate->YO,mem_map->XT,getElem?_append_right->Zh,length_cons->Yl,cons_append->Ym,getElem?_append_left->ZC,mem_append->Yt,getElem?_eq_none->Zi,nodup_cons->YI,replicate_succ->Za,map_nil->Yg,mem_append_right->ZD,map_map->Yu,nodup_append->Zj,take_add_one->Zk,eq_of_mem_replicate->UQ,mem_range->Z3,lookup_cons->Zl,flatten_cons->ZE,take_of_length_le->UR,length_range->Uq,eq_nil_of_length_eq_zero->BU,any_cons->ZF,length_set->Ur,all_eq_true->US,length_dropLast->Wj,append_assoc->Vo,getElem?_set->Vp,getElem?_inj->Vq,all_cons->Us,getElem?_range->Wk,mem_flatten->Vr,mem_flatMap->Vs,map_replicate->Wl,mem_filter->Vt,lookup->U0,append_nil->Vu,foldl_cons->Vv,find?_cons->Vw,getElem?_set_ne->BV,dropLast_subset->BW,getElem?_eq_none_iff->DP,getElem?_replicate->DQ,length_eq_zero_iff->DR,filter_append->BX,getElem?_set_self->DS,ext_getElem?->BY,getElem_inj->BZ,length_drop->C0,ext_getElem->C1,take_length->C2,take_append_of_le_length->HD,filterMap_cons->DT,length_pos_iff->DU,range_succ->C3,length_eraseIdx_of_lt->HE,pairwise_cons->DV,map_set->Wm,nodup_nil->C4,mem_or_eq_of_mem_set->HF,foldl->Vx,foldl_append->DW,getElem_take->DX,length->Wn,getElem_map->DY,getElem_set->DZ,drop_eq_nil_of_le->HG,of_mem_zip->E1,length_nil->E2,map_id'->C5,getD->Wo
open PySem.W renaming Frag->X4,nsIn->XA,findIn->XV,mg_none_of->Z4,mg_of->Yy,keepIn->YQ,kia_one->Zm,kia_tup->Zn,emptyDict->U1,instObj->Ut,plainGet->UT,fnOf->ZG,hasDictIn->Vy,kitOne->UU,plainOver->Wp,makesIn->Wq,kitx_list->C6,kitx_dict->C7,plainGet_of->E3,callWith_K->E4,lookIn->C8,codeIn->C9,kitAny->Ca,methodObj->E5,cellsFrom_some->HH,isFn->Cb,takerIn->E6,methodCall_KW->HI,OpenLaw->E7
open PySem.Heap renaming get?_push_of_some->Xq,get?_push_size->XR,lt_size->Xv,get?_update_self->UV,size_push->Zo,get?_update_other->Vz,SameBut->U2,ExtBut->Cc
open Nat renaming le_refl->Xf,ne_of_lt->XB,lt_of_lt_of_le->Yz,le_trans->Y4,zero_le->YA,two_pow_pos->Zp,lt_succ_of_lt->Uu,lt_irrefl->Uv,lt_succ_self->VA,not_lt_zero->VB,pow_le_pow_right->Cd,le_succ->Uw,ne_of_gt->UW,lt_trans->UX,lt_succ_iff_lt_or_eq->E8,lt_of_le_of_lt->Ce,min_eq_left->Cf,le_of_eq->Wr,mod_lt->VC,succ_le_succ->E9,le_of_lt->Cg,add_comm->Ch,pow_succ->Ci,sub_self->Cj
open Bool renaming false_ne_true->XG,and_eq_true->XY,false_eq_true->Yn,not_true->VD,false_and->Ws,and_false->Wt,or_self->VE,eq_iff_iff->Ck,not_false->Cm,true_and->Cn,or_eq_true->Ea,false_or->Eb
open PySem.Value renaming none->Xt,ref->Xo,type->XD,str->XF,bool->Yc,int->VF,float->Co
open Array renaming length_toList->Yv,getElem?_eq_getElem->UY,getElem?_eq_none->Ec,getElem?_toList->HJ
open Sum renaming inr->Xm,inl->UZ
open Option.some renaming inj->Yd,injEq->Cp
open Int renaming toNat_natCast->YR,emod_lt_of_pos->U3,toNat_of_nonneg->Ux,emod_nonneg->ZH,lt_of_lt_of_le->VG,natCast_nonneg->Wu,le_refl->Uy,natCast_pow->Wv,zero_add->Ww,natCast_emod->Ed,sub_emod->Cq
open PySem.NameKind renaming free->Yo,cell->VH
open PySem.Around renaming under_plainId->Zq,under->Ee
open PySem.Str renaming ofString->Yi,empty->U4
open False renaming elim->Y5
open PyProof.Rows renaming slot_tuple_getitem->VI,callWith_type1->Wx,callWith_builtin1->HK,bitAnd_pp->HL
open PySem.Heap.SameBut renaming update->U5
open Ne renaming symm->XM
open True renaming intro->Yw
open PySem.Builtin.Tuple renaming tupleCompareSizes->Cr,tupleExact->Cs,tupleItemsOf->HM,tupleTooMany->HN,tupleIsExact->HP
open PySem.AutoSeq1 renaming wpAny_loadPart'->Ct,sub_tuple_tuple->HQ,sub_list_list->HR,idx_int->HS
open PySem renaming mem_of_lookup->VJ,Within->Ef
open Iff renaming rfl->Y8
open PySem.Builtin.Slice renaming slicePlaces->Cu,sliceAdjust->Eg,sliceApplied->HU
open PySem.Builtin.Dict renaming dictSlotArgs->Cv,updateFrom->Cw,selfAndRest->HV,samePairs->HW
open PySem.F renaming slot_tuple_getattribute->Cy,slot_list_getattribute->Cz,slot_tuple_mul->CA,called_set->Uz,args_tuple_add_2->HX,args_tuple_mul_2->HY,entry_tuple_add->HZ,slot_tuple_rmul->I0,entry_tuple_mul->Ia,slot_tuple_add->Ib,sub_dict_dict->Ic,slot_int_rmul->Ie,slot_dict_eq->Ig,slot_dict_ne->Ih,slot_list_eq->Eh,slot_list_ne->Ei
open PySem.Builtin.List renaming listTooLong->CB,listExtendWith->Ii,listSameRef->Ij
open PySem.SetTable renaming grown->V0,below->CC
open PySem.Calls renaming spliced_cons->Wy,spliced_nil->Wz,Name_function_global->Ik,callWith_builtin->Il
open PySem.Data renaming fields->U6,seq->YY
open PySem.Manifest renaming find?->VL
open PySem.Obj renaming mapSeq->U7,data_mapFields->CD,isFreed_of_fields->Ej,cls_mapFields->Ek,mapFields->El
open Option renaming map_eq_some_iff->Em,map_some->CF,toList_some->En,isSome_map->Eo
open Sum.inr renaming inj->V1
open PySem.Shared renaming TypeIs->WB
open ForInStep renaming yield->CG
open Nat.succ renaming inj->WC
open PySem.Builtin renaming bitAnd->CH,bitXor->CI
open PySem.Builtin.Frozenset renaming sizeOf->Im
open PySem.Heap.DictOf renaming new->Ep
open List.Pairwise renaming sublist->Io
open PySem.SeqAt.EqAt renaming int_str->Ip,str_int->Iq
open PySem.ScopeKind renaming function->Ir
open PySem.SeqAt renaming EqAt->CJ
open PySem.SetTable.below renaming go->Iu
open Char renaming toNat->CK
namespace L2
open PySem PySem.Spec PyProof.Rows
theorem nl0 {j:Type _}{p:j->Prop}:∀x∈([]:List j),p x:=λ_ h=>nomatch h
theorem fMc{j:Type _}{p:j->Prop}{a:j}{l:List j}(h:p a/\∀x∈l,p x):∀x∈a::l,p x:=List.forall_mem_cons.2 h
noncomputable abbrev Key:=Sum Int Str
def VM:Key->X0->Bool
 |.inl k,v=>Value.isInt k v
 |.inr x,v=>Value.isStrOf x v
def keyH(w:Xn):Key->Int
 |.inl k=>hashInt k
 |.inr x=>hashStr w x
theorem U8:∀{k:Key} {v:X0},VM k v=true->(∃i t,k=UZ i/\v=VF i t)\/(∃x t,k=Xm x/\v=XF x t)
 |.inl i,v,h=>by
  obtain⟨t,e⟩:=Value.isInt_shape (k:=i) (v:=v) h;exact .inl ⟨i,t,rfl,e⟩
 |.inr x,v,h=>by
  obtain⟨t,e⟩:=Value.isStrOf_shape (x:=x) (v:=v) h;exact .inr ⟨x,t,rfl,e⟩
theorem T5(i:Int)(t:Tok):VM (.inl i) (.int i t)=true:=by simp[VM,Value.isInt]
theorem T6(x:Str)(t:Tok):VM (.inr x) (.str x t)=true:=by simp[VM,Value.isStrOf]
theorem T7(a b:Int):decide ((UZ a:Key)=UZ b)=(a==b):=by
 by_cases e:a=b
 .subst e;simp
 .have h:¬(UZ a:Key)=UZ b:=λq=>e (Sum.inl.inj q);rw[decide_eq_false h];exact(beq_eq_false_iff_ne.mpr e).symm
theorem T8(a b:Str):decide ((Xm a:Key)=Xm b)=decide (a=b):=by
 by_cases e:a=b
 .subst e;simp
 .have h:¬(Xm a:Key)=Xm b:=λq=>e (V1 q);rw[decide_eq_false h,decide_eq_false e]
theorem T9(a:Int)(b:Str):decide ((UZ a:Key)=Xm b)=false:=decide_eq_false (λq=>nomatch q)
theorem Ta(a:Str)(b:Int):decide ((Xm a:Key)=UZ b)=false:=decide_eq_false (λq=>nomatch q)
def YB(prog:Xw)(w:Xn):PySem.KeyKind prog w Key where
 is:=VM
 hash:=keyH w
 inj:=λv a b m z=>by
  rcases U8 m with⟨i,t,rfl,rfl⟩|⟨x,t,rfl,rfl⟩
  .rcases U8 z with⟨j,u,rfl,e⟩|⟨y,u,rfl,e⟩
   .injection e with e1 _;rw[e1]
   .exact nomatch e
  .rcases U8 z with⟨j,u,rfl,e⟩|⟨y,u,rfl,e⟩
   .exact nomatch e
   .injection e with e1 _;rw[e1]
 byValue:=λk v h=>by
  rcases U8 h with⟨i,t,rfl,rfl⟩|⟨x,t,rfl,rfl⟩<;>rfl
 pyHash:=λl h=>by
  rcases U8 l with⟨i,t,rfl,rfl⟩|⟨x,t,rfl,rfl⟩
  .exact wpAny_pyHash_int h
  .exact wpAny_pyHash_str h
 eqBool:=λg l h=>by
  rcases U8 g with⟨i,t,rfl,rfl⟩|⟨x,t,rfl,rfl⟩
  .rcases U8 l with⟨j,u,rfl,rfl⟩|⟨y,u,rfl,rfl⟩
   .rw[T7]at h;exact wpAny_eqBool_int h
   .rw[T9]at h;exact Ip i t y u _ _ _ _ h
  .rcases U8 l with⟨j,u,rfl,rfl⟩|⟨y,u,rfl,rfl⟩
   .rw[Ta]at h;exact Iq x t j u _ _ _ _ h
   .rw[T8]at h;exact wpAny_eqBool_str h
 «strs»:=λk x t v h=>by
  rcases U8 h with⟨i,u,rfl,e⟩|⟨y,u,rfl,e⟩
  .exact nomatch e
  .injection e with e1 _;subst e1;cases v<;>rfl
theorem Tb(prog:Xw)(w:Xn)(i:Int)(t:Tok):(YB prog w).is (.inl i) (.int i t)=true:=T5 i t
theorem Tc(prog:Xw)(w:Xn)(x:Str)(t:Tok):(YB prog w).is (.inr x) (.str x t)=true:=T6 x t
inductive V where
 |non|bl (b:Bool)|int (i:Int)|str (x:Str)|byt (b:Array UInt8)|flt (b:UInt64)|ref (a:Addr)|ty (n:String)
  deriving DecidableEq
noncomputable def RelV:V->X0->Prop
 |.non,u=>u=Xt
 |.bl b,u=>u=Yc b
 |.int i,u=>∃t,u=VF i t
 |.str x,u=>∃t,u=XF x t
 |.byt b,u=>∃t,u=Value.bytes b t
 |.flt b,u=>∃t,u=Co b t
 |.ref a,u=>u=Xo a
 |.ty n,u=>u=XD n
abbrev Vals:List V->List X0->Prop:=Paired RelV
theorem Vals.length(r:Vals xs us):xs.length=us.length:=Paired.length r
theorem Vals.get:∀{xs:List V} {us:List X0} {i:Nat} {x:V},Vals xs us->xs[i]?=some x->∃u,us[i]?=some u/\RelV x u
 |_,_,_,_,.nil,e=>by simp at e
 |_,_,0,_,.cons r _,e=>by simp at e;subst e;exact⟨_,rfl,r⟩
 |_,_,i+1,x,.cons _ t,e=>by
  obtain⟨u,j,l⟩:=Vals.get (i:=i) (x:=x) t (by simpa using e)
  exact⟨u,by simpa using j,l⟩
theorem Vals.set(r:RelV x u):∀{xs:List V} {us:List X0} (i:Nat),Vals xs us->Vals (xs.set i x) (us.set i u)
 |_,_,_,.nil=>.nil
 |_,_,0,.cons _ t=>.cons r t
 |_,_,i+1,.cons q t=>.cons q (Vals.set r i t)
theorem Vals.append:∀{xs ys:List V} {us j:List X0},Vals xs us->Vals ys j->Vals (xs++ys) (us++j)
 |_,_,_,_,.nil,s=>s
 |_,_,_,_,.cons r t,s=>.cons r (Vals.append t s)
theorem Vals.take:∀{xs:List V} {us:List X0} (n:Nat),Vals xs us->Vals (xs.take n) (us.take n)
 |_,_,0,_=>.nil
 |_,_,_+1,.nil=>.nil
 |_,_,n+1,.cons r t=>.cons r (Vals.take n t)
theorem Vals.drop:∀{xs:List V} {us:List X0} (n:Nat),Vals xs us->Vals (xs.drop n) (us.drop n)
 |_,_,0,r=>r
 |_,_,_+1,.nil=>.nil
 |_,_,n+1,.cons _ t=>Vals.drop n t
def RelO:Option V->Option X0->Prop
 |some v,some u=>RelV v u
 |none,none=>True
 |_,_=>False
def KV{j:Type}:List (j×V)->List (j×X0)->Prop:=Paired fun(p:j×V) (q:j×X0)=>p.1=q.1/\RelV p.2 q.2
def kV:Key->V
 |.inl i=>.int i
 |.inr x=>.str x
inductive HO where
 |lst (xs:List V)
 |tup (xs:List V)
 |dK (kvs:List (Key×V))|dT (kvs:List (List Key×V))
 |set (S:Int->Bool)(n:Nat)
 |ins (C dx:Addr)(fs:List (Str×V))
 |own (x:Addr)
 |xd (fs:List (Str×V))
 |met (f x:Addr)
 |rng (lo hi:Int)
 |frz (o:Obj)(u:HO)
 |tbl (ps:Array X0)
 |ext (φ:Heap->Prop)
noncomputable abbrev Hp:=Addr->Option HO
noncomputable def upd(H:Hp)(a:Addr)(o:HO):Hp:=λb=>if b=a then some o else H b
theorem _I{H:Hp}{a:Addr}{o:HO}:upd H a o a=some o:=by unfold upd;rw[if_pos rfl]
theorem XN{H:Hp}{a b:Addr}{o:HO}(h:b≠a):upd H a o b=H b:=by unfold upd;rw[if_neg h]
theorem Iv{H:Hp}{a b:Addr}{o u:HO}(h:H a=some o)(h':H b=some u)(d:o≠u):a≠b:=by
 intro e;subst e;rw[h]at h';exact d (Yd h')
theorem V2{H:Hp}{a b:Addr}{o:HO}(h:H a=some o)(h':H b=none):a≠b:=by
 intro e;subst e;rw[h]at h';cases h'
section
variable(P:Xw)(w:Xn)
def ObjOk(H:Hp)(h:Heap)(a:Addr):HO->Prop
 |.lst l=>l.length<=sizeLine/\∃(j:List X0) (n:Nat),Vals l j/\h.get? a=some {cls:=.type "list",data:=.seq j.toArray n}
 |.tup l=>l.length<=sizeLine/\∃j:List X0,Vals l j/\IsTup h a j.toArray/\∃o,h.get? a=some o/\o.dict=none
 |.dK kvs=>kvs.length<=sizeLine/\(a==YM)=false/\∃z,KV kvs z/\h.DictOf (YB P w) a z
 |.dT kvs=>kvs.length<=sizeLine/\(a==YM)=false/\∃l:List (List Key×Addr×X0),
   Paired (fun(p:List Key×V) (q:List Key×Addr×X0)=>p.1=q.1/\H q.2.1=some (.tup (p.1.map kV))/\RelV p.2 q.2.2) kvs l/\
   ∃o m c,h.get? a=some o/\o.ExactDict/\o.data=.dict m c/\m.toList=l.map (entryOfKey (tupleKind (YB P w)))/\(l.map (·.1)).Nodup
 |.set S n=>h.SetOf (intKind P w) a S n
 |.ins C dx fs=>H dx=some (.own a)/\fs.length<=1000/\dx≠a/\h.get? a=some (Ut C dx)/\
   ∃y,h.Ns1 dx y/\(∀f,RelO (fs.lookup f) (y f))/\Ef y (fs.map (·.1))
 |.own _=>∃o,h.get? a=some o
 |.xd fs=>∃y,h.Ns1 a y/\∀f,RelO (fs.lookup f) (y f)
 |.rng lo hi=>∃t u v,h.get? a=some {cls:=.type "range",data:=.fields #[.int lo t,.int hi u,.int 1 v]}
 |.frz o u=>h.get? a=some o/\ObjOk H h a u
 |.tbl ps=>h.get? a=some {cls:=.none,data:=.fields ps}
 |.met f x=>h.get? a=some (E5 (.ref f) (.ref x))
 |.ext φ=>φ h/\(∃o,h.get? a=some o)/\∀g d:Heap,φ g->(∀o,g.get? a=some o->d.get? a=some o)->φ d
def HOk(H:Hp)(h:Heap):Prop:=∀a o,H a=some o->ObjOk P w H h a o
end
section
variable{P:Xw}{w:Xn}{H H':Hp}{h h':Heap}{a:Addr}{o:HO}
theorem ObjOk.lt(x:ObjOk P w H h a o):a<h.objs.size:=by
 cases o with
 |lst l=>obtain⟨_,_,_,_,e⟩:=x;exact Xv e
 |tup l=>obtain⟨_,_,_,p⟩:=x;exact p.1.lt
 |dK j=>obtain⟨_,_,_,_,o,_,_,e,_⟩:=x;exact Xv e
 |dT j=>obtain⟨_,_,_,_,o,_,_,e,_⟩:=x;exact Xv e
 |set S n=>obtain⟨o,_,_,_,e,_⟩:=x;exact Xv e
 |ins C z fs=>obtain⟨_,_,_,e,_⟩:=x;exact Xv e
 |own y=>obtain⟨_,e⟩:=x;exact Xv e
 |xd fs=>obtain⟨_,⟨_,_,_,e,_⟩,_⟩:=x;exact Xv e
 |rng lo m=>obtain⟨_,_,_,e⟩:=x;exact Xv e
 |frz g u=>obtain⟨e,_⟩:=x;exact Xv e
 |tbl d=>exact Xv (show h.get? a=some _ from x)
 |met f y=>exact Xv (show h.get? a=some _ from x)
 |ext c=>obtain⟨_,⟨_,e⟩,_⟩:=x;exact Xv e
theorem Paired.mapP{u y:Type}{F G:u->y->Prop}:∀{j:List u} {l:List y},Paired F j l->(∀a b,F a b->G a b)->Paired G j l
 |_,_,.nil,_=>.nil
 |_,_,.cons r t,f=>.cons (f _ _ r) (Paired.mapP t f)
theorem ObjOk.stay(x:ObjOk P w H h a o)(k:∀b u,(b=a\/H b=some (.own a))->h.get? b=some u->h'.get? b=some u)
  (U:∀b,H b=some (.own a)->H' b=some (.own a))(W:∀b xs,H b=some (.tup xs)->H' b=some (.tup xs)):ObjOk P w H' h' a o:=by
 induction o with
 |lst xs=>obtain⟨z,g,n,r,e⟩:=x;exact⟨z,g,n,r,k _ _ (.inl rfl) e⟩
 |tup xs=>obtain⟨z,g,r,⟨j,e,c⟩,Y,L,Z⟩:=x;exact⟨z,g,r,⟨j,k _ _ (.inl rfl) e,c⟩,Y,k _ _ (.inl rfl) L,Z⟩
 |dK N=>obtain⟨z,y,A,r,j,l,m,e,c⟩:=x;exact⟨z,y,A,r,j,l,m,k _ _ (.inl rfl) e,c⟩
 |dT N=>
  obtain⟨z,y,xs,r,j,l,m,e,c⟩:=x;exact⟨z,y,xs,Paired.mapP r λp q z=>⟨z.1,W _ _ z.2.1,z.2.2⟩,j,l,m,k _ _ (.inl rfl) e,c⟩
 |set S n=>obtain⟨j,l,m,t,e,c⟩:=x;exact⟨j,l,m,t,k _ _ (.inl rfl) e,c⟩
 |ins C E fs=>
  obtain⟨d,z,B,e,O,⟨R,l,m,L,c⟩,r⟩:=x;exact⟨U _ d,z,B,k _ _ (.inl rfl) e,O,⟨R,l,m,k _ _ (.inr d) L,c⟩,r⟩
 |own y=>obtain⟨j,e⟩:=x;exact⟨j,k _ _ (.inl rfl) e⟩
 |xd fs=>obtain⟨O,⟨R,l,m,e,c⟩,r⟩:=x;exact⟨O,⟨R,l,m,k _ _ (.inl rfl) e,c⟩,r⟩
 |rng lo F=>obtain⟨t,u,v,e⟩:=x;exact⟨t,u,v,k _ _ (.inl rfl) e⟩
 |frz j u D=>obtain⟨e,q⟩:=x;exact⟨k _ _ (.inl rfl) e,D q⟩
 |tbl T=>
  have e:h.get? a=some {cls:=.none,data:=.fields T}:=x;show h'.get? a=some {cls:=.none,data:=.fields T};exact k a _ (.inl rfl) e
 |met f y=>
  have e:h.get? a=some (E5 (.ref f) (.ref y)):=x;show h'.get? a=some (E5 (.ref f) (.ref y));exact k a _ (.inl rfl) e
 |ext G=>obtain⟨p,⟨o,e⟩,st⟩:=x;exact⟨st _ _ p λo q=>k _ _ (.inl rfl) q,⟨o,k _ _ (.inl rfl) e⟩,st⟩
theorem HOk.lt(x:HOk P w H h)(e:H a=some o):a<h.objs.size:=(x a o e).lt
theorem HOk.fresh(x:HOk P w H h)(e:h.objs.size<=a):H a=none:=by
 cases q:H a with
 |none=>rfl
 |some u=>exact absurd (Yz (x.lt q) e) (Uv _)
theorem HOk.kept(x:HOk P w H h)(k:∀b u,h.get? b=some u->h'.get? b=some u):HOk P w H h':=λa o e=>
 (x a o e).stay (λb u _ q=>k b u q) (λ_ q=>q) λ_ _ q=>q
theorem HOk.laid(x:HOk P w H h)(k:∀b u,h.get? b=some u->h'.get? b=some u)(l:h.objs.size<=a)(new:ObjOk P w (upd H a o) h' a o):HOk P w (upd H a o) h':=λb u e=>by
 have j:=x.fresh l;by_cases hb:b=a
 .subst hb;rw[_I]at e;cases e;exact new
 .rw[XN hb]at e;exact(x b u e).stay (λc v _ q=>k c v q) (λc q=>by rw[XN (V2 q j)];exact q) λc y q=>by rw[XN (V2 q j)];exact q
end
noncomputable def Rd(H:Hp)(a:Addr)(u:HO):Prop:=H a=some u\/∃o,H a=some (.frz o u)
theorem Rd.ok(r:Rd H a u)(x:HOk P w H h):ObjOk P w H h a u:=by
 rcases r with r|⟨o,r⟩
 .exact x a u r
 .obtain⟨_,q⟩:=x a _ r;exact q
noncomputable def Mut:Option HO->Prop
 |some (.lst _)=>True
 |some (.dK _)=>True
 |some (.dT _)=>True
 |some (.set _ _)=>True
 |some (.ins _ _ _)=>True
 |some (.ext _)=>True
 |_=>False
section
variable{P:Xw}{w:Xn}{H:Hp}{h h':Heap}{x e:Addr}{o':HO}
theorem HOk.write(ok:HOk P w H h)(m:Mut (H x))(p:e=x\/H e=some (.own x))(k:∀b u,b≠e->h.get? b=some u->h'.get? b=some u)(f:∃u,h'.get? e=some u)
  (new:ObjOk P w (upd H x o') h' x o'):HOk P w (upd H x o') h':=λb u q=>by
 have j:∀c y,H c=some (.own y)->c≠x:=λc y r z=>by subst z;rw[r]at m;exact m
 have l:∀c g,H c=some (.tup g)->c≠x:=λc g r z=>by subst z;rw[r]at m;exact m
 by_cases hb:b=x
 .subst hb;rw[_I]at q;cases q;exact new
 .rw[XN hb]at q;by_cases hbe:b=e
  .have L:H b=some (.own x):=by
    rcases p with z|z
    .exact absurd (hbe.trans z) hb
    .rw[hbe];exact z
   rw[q]at L;cases L;obtain⟨v,N⟩:=f;exact⟨v,by rw[hbe];exact N⟩
  .refine(ok b u q).stay (λc v d r=>k c v ?_ r) (λc r=>by rw[XN (j c b r)];exact r) λc g r=>by rw[XN (l c g r)];exact r
   rcases d with rfl|d
   .exact hbe
   .rintro rfl;rcases p with z|z
    .exact j c b d z
    .rw[d]at z;cases z;exact hb rfl
end
structure Un (fs ex:List Addr)(H H':Hp)(h h':Heap):Prop where
 keep:∀b o,h.get? b=some o->H b=none->b∉fs->b∉ex->h'.get? b=some o
 slot:∀b o,h.get? b=some o->H b=none->b∈fs->b∉ex->∃sl,h'.get? b=some {o with slots:=sl}
 free:∀b o,h.get? b=some o->H b=none->b∉ex->H' b=none
 there:∀b o,h.get? b=some o->b∉ex->∃o',h'.get? b=some o'
 tups:∀b xs,H b=some (.tup xs)->H' b=some (.tup xs)
 frzs:∀b o u,H b=some (.frz o u)->H' b=some (.frz o u)
 tbls:∀b ps,H b=some (.tbl ps)->∃more,H' b=some (.tbl (ps++more))
section
variable{fs fs' ex ex':List Addr}{H H1 H2:Hp}{h h1 h2 h':Heap}{a x e:Addr}{o:HO}
theorem Un.any(u:Un fs ex H H1 h h1)(q:h.get? b=some ob)(n:H b=none)(j:b∉ex):∃l,h1.get? b=some {ob with slots:=l}:=by
 by_cases hb:b∈fs
 .exact u.slot b ob q n hb j
 .exact⟨ob.slots,u.keep b ob q n hb j⟩
theorem Un.kept(k:∀b u,h.get? b=some u->h'.get? b=some u):Un fs ex H H h h':=
 ⟨λb j q _ _ _=>k b j q,λb j q _ _ _=>⟨j.slots,k b j q⟩,λ_ _ _ n _=>n,λb j q _=>⟨j,k b j q⟩,λ_ _ q=>q,λ_ _ _ q=>q,λ_ l q=>⟨#[],by rw[q];simp⟩⟩
theorem Un.refl:Un fs ex H H h h:=Un.kept λ_ _ q=>q
theorem Un.laid(k:∀b u,h.get? b=some u->h'.get? b=some u)(l:h.objs.size<=a)(j:H a=none):Un fs ex H (upd H a o) h h' where
 keep:=λb u q _ _ _=>k b u q
 slot:=λb u q _ _ _=>⟨u.slots,k b u q⟩
 free:=λb u q n _=>by rw[XN (XB (Yz (Xv q) l))];exact n
 there:=λb u q _=>⟨u,k b u q⟩
 tups:=λb w q=>by rw[XN (V2 q j)];exact q
 frzs:=λb u w q=>by rw[XN (V2 q j)];exact q
 tbls:=λb y q=>⟨#[],by rw[XN (V2 q j),q];simp⟩
theorem Un.write(j:Mut (H x))(g:e=x\/H e=some (.own x))(k:∀b u,b≠e->h.get? b=some u->h'.get? b=some u)(l:∃u,h'.get? e=some u):Un fs ex H (upd H x o) h h':=by
 have y:∀b,H b=none->b≠x:=λb n z=>by subst z;rw[n]at j;exact j
 have m:∀b,H b=none->b≠e:=λb n z=>by
  subst z;rcases g with r|r
  .exact y b n r
  .rw[n]at r;cases r
 have w:∀b u,H b=some u->¬Mut (some u)->b≠x:=λb u q d z=>by subst z;rw[q]at j;exact d j
 refine⟨λb u q n _ _=>k b u (m b n) q,λb u q n _ _=>⟨u.slots,k b u (m b n) q⟩,λb u q n _=>by rw[XN (y b n)];exact n,λb u q _=>?_,
  λb c q=>by rw[XN (w b _ q λz=>z)];exact q,λb u c q=>by rw[XN (w b _ q λz=>z)];exact q,λb f q=>⟨#[],by rw[XN (w b _ q λz=>z),q];simp⟩⟩
 by_cases hbe:b=e
 .subst hbe;exact l
 .exact⟨u,k b u hbe q⟩
end
noncomputable def trk(h:Heap)(H:Hp):List Addr:=(Xs h.objs.size).filter λa=>(H a).isSome
def hidT(h:Heap)(H:Hp):Heap:=PySem.W.hideAll h (trk h H)
theorem Td(h:Heap)(H:Hp):(hidT h H).objs.size=h.objs.size:=PySem.W.hideAll_size _ _
theorem Te(e:h.get? b=some o)(n:H b=none):(hidT h H).get? b=some o:=
 PySem.W.hideAll_get _ e λj=>by
  have q:(H b).isSome=true:=(Vt.mp j).2;rw[n]at q;simp at q
theorem Tf(e:(hidT h H).get? b=some o):h.get? b=some o/\H b=none:=by
 have j:h.get? b=some o:=PySem.W.of_hideAll (trk h H) e;refine⟨j,?_⟩;cases q:H b with
 |none=>rfl
 |some x=>
  have l:b∈trk h H:=Vt.mpr ⟨Z3.mpr (Xv j),by simp[q]⟩
  have z:(hidT h H).get? b=none:=PySem.W.hideAll_none (trk h H) l;rw[z]at e;cases e
noncomputable def Tg(g h:Heap)(L:Addr):List (Addr×Obj):=(Xs h.objs.size).filterMap λa=>if a=L\/(g.get? a).isSome=true then none else(h.get? a).map λo=>(a,o)
def rest(g h:Heap)(L d:Addr):List (Addr×Obj):=(Tg g h L).filter λp=>decide (p.1≠d)
structure Mod (K:X4)(mg:Str->Option X0)(base:Heap):Prop where
 kin:K.In base
 glob:base.Ns Xp mg
 blt:∃mb,base.Ns builtinsNs mb/\∀x:Str,x≠"__name__"->mb x=YH x
 nolimit:base.NoLimit
structure Cx where
 prog:Xw
 w:Xn
 K:X4
 mg:Str->Option X0
 base:Heap
 A:Xz
 N:List Str
 s₀:X2
 H₀:Hp
 env:Env
 outer:List Env
 stack:List Env
 ex:List Addr
 fn:Str->Bool
 calm:Bool
 pn:List (Addr×Obj)
 xe:X0->X2->Prop
noncomputable def frs(l:List Env):List Addr:=l.filterMap (·.frame)
abbrev Cx.fs(X:Cx):List Addr:=frs X.outer
noncomputable def Vis(j:Scope)(x:Str):Prop:=j.names.lookup x=some .local\/j.names.lookup x=some .cell\/j.names.lookup x=some .free
noncomputable def Loc(j:Scope)(x:Str):Prop:=j.names.lookup x=some .local\/j.names.lookup x=some .cell
noncomputable def Look(env:Env)(h:Heap)(m:Str->Option X0)(x:Str)(u:X0):Prop:=
 (env.kindOf x=some .local/\m x=some u)\/((env.kindOf x=some .cell\/env.kindOf x=some .free)/\∃c,env.cells.lookup x=some c/\h.IsCell c (some u))
structure Cx.Ok (X:Cx):Prop where
 mod:Mod X.K X.mg X.base
 kind:X.env.scope.kind=.function
 glob:X.env.globals=Xp
 blt:X.env.builtins=builtinsNs
 above:X.s₀.heap.objs.size<=X.env.locals
 inj:∀x y c,X.env.cells.lookup x=some c->X.env.cells.lookup y=some c->x=y
 has:∀x,(X.env.kindOf x=some .cell\/X.env.kindOf x=some .free)->∃c,X.env.cells.lookup x=some c
 cab:∀x c,X.fn x=true->X.env.cells.lookup x=some c->X.s₀.heap.objs.size<=c
 hd:X.calm=true->X.A.handled=none
 frames:X.A.frames=some X.stack
 stk:X.stack=X.outer\/(X.stack=X.env::X.outer/\X.env.frame=some X.env.locals)
 exf:∀b∈X.ex,b≠X.env.locals/\∀x c,X.env.cells.lookup x=some c->c≠b
 bs:∀b o,X.base.get? b=some o->X.s₀.heap.get? b=some o/\X.H₀ b=none
 bsz:X.base.objs.size<=X.s₀.heap.objs.size
 noex:∀b o,X.base.get? b=some o->b∉X.ex
 exfs:∀b∈X.ex,b∉X.fs
 funs:X.s₀.heap.FunFrames X.base X.outer
 frf:∀b∈X.fs,X.H₀ b=none
structure Inv (X:Cx)(pq:List (Addr×Obj))(σ:List (Option V))(H:Hp)(s:X2):Prop where
 ok:X.Ok
 os:s.os=X.s₀.os
 bare:AllBare s.gens
 base:Un X.fs X.ex X.H₀ H X.s₀.heap s.heap
 loc:∃m,s.heap.Ns X.env.locals m/\∀(i:Nat)(x:Str)(v:V),X.N[i]?=some x->σ[i]?=some (some v)->Vis X.env.scope x->∃u,RelV v u/\Look X.env s.heap m x u
 cell:∀x c,X.env.cells.lookup x=some c->∃v,s.heap.IsCell c v
 free:H X.env.locals=none
 freeC:∀x c,X.env.cells.lookup x=some c->H c=none
 pin:∀p∈X.pn++pq,s.heap.get? p.1=some p.2/\H p.1=none/\p.1≠X.env.locals/\p.1∉X.fs/\∀v,p.2.data≠.cell v
 hok:HOk X.prog X.w H s.heap
 len:σ.length=X.N.length
section
variable{X:Cx}{pq:List (Addr×Obj)}{σ:List (Option V)}{H H':Hp}{s:X2}{h':Heap}
theorem Cx.Ok.nofr(ok:X.Ok)(e:X.base.get? b=some o):b∉X.fs:=λj=>by
 have:=(ok.funs.mem j).1;rw[e]at this;cases this
theorem Inv.bs(I:Inv X pq σ H s):∀b o,X.base.get? b=some o->s.heap.get? b=some o/\H b=none:=λb o e=>
 ⟨I.base.keep b o (I.ok.bs b o e).1 (I.ok.bs b o e).2 (I.ok.nofr e) (I.ok.noex b o e),I.base.free b o (I.ok.bs b o e).1 (I.ok.bs b o e).2 (I.ok.noex b o e)⟩
theorem Inv.bk(I:Inv X pq σ H s):∀b o,X.base.get? b=some o->s.heap.get? b=some o:=λb o e=>(I.bs b o e).1
theorem Inv.mod(I:Inv X pq σ H s):Mod X.K X.mg X.base:=I.ok.mod
theorem Inv.kIn(I:Inv X pq σ H s):X.K.In s.heap:=I.ok.mod.kin.keeps I.bk
theorem Inv.lt(I:Inv X pq σ H s):X.env.locals<s.heap.objs.size:=let⟨_,hn,_⟩:=I.loc;hn.lt
theorem Inv.sz(I:Inv X pq σ H s):X.s₀.heap.objs.size<=s.heap.objs.size:=Y4 I.ok.above (Cg I.lt)
theorem Inv.nofs(I:Inv X pq σ H s)(h:s.heap.objs.size<=a):a∉X.fs:=λj=>by
 obtain⟨_,o,l,_⟩:=I.ok.funs.mem j;exact absurd (Yz (Xv l) (Y4 I.sz h)) (Uv _)
theorem Inv.cne(I:Inv X pq σ H s):∀x c,X.env.cells.lookup x=some c->c≠X.env.locals:=λx c e z=>by
 obtain⟨v,o,u,w⟩:=I.cell x c e;obtain⟨m,⟨y,g,d,j,l,_⟩,_⟩:=I.loc;rw[z,j]at u;cases u;rw[l]at w;cases w
theorem Inv.funs(I:Inv X pq σ H s):s.heap.FunFrames X.base X.outer:=by
 have all:∀(l:List Env),(∀b∈frs l,b∈X.fs)->X.s₀.heap.FunFrames X.base l->s.heap.FunFrames X.base l:=by
  intro l
  induction l with
  |nil=>intro _ _;trivial
  |cons m r g=>
   intro y d;obtain⟨c,⟨L,o,j,f,q,p⟩,N⟩:=d;have u:L∈X.fs:=y L (by unfold frs;rw[DT,j];exact Yb)
   obtain⟨O,e⟩:=I.base.slot L o q (I.ok.frf L u) u λz=>I.ok.exfs L z u;exact⟨c,⟨L,_,j,f,e,p⟩,g (λb w=>y b (by unfold frs;rw[DT,j];exact XS _ w)) N⟩
 exact all X.outer (λ_ w=>w) I.ok.funs
theorem Inv.stack(I:Inv X pq σ H s):s.heap.FunFrames X.base X.stack:=by
 rcases I.ok.stk with e|⟨e,j⟩
 .rw[e];exact I.funs
 .rw[e];obtain⟨m,l,_⟩:=I.loc;refine .cons (by rw[I.ok.kind];decide) j l ?_ I.funs
  exact Heap.get?_none_of_le (Y4 I.ok.bsz I.ok.above)
theorem Inv.stkSub(I:Inv X pq σ H s):∀b∈frs X.stack,b∈X.env.locals::X.fs:=λb j=>by
 rcases I.ok.stk with e|⟨e,l⟩
 .rw[e]at j;exact XS _ j
 .rw[e]at j;unfold frs at j;rw[DT,l]at j;exact j
theorem Inv.stkFree(I:Inv X pq σ H s):∀b∈frs X.stack,H b=none:=λb j=>by
 rcases Xl.mp (I.stkSub b j)with e|j
 .rw[e];exact I.free
 .obtain⟨_,o,l,_⟩:=I.ok.funs.mem j;exact I.base.free b o l (I.ok.frf b j) λz=>I.ok.exfs b z j
theorem Inv.step{g':Array GenState}{t':Nat}{d':Drawn}{ch:List Addr}(I:Inv X pq σ H s)
  (w:∀b∈ch,(b∈X.ex\/X.s₀.heap.objs.size<=b)/\b≠X.env.locals/\(∀x c,X.env.cells.lookup x=some c->c≠b)/\∀p∈X.pn++pq,p.1≠b)
  (keep:∀b o,b≠X.env.locals->b∉X.fs->b∉ch->s.heap.get? b=some o->H b=none->h'.get? b=some o)
  (N:∀b o,b≠X.env.locals->b∈X.fs->b∉ch->s.heap.get? b=some o->H b=none->∃C,h'.get? b=some {o with slots:=C})(free:∀b o,b∉ch->s.heap.get? b=some o->H b=none->H' b=none)
  (O:∀b o,b∉ch->s.heap.get? b=some o->∃T,h'.get? b=some T)
  (U:∀b xs,H b=some (.tup xs)->H' b=some (.tup xs))(W:∀b o u,H b=some (.frz o u)->H' b=some (.frz o u))(Y:∀b ps,H b=some (.tbl ps)->∃Z,H' b=some (.tbl (ps++Z)))
  (Q:∀m,s.heap.Ns X.env.locals m->h'.Ns X.env.locals m)(D:HOk X.prog X.w H' h')(S:AllBare g'):
  Inv X pq σ H' {s with heap:=h',gens:=g',drawn:=d',toks:=t'}:=by
 have A:∀b o,X.s₀.heap.get? b=some o->b≠X.env.locals:=λb o e=>XB (Yz (Xv e) I.ok.above);have f:∀b o,X.s₀.heap.get? b=some o->b∉X.ex->b∉ch:=λb o e j P=>by
  rcases(w b P).1 with z|z
  .exact j z
  .exact absurd (Yz (Xv e) z) (Uv _)
 have y:∀x c,X.env.cells.lookup x=some c->∀v,s.heap.IsCell c v->h'.IsCell c v:=λx c e v ⟨o,R,E⟩=>by
  have g:c∉ch:=λz=>(w c z).2.2.1 x c e rfl;by_cases hc:c∈X.fs
  .obtain⟨C,q⟩:=N c o (I.cne x c e) hc g R (I.freeC x c e);exact⟨_,q,E⟩
  .exact⟨o,keep c o (I.cne x c e) hc g R (I.freeC x c e),E⟩
 refine⟨I.ok,I.os,S,⟨λb o e n P j=>?_,λb o e n P j=>?_,λb o e n j=>?_,λb o e j=>?_,λb xs e=>U b xs (I.base.tups b xs e),λb o xs e=>W b o xs (I.base.frzs b o xs e),λb ps e=>?_⟩,?_,λx c e=>?_,?_,λx c e=>?_,λp G=>?_,D,I.len⟩
 .exact keep b o (A b o e) P (f b o e j) (I.base.keep b o e n P j) (I.base.free b o e n j)
 .obtain⟨C,L⟩:=I.base.slot b o e n P j;obtain⟨F,B⟩:=N b _ (A b o e) P (f b o e j) L (I.base.free b o e n j);exact⟨F,B⟩
 .obtain⟨T,L⟩:=I.base.there b o e j;exact free b T (f b o e j) L (I.base.free b o e n j)
 .obtain⟨T,L⟩:=I.base.there b o e j;exact O b T (f b o e j) L
 .obtain⟨h,L⟩:=I.base.tbls b ps e;obtain⟨a,B⟩:=Y b _ L;exact⟨h++a,by rw[B,Array.append_assoc]⟩
 .obtain⟨m,hn,hl⟩:=I.loc;refine⟨m,Q m hn,λi x v L B e3=>?_⟩;obtain⟨u,r,l⟩:=hl i x v L B e3;refine⟨u,r,?_⟩;rcases l with l|⟨k,c,e,z⟩
  .exact .inl l
  .exact .inr ⟨k,c,e,y x c e _ z⟩
 .obtain⟨v,z⟩:=I.cell x c e;exact⟨v,y x c e v z⟩
 .obtain⟨m,⟨o,_,_,R,_⟩,_⟩:=I.loc;exact free _ o (λz=>(w _ z).2.1 rfl) R I.free
 .obtain⟨v,o,R,E⟩:=I.cell x c e;exact free c o (λz=>(w c z).2.2.1 x c e rfl) R (I.freeC x c e)
 .obtain⟨e,n,J,M,d⟩:=I.pin p G;have g:p.1∉ch:=λz=>(w p.1 z).2.2.2 p G rfl;exact⟨keep p.1 p.2 J M g e n,free p.1 p.2 g e n,J,M,d⟩
theorem Inv.un{t':Nat}(I:Inv X pq σ H s)(u:Un X.fs [] H H' s.heap h')(l:HOk X.prog X.w H' h'):Inv X pq σ H' {s with heap:=h',toks:=t'}:=by
 obtain⟨m,⟨o,p,L,d,r⟩,_⟩:=id I.loc;obtain⟨N,c⟩:=u.any d I.free (by simp)
 exact I.step (g':=s.gens) (d':=s.drawn) (ch:=[]) (λ_ z=>nomatch z) (λb o _ w _ e n=>u.keep b o e n w (by simp)) (λb o _ w _ e n=>u.slot b o e n w (by simp)) (λb o _ e n=>u.free b o e n (by simp)) (λb o _ e=>u.there b o e (by simp)) u.tups u.frzs u.tbls (λO f=>by
  obtain⟨P,y,g,j,q⟩:=f;rw[d]at j;cases j;exact⟨_,y,g,c,q⟩) l I.bare
theorem Inv.call{g':Array GenState}{t':Nat}{d':Drawn}{ch:List Addr}(I:Inv X pq σ H s)(u:Un (frs X.stack) ch H H' s.heap h')(y:HOk X.prog X.w H' h')(L:AllBare g')
  (l:∀b∈ch,(b∈X.ex\/X.s₀.heap.objs.size<=b)/\b≠X.env.locals/\(∀x c,X.env.cells.lookup x=some c->c≠b)/\∀p∈X.pn++pq,p.1≠b):
  Inv X pq σ H' {s with heap:=h',gens:=g',drawn:=d',toks:=t'}:=by
 obtain⟨m,⟨o,R,T,q,r⟩,_⟩:=id I.loc;obtain⟨U,g⟩:=u.any q I.free λz=>(l _ z).2.1 rfl;exact I.step (ch:=ch) l (λb o g N j e n=>u.keep b o e n (λz=>(Xl.mp (I.stkSub b z)).elim g N) j) (λb o _ _ j e n=>u.any e n j) (λb o j e n=>u.free b o e n j) (λb o j e=>u.there b o e j) u.tups u.frzs u.tbls (λW O=>by
  obtain⟨Y,d,f,w,P⟩:=O;rw[q]at w;cases w;exact⟨_,d,f,g,P⟩) y L
theorem Inv.turned{t':Nat}{it:Addr}(I:Inv X pq σ H s)(k:∀b o,b≠it->s.heap.get? b=some o->h'.get? b=some o)(y:H it=none)(w:it≠X.env.locals)
  (h1:it∈X.ex\/X.s₀.heap.objs.size<=it)(h2:∀x c,X.env.cells.lookup x=some c->c≠it)(h3:∀p∈X.pn++pq,p.1≠it):Inv X pq σ H {s with heap:=h',toks:=t'}:=by
 have l:∀b u,H b=some u->b≠it:=λb u e z=>by rw[z,y]at e;cases e
 refine I.step (g':=s.gens) (d':=s.drawn) (ch:=[it]) (λb g=>?_) (λb o _ _ j e _=>k b o (λz=>j (by simp[z])) e) (λb o _ _ j e _=>⟨o.slots,k b o (λz=>j (by simp[z])) e⟩) (λ_ _ _ _ n=>n)
  (λb o j e=>⟨o,k b o (λz=>j (by simp[z])) e⟩) (λ_ _ e=>e) (λ_ _ _ e=>e) (λb O e=>⟨#[],by rw[e];simp⟩) (λm d=>?_) (λb u e=>?_) I.bare
 .have e:b=it:=by simpa using g
  subst e;exact⟨h1,w,h2,h3⟩
 .obtain⟨o,f,L,N,r⟩:=d;exact⟨o,f,L,k _ o (XM w) N,r⟩
 .refine(I.hok b u e).stay (λc v j q=>k c v ?_ q) (λ_ q=>q) λ_ _ q=>q;rcases j with z|z
  .rw[z];exact l b u e
  .exact l c _ z
theorem Inv.tok(I:Inv X pq σ H s)(t:Nat):Inv X pq σ H {s with toks:=t}:=I.un (h':=s.heap) (t':=t) Un.refl I.hok
theorem Inv.kept(I:Inv X pq σ H s)(k:∀b u,s.heap.get? b=some u->h'.get? b=some u):Inv X pq σ H {s with heap:=h',toks:=t'}:=I.un (Un.kept k) (I.hok.kept k)
theorem Inv.laid(I:Inv X pq σ H s)(k:∀b u,s.heap.get? b=some u->h'.get? b=some u)(j:s.heap.objs.size<=a)(new:ObjOk X.prog X.w (upd H a o) h' a o):
  Inv X pq σ (upd H a o) {s with heap:=h',toks:=t'}:=I.un (Un.laid k j (I.hok.fresh j)) (I.hok.laid k j new)
theorem Inv.write(I:Inv X pq σ H s)(l:Mut (H x))(w:e=x\/H e=some (.own x))(k:∀b u,b≠e->s.heap.get? b=some u->h'.get? b=some u)(j:∃u,h'.get? e=some u)
  (new:ObjOk X.prog X.w (upd H x o) h' x o):Inv X pq σ (upd H x o) {s with heap:=h',toks:=t'}:=I.un (Un.write l w k j) (I.hok.write l w k j new)
theorem Inv.weak(I:Inv X pq σ H s)(j:σ'.length=σ.length)(w:∀(i:Nat)v,σ'[i]?=some (some v)->σ[i]?=some (some v)):Inv X pq σ' H s:=
 ⟨I.ok,I.os,I.bare,I.base,let⟨m,hn,hl'⟩:=I.loc;⟨m,hn,λi x v l u y=>hl' i x v l (w i v u) y⟩,I.cell,I.free,I.freeC,I.pin,I.hok,j.trans I.len⟩
theorem Inv.pins_of(I:Inv X pq σ H s)(h:∀p∈pins',s.heap.get? p.1=some p.2/\H p.1=none/\p.1≠X.env.locals/\p.1∉X.fs/\∀v,p.2.data≠.cell v):Inv X pins' σ H s:=
 ⟨I.ok,I.os,I.bare,I.base,I.loc,I.cell,I.free,I.freeC,λp j=>(Yt.mp j).elim (λz=>I.pin p (List.mem_append_left _ z)) (h p),I.hok,I.len⟩
theorem Iw{N:List Str}(l:N.Nodup){i j:Nat}{x:Str}(a:N[i]?=some x)(b:N[j]?=some x):i=j:=by
 obtain⟨y,u⟩:=XE.mp a;obtain⟨z,w⟩:=XE.mp b;exact(BZ l).mp (u.trans w.symm)
theorem Ix{M:Model}{A:Xz}{E:X0->X2->Prop}{i:Nat}{x:Str}{v:V}{u:X0}{Q:Unit->X2->Prop}(I:Inv X pq σ H s)(hN:X.N.Nodup)(U:X.N[i]?=some x)(L:Loc X.env.scope x)(r:RelV v u)
  (h:∀G,Inv X pq (σ.set i (some v)) H G->(∃a,U2 a s.heap G.heap/\(a=X.env.locals\/X.env.cells.lookup x=some a))->Q () G)(hf:X.fn x=true\/X.env.scope.names.lookup x=some .local:=by first|exact .inl rfl|exact .inr rfl|assumption):X3 M A (storeName X.env x u) Q E s:=by
 obtain⟨m,J,hl⟩:=id I.loc;have W:(X.env.scope.kind==.class||(X.env.scope.kind==.module&&X.env.locals != X.env.globals))=false:=by rw[I.ok.kind];rfl
 have O:i<σ.length:=by rw[I.len];exact(XE.mp U).1
 have cne:=I.cne;have w:∀{a:Addr} {h':Heap},(∃o,s.heap.get? a=some o/\H a=none)->U2 a s.heap h'->HOk X.prog X.w H h':=fun{a h'} ha l b ob e=>by
  obtain⟨_,_,jI⟩:=ha;refine(I.hok b ob e).stay (λc C f q=>(l.2 c ?_).trans q) (λ_ q=>q) λ_ _ q=>q;rintro rfl;rcases f with rfl|f
  .rw[jI]at e;cases e
  .rw[jI]at f;cases f
 rcases L with P|P
 .refine wpAny_storeName_local P J (λh' S l=>?_) W;obtain⟨oL,_,_,hoL,_⟩:=id J;refine h _ ⟨I.ok,I.os,I.bare,⟨λb o e n R L=>?_,λb o e n R L=>?_,I.base.free,λb o e L=>?_,I.base.tups,I.base.frzs,I.base.tbls⟩,⟨_,S,λj y v' g N e3=>?_⟩,λy c e=>?_,I.free,I.freeC,λp hp=>?_,w ⟨oL,hoL,I.free⟩ l,by simpa using I.len⟩ ⟨_,l,.inl rfl⟩
  .exact(l.2 b (XB (Yz (Xv e) I.ok.above))).trans (I.base.keep b o e n R L)
  .obtain⟨sl,g⟩:=I.base.slot b o e n R L;exact⟨sl,(l.2 b (XB (Yz (Xv e) I.ok.above))).trans g⟩
  .obtain⟨o',g⟩:=I.base.there b o e L;exact⟨o',(l.2 b (XB (Yz (Xv e) I.ok.above))).trans g⟩
  .by_cases hj:j=i
   .subst hj;rw[U]at g;cases g;rw[DS O]at N;cases N;exact⟨u,r,.inl ⟨P,by simp⟩⟩
   .rw[BV (XM hj)]at N;obtain⟨u',r',q⟩:=hl j y v' g N e3;refine⟨u',r',?_⟩;rcases q with⟨k,e⟩|⟨k,c,e,z⟩
    .refine .inl ⟨k,?_⟩;have:y≠x:=λe=>hj (Iw hN g (e▸U));simp[this,e]
    .exact .inr ⟨k,c,e,z.sameBut l (cne y c e)⟩
  .obtain⟨C,z⟩:=I.cell y c e;exact⟨C,z.sameBut l (cne y c e)⟩
  .obtain⟨e,n,D,nf,d⟩:=I.pin p hp;exact⟨(l.2 p.1 D).trans e,n,D,nf,d⟩
 .have T:X.fn x=true:=by
   rcases hf with z|z
   .exact z
   .rw[z]at P;cases P
  obtain⟨c,f⟩:=I.ok.has x (.inl P);obtain⟨C,z⟩:=I.cell x c f;refine wpAny_storeName_cell I.ok.kind P f z (λh' Y l=>?_);obtain⟨oc,Z,B⟩:=id z;refine h {s with heap:=h'} ⟨I.ok,I.os,I.bare,⟨λb o e n R L=>?_,λb o e n R L=>?_,I.base.free,λb o e L=>?_,I.base.tups,I.base.frzs,I.base.tbls⟩,⟨m,J.sameBut l (XM (cne x c f)),λj y v' g N e3=>?_⟩,λy F e=>?_,I.free,I.freeC,λp hp=>?_,w ⟨oc,Z,I.freeC x c f⟩ l,by simpa using I.len⟩ ⟨c,l,.inr f⟩
  .exact(l.2 b (XB (Yz (Xv e) (I.ok.cab x c T f)))).trans (I.base.keep b o e n R L)
  .obtain⟨sl,g⟩:=I.base.slot b o e n R L;exact⟨sl,(l.2 b (XB (Yz (Xv e) (I.ok.cab x c T f)))).trans g⟩
  .obtain⟨o',g⟩:=I.base.there b o e L;exact⟨o',(l.2 b (XB (Yz (Xv e) (I.ok.cab x c T f)))).trans g⟩
  .by_cases hj:j=i
   .subst hj;rw[U]at g;cases g;rw[DS O]at N;cases N;exact⟨u,r,.inr ⟨.inl P,c,f,Y⟩⟩
   .rw[BV (XM hj)]at N;obtain⟨u',r',q⟩:=hl j y v' g N e3;refine⟨u',r',?_⟩;rcases q with q|⟨k,F,e,z'⟩
    .exact .inl q
    .refine .inr ⟨k,F,e,z'.sameBut l ?_⟩;rintro rfl;exact hj (Iw hN g (I.ok.inj _ _ _ e f▸U))
  .by_cases hcc:F=c
   .subst hcc;exact⟨_,Y⟩
   .obtain⟨w2,z2⟩:=I.cell y F e;exact⟨w2,z2.sameBut l hcc⟩
  .obtain⟨e,n,D,nf,d⟩:=I.pin p hp;refine⟨(l.2 p.1 ?_).trans e,n,D,nf,d⟩;intro q;rw[q,Z]at e;have q':oc=p.2:=Yd e;exact d C (by rw[<-q'];exact B)
theorem Iy(I:Inv X pq σ H s)(l:X.N.Nodup)(w:X.N[i]?=some x)(y:Loc X.env.scope x)(r:RelV v u)
  (h:∀j,Inv X pq (σ.set i (some v)) H j->Q () j)(z:X.fn x=true\/X.env.scope.names.lookup x=some .local:=by first|exact .inl rfl|exact .inr rfl|assumption):X3 M A (storeName X.env x u) Q E s:=
 Ix I l w y r (λj m _=>h j m) z
theorem Inv.call'(I:Inv X pq σ H s)(w:s'.os=s.os)(u:Un (frs X.stack) ch H H' s.heap s'.heap)(j:HOk X.prog X.w H' s'.heap)(y:AllBare s'.gens)
  (l:∀b∈ch,(b∈X.ex\/X.s₀.heap.objs.size<=b)/\b≠X.env.locals/\(∀x c,X.env.cells.lookup x=some c->c≠b)/\∀p∈X.pn++pq,p.1≠b):Inv X pq σ H' s':=by
 obtain⟨h',z,m,g,d⟩:=s';have e:d=s.os:=w;subst e;exact I.call (g':=z) (t':=g) (d':=m) u j y l
end
abbrev XK:=X0->Option Addr->Hp->Prop
noncomputable abbrev St:=List (Option V)
abbrev VK:=V->Hp->Prop
abbrev TE:=St->Hp->VK->Prop
abbrev TT:=St->Hp->(Bool->Hp->Prop)->Prop
abbrev TA:=St->Hp->(List V->Hp->Prop)->Prop
structure Ends where
 nx:St->Hp->Prop
 rt:VK
 bk:St->Hp->Prop:=λ_ _=>False
 ct:St->Hp->Prop:=λ_ _=>False
abbrev TS:=Ends->St->Hp->Prop
def EP(X:Cx)(l:List (Addr×Obj))(w:St)(Q:VK)(u:X0)(y:X2):Prop:=∃v j,Inv X l w j y/\RelV v u/\Q v j
noncomputable def TP(X:Cx)(l:List (Addr×Obj))(u:St)(Q:Bool->Hp->Prop)(b:Bool)(w:X2):Prop:=∃j,Inv X l u j w/\Q b j
def AP(X:Cx)(u:List (Addr×Obj))(w:St)(Q:List V->Hp->Prop)(us:List X0)(y:X2):Prop:=∃j l,Inv X u w l y/\Vals j us/\Q j l
def SP(X:Cx)(w:List (Addr×Obj))(D:Ends)(f:Flow)(y:X2):Prop:=
 match f with
 |.next=>∃j l,Inv X w j l y/\D.nx j l
 |.brk=>∃j l,Inv X w j l y/\D.bk j l
 |.cont=>∃j l,Inv X w j l y/\D.ct j l
 |.ret u=>∃v j l,Inv X w j l y/\RelV v u/\D.rt v l
def PE(X:Cx)(e:Expr)(t:TE):Prop:=
 ∀(l:List (Addr×Obj))(s:X2)(j:St)(H:Hp)(Q:VK),Inv X l j H s->t j H Q->X3 (X6 X.prog X.w) X.A (eval e X.env) (EP X l j Q) X.xe s
def PT(X:Cx)(e:Expr)(t:TT):Prop:=
 ∀(l:List (Addr×Obj))(s:X2)(j:St)(H:Hp)(Q:Bool->Hp->Prop),Inv X l j H s->t j H Q->X3 (X6 X.prog X.w) X.A (isTrue e X.env (eval e X.env)) (TP X l j Q) X.xe s
def PW(X:Cx)(e:Expr)(t:TT):Prop:=
 ∀(j:Sem X0)(u:List (Addr×Obj))(s:X2)(l:St)(H:Hp)(Q:Bool->Hp->Prop),Inv X u l H s->t l H Q->X3 (X6 X.prog X.w) X.A (isTrue e X.env j) (TP X u l Q) X.xe s
theorem PW.pt{t:TT}(h:PW X e t):PT X e t:=h _
def PA(X:Cx)(es:List Expr)(t:TA):Prop:=
 ∀(j:Pos)(u:List (Addr×Obj))(s:X2)(l:St)(H:Hp)(Q:List V->Hp->Prop),Inv X u l H s->t l H Q->X3 (X6 X.prog X.w) X.A (spliced (Y2 j (XC es X.env))) (AP X u l Q) X.xe s
def PS(X:Cx)(st:Stmt)(t:TS):Prop:=
 ∀(j:List (Addr×Obj))(s:X2)(l:St)(H:Hp)(D:Ends),Inv X j l H s->t D l H->X3 (X6 X.prog X.w) X.A (exec st X.env) (SP X j D) X.xe s
def PSs(X:Cx)(st:List Stmt)(t:TS):Prop:=
 ∀(j:List (Addr×Obj))(s:X2)(l:St)(H:Hp)(D:Ends),Inv X j l H s->t D l H->X3 (X6 X.prog X.w) X.A (execs st X.env) (SP X j D) X.xe s
theorem thn{j:Type}{t:Sem j}{Q l:j->X2->Prop}{M:Model}{A:Xz}{E:X0->X2->Prop}{s:X2}(h:X3 M A t Q E s)(u:∀a s,Q a s->l a s):X3 M A t l E s:=Zx h u λ_ _ x=>x
section
variable{X:Cx}
theorem bin{a b:Expr}{ta tb:TE}(q:PE X a ta)(r:PE X b tb){m:List (Addr×Obj)}{s:X2}{j:St}{H:Hp}{R:V->V->Hp->Prop}(I:Inv X m j H s)(h:ta j H λx d=>tb j d λy l=>R x y l)
  {c:Type} {Q:c->X2->Prop} {f:X0->X0->Sem c}
  (p:∀v u g x y l,Inv X m j l g->RelV x v->RelV y u->R x y l->X3 (X6 X.prog X.w) X.A (f v u) Q X.xe g):
  X3 (X6 X.prog X.w) X.A (eval a X.env) (λv w=>X3 (X6 X.prog X.w) X.A (eval b X.env) (λu z=>X3 (X6 X.prog X.w) X.A (f v u) Q X.xe z) X.xe w) X.xe s:=by
 refine thn (q m s j H _ I h) λv e ⟨x,d,L,N,O⟩=>?_;refine thn (r m e j d _ L O) λu g ⟨y,l,P,T,U⟩=>?_;exact p v u g x y l P N T U
noncomputable def tVar(i:Nat):TE:=λj H Q=>∃v,j[i]?=some (some v)/\Q v H
noncomputable def tC(v:V):TE:=λ_ H Q=>Q v H
theorem Iz{i:Nat}{x:Str}{pos:Pos}(f:X.N[i]?=some x)(q:Vis X.env.scope x)(z:(x==("__debug__":Str))=false:=by decide)(g:(x==("__classdict__":Str))=false:=by decide):PE X (.Name x pos) (tVar i):=by
 intro p s L H Q I h;obtain⟨v,e,h⟩:=h;obtain⟨m,N,O⟩:=I.loc;obtain⟨u,r,l⟩:=O i x v f e q;have w:EP X p L Q u s:=⟨v,H,I,r,h⟩;rcases l with⟨y,P⟩|⟨y,c,d,j⟩
 .exact wpAny_Name (wpAny_loadName_local I.ok.kind y N P w) z
 .rcases y with y|y
  .exact wpAny_Name (wpAny_loadName_cell I.ok.kind y d j w) z
  .exact wpAny_Name (wpAny_loadName_free I.ok.kind y d j w g) z
theorem pe_int{i j pos}:PE X (.Constant (.int i) j pos) (tC (.int i)):=λ_ _ _ H _ I h=>wpAny_Constant_int ⟨.int i,H,I.tok _,⟨_,rfl⟩,h⟩
theorem pe_bl{b j pos}:PE X (.Constant (.bool b) j pos) (tC (.bl b)):=λ_ _ _ H _ I h=>Constant_bool ⟨.bl b,H,I,rfl,h⟩
theorem pe_non{j pos}:PE X (.Constant .none j pos) (tC .non):=λ_ _ _ H _ I h=>Constant_none ⟨.non,H,I,rfl,h⟩
theorem pe_str{x j pos}:PE X (.Constant (.str x) j pos) (tC (.str x)):=λ_ _ _ H _ I h=>Calls.Constant_str ⟨.str x,H,I.tok _,⟨_,rfl⟩,h⟩
noncomputable def Gl(X:Cx)(x:Str):Prop:=X.env.kindOf x=some .globalImplicit
theorem Er(I:Inv X pq σ H s)(j:Gl X x)(l:X.mg x=some u)(h:Q u s)
  (w:(x==("__debug__":Str))=false:=by decide):X3 (X6 X.prog X.w) X.A (eval (.Name x pos) X.env) Q E s:=
 Ik I.ok.kind j (Calls.loadGlobal_global (by rw[I.ok.glob];exact I.mod.glob.keeps I.bk) l h) w
theorem UA(I:Inv X pq σ H s)(j:Gl X x)(l:X.mg x=none)(w:YH x=some u)(h:Q u s)
  (y:x≠"__name__":=by decide)(z:(x==("__debug__":Str))=false:=by decide):X3 (X6 X.prog X.w) X.A (eval (.Name x pos) X.env) Q E s:=by
 obtain⟨d,m,g⟩:=I.mod.blt;exact Ik I.ok.kind j (Calls.loadGlobal_builtin (by rw[I.ok.glob];exact I.mod.glob.keeps I.bk) l (by rw[I.ok.blt];exact m.keeps I.bk) ((g x y).trans w) h) z
theorem Th{x:Str}{v:V}{u:X0}{pos:Pos}(j:Gl X x)(l:X.mg x=some u)(r:RelV v u)(w:(x==("__debug__":Str))=false:=by decide):PE X (.Name x pos) (tC v):=
 λ_ _ _ H _ I h=>Er I j l ⟨v,H,I,r,h⟩ w
theorem Ti{x:Str}{v:V}{u:X0}{pos:Pos}(j:Gl X x)(l:X.mg x=none)(w:YH x=some u)(r:RelV v u)(y:x≠"__name__":=by decide)(z:(x==("__debug__":Str))=false:=by decide):PE X (.Name x pos) (tC v):=
 λ_ _ _ H _ I h=>UA I j l w ⟨v,H,I,r,h⟩ y z
variable{a b:Expr}{ta tb:TE}{pos:Pos}
noncomputable def tB(t:TE):TT:=λj H Q=>t j H λx l=>∃c,x=.bl c/\Q c l
theorem Tj{e:Expr}{t:TE}(h:PE X e t)(l:∀j,isTrue e X.env j=(do let v<- j;standAt e.pos;Z6 [v] (truthy v)):=by intro _;rfl):PT X e (tB t):=by
 intro u s w H Q I y;refine isTrue_plain (thn (h u s w H _ I y) λv f ⟨x,z,m,g,c⟩=>?_) (l _);obtain⟨d,rfl,q⟩:=c;cases g;exact Zy ⟨z,m,q⟩
variable{tA tB':TT}{rest:List Expr}
noncomputable def tAnd(t u:TT):TT:=λj H Q=>t j H λc l=>if c=true then u j l Q else Q false l
noncomputable def tOr(t u:TT):TT:=λj H Q=>t j H λc l=>if c=true then Q true l else u j l Q
noncomputable def tNot(t:TT):TT:=λj H Q=>t j H λc l=>Q (!c) l
theorem pw_and1(j:PT X a tA):PW X (.BoolOp .And [a] pos) tA:=by
 intro w l s u H Q I h;refine isTrue_and (thn (j l s u H Q I h) λc y e=>?_);cases c with
 |true=>exact isTrue_and_nil e
 |false=>exact e
theorem pw_or1(j:PT X a tA):PW X (.BoolOp .Or [a] pos) tA:=by
 intro w l s u H Q I h;refine isTrue_or (thn (j l s u H Q I h) λc y e=>?_);cases c with
 |false=>exact isTrue_or_nil e
 |true=>exact e
theorem pw_and(z:PT X a tA)(m:PW X (.BoolOp .And (b::rest) pos) tB'):PW X (.BoolOp .And (a::b::rest) pos) (tAnd tA tB'):=by
 intro g j s l H Q I h;refine isTrue_and (thn (z j s l H _ I h) λc d ⟨u,w,y⟩=>?_);cases c with
 |true=>exact m g j d l u Q w y
 |false=>exact⟨u,w,y⟩
theorem pw_or(z:PT X a tA)(m:PW X (.BoolOp .Or (b::rest) pos) tB'):PW X (.BoolOp .Or (a::b::rest) pos) (tOr tA tB'):=by
 intro g j s l H Q I h;refine isTrue_or (thn (z j s l H _ I h) λc d ⟨u,w,y⟩=>?_);cases c with
 |true=>exact⟨u,w,y⟩
 |false=>exact m g j d l u Q w y
theorem Tk(j:PT X a tA):PT X (.UnaryOp .Not a pos) (tNot tA):=by
 intro l s u H Q I h;exact isTrue_not (j l s u H (λc w=>Q (!c) w) I h)
noncomputable def Tl(ta tb:TE):TE:=λj H Q=>ta j H λx l=>∃c,x=.bl c/\if c=true then tb j l Q else Q (.bl false) l
noncomputable def tOrV(ta tb:TE):TE:=λj H Q=>ta j H λx l=>∃c,x=.bl c/\if c=true then Q (.bl true) l else tb j l Q
noncomputable def Tn(ta:TE):TE:=λj H Q=>ta j H λx l=>∃c,x=.bl c/\Q (.bl (!c)) l
theorem IA{op}{t:TE}(h:PE X a t):PE X (.BoolOp op [a] pos) t:=λj s l H Q I u=>BoolOp_one (h j s l H Q I u)
theorem To(z:PE X a ta)(m:PE X (.BoolOp .And (b::rest) pos) tb):PE X (.BoolOp .And (a::b::rest) pos) (Tl ta tb):=by
 intro l s u H Q I h;refine BoolOp_and (thn (z l s u H _ I h) λv g ⟨x,w,y,d,j⟩=>?_);obtain⟨c,rfl,j⟩:=j;cases d;refine Zy ?_;cases c with
 |true=>exact m l g u w Q y j
 |false=>exact⟨.bl false,w,y,rfl,j⟩
theorem Tp(z:PE X a ta)(m:PE X (.BoolOp .Or (b::rest) pos) tb):PE X (.BoolOp .Or (a::b::rest) pos) (tOrV ta tb):=by
 intro l s u H Q I h;refine BoolOp_or (thn (z l s u H _ I h) λv g ⟨x,w,y,d,j⟩=>?_);obtain⟨c,rfl,j⟩:=j;cases d;refine Zy ?_;cases c with
 |false=>exact m l g u w Q y j
 |true=>exact⟨.bl true,w,y,rfl,j⟩
theorem Tq(l:PE X a ta):PE X (.UnaryOp .Not a pos) (Tn ta):=by
 intro u s w H Q I h;refine UnaryOp_ (thn (l u s w H _ I h) λv g ⟨x,y,z,m,j⟩=>?_);obtain⟨c,rfl,j⟩:=j;cases m;exact not_of (Zy ⟨.bl (!c),y,z,rfl,j⟩)
noncomputable def tIf(t:TT)(ta tb:TE):TE:=λj H Q=>t j H λc l=>if c=true then ta j l Q else tb j l Q
theorem Tr{c:Expr}(m:PT X c tA)(g:PE X a ta)(f:PE X b tb):PE X (.IfExp c a b pos) (tIf tA ta tb):=by
 intro j s l H Q I h;refine wpAny_IfExp (thn (m j s l H _ I h) λd u ⟨w,y,z⟩=>?_);cases d with
 |true=>exact g j u l w Q y z
 |false=>exact f j u l w Q y z
end
def SqL(K:X4)(H:Hp)(a:Addr)(xs:List V):Prop:=
 Rd H a (.lst xs)\/
  ∃(o:Obj) (j:Array X0) (n:Nat),K.lookup a=some o/\o.cls=.type "list"/\o.dict=none/\o.data=.seq j n/\j.size<=sizeLine/\Vals xs j.toList
def SqT(K:X4)(H:Hp)(a:Addr)(xs:List V):Prop:=
 Rd H a (.tup xs)\/
  ∃(o:Obj) (j:Array X0) (n:Nat),K.lookup a=some o/\o.cls=.type "tuple"/\o.data=.seq j n/\j.size<=sizeLine/\Vals xs j.toList
noncomputable def absV:X0->Option V
 |.none=>some .non
 |.bool b=>some (.bl b)
 |.int i _=>some (.int i)
 |.str x _=>some (.str x)
 |.bytes b _=>some (.byt b)
 |.float b _=>some (.flt b)
 |.ref a=>some (.ref a)
 |.type n=>some (.ty n)
 |_=>none
theorem RelV.abs(r:RelV x u):absV u=some x:=by
 cases x with
 |non=>cases r;rfl
 |bl _=>cases r;rfl
 |int _=>obtain⟨t,rfl⟩:=r;rfl
 |str _=>obtain⟨t,rfl⟩:=r;rfl
 |byt _=>obtain⟨t,rfl⟩:=r;rfl
 |flt _=>obtain⟨t,rfl⟩:=r;rfl
 |ref _=>cases r;rfl
 |ty _=>cases r;rfl
theorem RelV.inj(r:RelV x u)(q:RelV y u):x=y:=Yd (r.abs.symm.trans q.abs)
theorem Vals.inj:∀{xs ys:List V} {us:List X0},Vals xs us->Vals ys us->xs=ys
 |_,_,_,.nil,.nil=>rfl
 |_,_,_,.cons r t,.cons r' t'=>by rw[r.inj r',Vals.inj t t']
section
variable{X:Cx}{pq:List (Addr×Obj)}{σ:St}{H:Hp}{s:X2}{a:Addr}{xs ys:List V}
theorem SqL.of{K:X4}(h:H a=some (.lst xs)):SqL K H a xs:=.inl (.inl h)
theorem SqT.of{K:X4}(h:H a=some (.tup xs)):SqT K H a xs:=.inl (.inl h)
theorem Inv.list(I:Inv X pq σ H s)(h:SqL X.K H a xs):∃j:List X0,Vals xs j/\PlainL s.heap a j.toArray/\xs.length<=sizeLine:=by
 rcases h with h|⟨o,j,n,l,u,w,y,m,r⟩
 .obtain⟨z,j,n,r,e⟩:=h.ok I.hok;exact⟨j,r,⟨_,n,e,rfl,rfl,rfl⟩,z⟩
 .refine⟨j.toList,r,⟨o,n,I.kIn a o l,u,w,by simpa using y⟩,?_⟩
  have e:=r.length;simp only[Yv]at e;lia
theorem Inv.tuple(I:Inv X pq σ H s)(h:SqT X.K H a xs):∃j:List X0,Vals xs j/\IsTup s.heap a j.toArray/\xs.length<=sizeLine:=by
 rcases h with h|⟨o,j,n,l,u,w,y,r⟩
 .obtain⟨z,j,r,p⟩:=h.ok I.hok;exact⟨j,r,p.1,z⟩
 .refine⟨j.toList,r,⟨o,I.kIn a o l,u,n,by simpa using w⟩,?_⟩
  have e:=r.length;simp only[Yv]at e;lia
theorem Inv.list_inj(I:Inv X pq σ H s)(h:SqL X.K H a xs)(h':SqL X.K H a ys):xs=ys:=by
 obtain⟨l,r,⟨o,n,e,_,_,d⟩,_⟩:=I.list h;obtain⟨j,y,⟨z,m,u,_,_,w⟩,_⟩:=I.list h';rw[e]at u;cases u;rw[d]at w;injection w with d1 _;have:l=j:=by simpa using congrArg Array.toList d1
 subst this;exact r.inj y
theorem Inv.tuple_inj(I:Inv X pq σ H s)(h:SqT X.K H a xs)(h':SqT X.K H a ys):xs=ys:=by
 obtain⟨l,r,⟨o,e,_,n,d⟩,_⟩:=I.tuple h;obtain⟨j,y,⟨z,u,_,m,w⟩,_⟩:=I.tuple h';rw[e]at u;cases u;rw[d]at w;injection w with d1 _;have:l=j:=by simpa using congrArg Array.toList d1
 subst this;exact r.inj y
end
noncomputable abbrev Cx.wish(X:Cx)(E:X0->X2->Prop):Cx:={X with xe:=E}
noncomputable abbrev Cx.nox(X:Cx):Cx:=X.wish λ_ _=>False
theorem Cx.Ok.wish{X:Cx}(ok:X.Ok)(E:X0->X2->Prop):(X.wish E).Ok:=
 ⟨ok.mod,ok.kind,ok.glob,ok.blt,ok.above,ok.inj,ok.has,ok.cab,ok.hd,ok.frames,ok.stk,ok.exf,ok.bs,ok.bsz,ok.noex,ok.exfs,ok.funs,ok.frf⟩
theorem Cx.Ok.unwish{X:Cx}{E:X0->X2->Prop}(ok:(X.wish E).Ok):X.Ok:=
 ⟨ok.mod,ok.kind,ok.glob,ok.blt,ok.above,ok.inj,ok.has,ok.cab,ok.hd,ok.frames,ok.stk,ok.exf,ok.bs,ok.bsz,ok.noex,ok.exfs,ok.funs,ok.frf⟩
section
variable{X:Cx}{pq:List (Addr×Obj)}{σ:St}{H:Hp}{s:X2}{E:X0->X2->Prop}
theorem Inv.wish(I:Inv X pq σ H s)(E:X0->X2->Prop):Inv (X.wish E) pq σ H s:=⟨I.ok.wish E,I.os,I.bare,I.base,I.loc,I.cell,I.free,I.freeC,I.pin,I.hok,I.len⟩
theorem Inv.unwish(I:Inv (X.wish E) pq σ H s):Inv X pq σ H s:=⟨I.ok.unwish,I.os,I.bare,I.base,I.loc,I.cell,I.free,I.freeC,I.pin,I.hok,I.len⟩
theorem SP.unwish(h:SP (X.wish E) pq D f s'):SP X pq D f s':=by
 cases f with
 |next=>obtain⟨j,l,I,q⟩:=h;exact⟨j,l,I.unwish,q⟩
 |brk=>obtain⟨j,l,I,q⟩:=h;exact⟨j,l,I.unwish,q⟩
 |cont=>obtain⟨j,l,I,q⟩:=h;exact⟨j,l,I.unwish,q⟩
 |ret u=>obtain⟨v,j,l,I,r,q⟩:=h;exact⟨v,j,l,I.unwish,r,q⟩
theorem PSs.nox{st:List Stmt}{t:TS}(h:PSs X.nox st t):PSs X st t:=λpq s σ H D I j=>
 Zx (h pq s σ H D (I.wish _) j) (λ_ _ q=>q.unwish) λ_ _ z=>Y5 z
end
section
variable{X:Cx}{st:Stmt}{rest:List Stmt}{t u:TS}{e:Expr}{te:TE}{pos:Pos}
noncomputable def Ts:TS:=λD j H=>D.nx j H
noncomputable def tSeq(t u:TS):TS:=λD j H=>t {D with nx:=u D} j H
theorem pss_nil:PSs X [] Ts:=λ_ _ j H _ I h=>wpAny_execs_nil ⟨j,H,I,h⟩
theorem Tt(h1:PS X st t)(h2:PSs X rest u):PSs X (st::rest) (tSeq t u):=by
 intro l s w H D I h;refine wpAny_execs_cons (thn (h1 l s w H {D with nx:=u D} I h) λf y q=>?_);cases f with
 |next=>
  obtain⟨j,z,m,q⟩:=q;exact h2 l y j z D m q
 |ret v=>exact q
 |brk=>exact q
 |cont=>exact q
noncomputable def Tu:TS:=λD j H=>D.ct j H
theorem ps_continue:PS X (.Continue pos) Tu:=λ_ _ j H _ I h=>wpAny_Continue ⟨j,H,I,h⟩
theorem Inv.quiet(I:Inv X pq σ H s):interactive X.env=false:=by simp[interactive,I.ok.kind]
noncomputable def Tv(te:TE):TS:=λD j H=>te j H λ_ l=>D.nx j l
theorem Tw(l:PE X e te)(w:Zz e none pos.line X.env=pure false:=by rfl):PS X (.Expr e pos) (Tv te):=by
 intro y s j H D I h;exact wpAny_Expr_any (thn (l y s j H _ I h) λv d ⟨x,z,m,c,g⟩=>⟨j,z,m,g⟩) I.quiet w
noncomputable def tRet(te:TE):TS:=λD j H=>te j H D.rt
theorem Tx(l:PE X e te):PS X (.Return (some e) pos) (tRet te):=by
 intro w s j H D I h;exact wpAny_Return_some (thn (l w s j H _ I h) λv d ⟨x,y,z,m,g⟩=>⟨x,j,y,z,m,g⟩)
noncomputable def tIfS(c:TT)(t u:TS):TS:=λD j H=>c j H λb l=>if b=true then t D j l else u D j l
theorem Tz{c:Expr}{a b:List Stmt}{w:TT}(f:PT X c w)(q:PSs X a t)(r:PSs X b u):PS X (.If c a b pos) (tIfS w t u):=by
 intro j s l H D I h;refine wpAny_If (thn (f j s l H _ I h) λd y ⟨z,m,g⟩=>?_);cases d with
 |true=>exact q j y l z D m g
 |false=>exact r j y l z D m g
noncomputable def TB:TS:=λ_ _ _=>False
theorem ps_never:PS X st TB:=λ_ _ _ _ _ _ h=>h.elim
end
abbrev TG:=V->St->Hp->(St->Hp->Prop)->Prop
abbrev TGs:=List V->St->Hp->(St->Hp->Prop)->Prop
def PG(X:Cx)(j:Expr)(t:TG):Prop:=
 ∀(w:List (Addr×Obj))(s:X2)(y:St)(H:Hp)(v:V)(u:X0)(Q:St->Hp->Prop),Inv X w y H s->RelV v u->t v y H Q->
  X3 (X6 X.prog X.w) X.A (assign j X.env u) (λ_ m=>∃l z,Inv X w l z m/\Q l z) X.xe s
def PGs(X:Cx)(m:List Expr)(t:TGs):Prop:=
 ∀(l:List (Addr×Obj))(s:X2)(u:St)(H:Hp)(w:List V)(y:List X0)(Q:St->Hp->Prop),Inv X l u H s->Vals w y->t w u H Q->
  X3 (X6 X.prog X.w) X.A (assignInOrder ((ZA m X.env).map (·.2)) y) (λ_ g=>∃j z,Inv X l j z g/\Q j z) X.xe s
abbrev TSet:=V->V->V->Hp->(Hp->Prop)->Prop
def PSet(X:Cx)(t:TSet):Prop:=
 ∀(j:List (Addr×Obj))(s:X2)(l:St)(H:Hp)(o i v:V)(w y u:X0)(Q:Hp->Prop),Inv X j l H s->RelV o w->RelV i y->RelV v u->t o i v H Q->
  X3 (X6 X.prog X.w) X.A (setItem w y u) (λ_ m=>∃z,Inv X j l z m/\Q z) X.xe s
section
variable{X:Cx}{pos:Pos}
noncomputable def CL(i:Nat):TG:=λv j H Q=>Q (j.set i (some v)) H
theorem IB(j:X.N.Nodup)(l:X.N[i]?=some x)(w:Loc X.env.scope x)(y:X.fn x=true\/X.env.scope.names.lookup x=some .local:=by first|exact .inl rfl|exact .inr rfl|assumption):PG X (.Name x pos) (CL i):=by
 intro m s g H v u Q I r h;exact wpAny_assign_Name (Iy I j l w r (λd z=>⟨_,H,z,h⟩) y)
noncomputable def gNil:TGs:=λj l H Q=>j=[]/\Q l H
noncomputable def IC(t:TG)(u:TGs):TGs:=λl w H Q=>∃v r,l=v::r/\t v w H λj y=>u r j y Q
theorem TC:PGs X [] gNil:=by
 intro l s j H u w Q I r h;obtain⟨e,h⟩:=h;subst e;cases r;exact assignInOrder_nil ⟨j,H,I,h⟩
theorem TD{e:Expr}{es:List Expr}{t:TG}{u:TGs}(h1:PG X e t)(h2:PGs X es u)
  (w:(ZA (e::es) X.env).map (·.2)=assign e X.env::(ZA es X.env).map (·.2):=by rfl):PGs X (e::es) (IC t u):=by
 intro l s y H q p Q I r h;obtain⟨v,L,z,h⟩:=h;subst z;cases r with
 |cons r m=>
  rw[w];refine assignInOrder_cons (thn (h1 l s y H _ _ _ I r h) λ_ g ⟨j,d,c,f⟩=>?_);exact h2 l g j d _ _ Q c m f
def gTup(K:X4)(n:Nat)(t:TGs):TG:=λv l H Q=>∃a j,v=.ref a/\SqT K H a j/\j.length=n/\t j l H Q
theorem TF{k:Nat}{t:TGs}(m:X.calm=true)(h:PGs X es t)
  (g:(ZA es X.env).length=n:=by rfl)(j:(ZA es X.env).findIdx? (·.1)=none:=by rfl):PG X (.Tuple es k pos) (gTup X.K n t):=by
 intro w s y H v u Q I r l;obtain⟨a,d,c,f,q,l⟩:=l;subst c;cases r;obtain⟨p,z,L,R⟩:=I.tuple f;refine assign_Tuple_tuple (I.ok.hd m) L (by simp[g,<-q,z.length]) j λN O=>?_
 have P:Inv X w y H {s with heap:=N}:=I.kept (t':=s.toks) λb o e=>O b o (XB (Xv e)) e;exact h w _ y H d _ Q P (by simpa using z) l
noncomputable def gSub(to l:TE)(t:TSet):TG:=λv j H Q=>to j H λo u=>l j u λi w=>t o i v w λy=>Q j y
theorem TH{o i:Expr}{to m:TE}{t:TSet}(g:PE X o to)(d:PE X i m)(c:PSet X t)
  (f:∀v,assign (.Subscript o i pos) X.env v=(do
   let j<- Z6 [v] (eval o X.env)
   let l<- Z6 [v,j] (eval i X.env)
   standAt pos
   Z6 [v,j,l] (setItem j l v)
   release [v,j,l] []):=by intro _;rfl):PG X (.Subscript o i pos) (gSub to m t):=by
 intro z s w H v u Q I r h;rw[f];refine X1 (YN (thn (g z s w H _ I h) λj q ⟨x,p,e,L,N⟩=>?_));refine X1 (YN (thn (d z q w p _ e N) λl O ⟨y,P,R,T,U⟩=>?_));refine X1 (wpAny_standAt (X1 (YN (thn (c z O w P x y v j l u _ R L T r U) λ_ A ⟨W,Y,Z⟩=>?_))));exact wpAny_release ⟨w,W,Y,Z⟩
noncomputable def tAsg(te:TE)(g:TG):TS:=λD j H=>te j H λx l=>g x j l D.nx
theorem ID{tg e:Expr}{te:TE}{g:TG}(u:PE X e te)(w:PG X tg g)(y:swapsWithSole [tg] e pos.line X.env=pure false:=by rfl)(hw:swappedStores [tg] e X.env=pure none:=by rfl)
  (h1:(ZA [tg] X.env).map (·.2)=[assign tg X.env]:=by rfl):PS X (.Assign [tg] e pos) (tAsg te g):=by
 intro j s l H D I h;refine wpAny_Assign_stores (thn (u j s l H _ I h) λv z ⟨x,m,d,c,f⟩=>?_) y hw;rw[h1];exact thn (w j z l m x v _ d c f) λ_ r q=>q
theorem IF{i:Nat}{x:Str}{e:Expr}{te:TE}{pos':Pos}(j:X.N.Nodup)(l:X.N[i]?=some x)(u:Loc X.env.scope x)(w:PE X e te)(z:Zz e (some (.Name x pos')) pos.line X.env=pure false:=by rfl)(m:X.fn x=true\/X.env.scope.names.lookup x=some .local:=by first|exact .inl rfl|exact .inr rfl|assumption):
  PS X (.Assign [.Name x pos'] e pos) (tAsg te (CL i)):=by
 intro g s d H D I h;refine wpAny_Assign_Name (thn (w g s d H _ I h) λv L ⟨y,c,f,q,r⟩=>?_) z;exact Iy f j l u q (λN p=>⟨_,c,p,r⟩) m
def TJ(c:TT)(tb:TS):TS:=λD j H=>∃W:Nat->St->Hp->Prop,(∃m,W m j H)/\∀m j H,W m j H->
 c j H λb u=>if b=true then∃N:St->Hp->Prop,(∀l w,N l w->∃y,y<m/\W y l w)/\tb {D with nx:=N,ct:=N,bk:=D.nx} j u else D.nx j u
theorem TK{c:Expr}{u:List Stmt}{O:TT}{tb:TS}(P:PassesOwn (X6 X.prog X.w) X.A X.env X.xe)(A:PT X c O)(B:PSs X u tb):PS X (.While c u [] pos) (TJ O tb):=by
 intro d s C H D I h;obtain⟨W,⟨E,F⟩,w⟩:=h;refine wpAny_While (codeAny_whileLoop (λn G=>∃y R,Inv X d y R G/\W n y R) ?_ E ⟨C,H,I,F⟩);rintro n J ⟨l,T,M,Q⟩;refine UN P (thn (A d J l T _ M (w n l T Q)) λb S ⟨U,Y,m⟩=>?_);cases b with
 |true=>
  obtain⟨N,Z,m⟩:=m;rw[if_pos rfl];refine UN P (thn (B d S l U _ Y m) λf o g=>?_);cases f with
  |next=>
   obtain⟨j,z,q,r⟩:=g;obtain⟨p,e,L⟩:=Z j z r;exact⟨p,e,j,z,q,L⟩
  |cont=>
   obtain⟨j,z,q,r⟩:=g;obtain⟨p,e,L⟩:=Z j z r;exact⟨p,e,j,z,q,L⟩
  |brk=>exact g
  |ret v=>exact g
 |false=>
  rw[if_neg XG];exact wpAny_execs_nil ⟨l,U,Y,m⟩
end
structure It where
 go:Nat->Hp->Prop
 yld:Nat->Hp->V->Hp->Prop
 stop:Nat->Hp->Prop
noncomputable def FpOk(X:Cx)(j:List (Addr×Obj))(H:Hp)(b:Addr):Prop:=
 H b=none/\b≠X.env.locals/\b∉X.fs/\(b∈X.ex\/X.s₀.heap.objs.size<=b)/\(∀x c,X.env.cells.lookup x=some c->c≠b)/\∀p∈X.pn++j,p.1≠b
theorem Inv.fpOk(I:Inv X pq σ H s)(j:s.heap.objs.size<=b)(l:H' b=none):FpOk X pq H' b:=by
 refine⟨l,UW (Yz I.lt j),I.nofs j,.inr (Y4 I.sz j),λx c e z=>?_,λp u z=>?_⟩
 .obtain⟨v,q⟩:=I.cell x c e;exact absurd (Yz q.lt (by rw[z];exact j)) (Uv _)
 .exact absurd (Yz (Xv (I.pin p u).1) (by rw[z];exact j)) (Uv _)
structure Turn (P:Xw)(w:Xn)(K:X4)(tg:Expr)(J:It)(fp:List Addr)(it:Addr)(tn:Nat->Heap->Prop):Prop where
 mem:it∈fp
 obj:∀i h,tn i h->∀b∈fp,∃o,h.get? b=some o/\∀v,o.data≠.cell v
 keep:∀i h h',tn i h->(∀b∈fp,∀o,h.get? b=some o->h'.get? b=some o)->tn i h'
 item:∀(X:Cx),X.prog=P->X.w=w->X.K=K->X.calm=true->∀(i:Nat)(pq:List (Addr×Obj))(s:X2)(σ:St)(H:Hp)(E:X0->X2->Prop),Inv X pq σ H s->(∀b∈fp,FpOk X pq H b)->tn i s.heap->J.go i H->
  X3 (X6 P w) X.A (pyNext (.ref it)) (λr s1=>∃u,r=some u/\
   X3 (X6 P w) X.A (BL tg (.ref it) u) (λ_ s2=>∃x H',Inv X pq σ H' s2/\RelV x u/\J.yld i H x H'/\tn (i+1) s2.heap/\∀b∈fp,H' b=none) E s1) E s
 done:∀(X:Cx),X.prog=P->X.w=w->X.K=K->X.calm=true->∀(i:Nat)(pq:List (Addr×Obj))(s:X2)(σ:St)(H:Hp)(E:X0->X2->Prop),Inv X pq σ H s->(∀b∈fp,FpOk X pq H b)->tn i s.heap->J.stop i H->
  X3 (X6 P w) X.A (pyNext (.ref it)) (λr s1=>r=none/\Inv X pq σ H s1) E s
 self:∀(A:Xz)(i:Nat)(s:X2)(Q:X0->X2->Prop)(E:X0->X2->Prop),tn i s.heap->Q (.ref it) s->X3 (X6 P w) A (pyIter (.ref it)) Q E s
abbrev TI:=St->Hp->(It->Hp->Prop)->Prop
def PIE(X:Cx)(u:List (Addr×Obj))(g:St)(tg:Expr)(R:It->Hp->Prop)(j:X0)(w:X2):Prop:=
 ∃(y:Addr) (z:List Addr) (m:Nat->Heap->Prop) (J:It) (l:Hp),j=.ref y/\Inv X u g l w/\Turn X.prog X.w X.K tg J z y m/\m 0 w.heap/\(∀b∈z,FpOk X u l b)/\R J l
def PI(X:Cx)(tg j:Expr)(w:TI):Prop:=
 ∀(u:List (Addr×Obj))(s:X2)(l:St)(H:Hp)(R:It->Hp->Prop),Inv X u l H s->w l H R->
  X3 (X6 X.prog X.w) X.A (eval j X.env) (λv y=>X3 (X6 X.prog X.w) X.A (pyIter v) (PIE X u l tg R) X.xe y) X.xe s
theorem WD(l:s.heap.get? it=some o)(w:o.cls=.type n)(y:o.data=.fields vs)
  (z:["enumerate","zip","dict_itemiterator","dict_reverseitemiterator","odict_iterator","itertools.zip_longest","itertools.pairwise"].contains n=false)(j:Q () s):X3 M A (BL tg (.ref it) u) Q E s:=by
 unfold BL;cases tg<;>first
  |exact X9 j
  |(cases u<;>first
    |exact X9 j
    |(refine X1 (Vh l ?_)
      rw[w,y];show X3 M A (if(["enumerate","zip","dict_itemiterator","dict_reverseitemiterator","odict_iterator","itertools.zip_longest","itertools.pairwise"].contains n&&vs[0]?==some (Y6 _))=true then _ else _) Q E s;rw[if_neg (by intro h;rw[z,Ws]at h;cases h)]
      exact X9 j))
def Itl(K:X4)(a:Addr):It:=
 ⟨λi H=>∃j x,SqL K H a j/\j[i]?=some x,λi H x l=>l=H/\∀j,SqL K H a j->j[i]?=some x,λi H=>∃j,SqL K H a j/\j.length<=i⟩
def Itt(K:X4)(a:Addr):It:=
 ⟨λi H=>∃j x,SqT K H a j/\j[i]?=some x,λi H x l=>l=H/\∀j,SqT K H a j->j[i]?=some x,λi H=>∃j,SqT K H a j/\j.length<=i⟩
noncomputable def Itr(lo:Int)(n:Nat):It:=⟨λi _=>i<n,λi H x j=>j=H/\x=.int (lo+i),λi _=>n<=i⟩
theorem TL{K:X4}(a it:Addr):Turn P w K tg (Itl K a) [it] it (λi h=>h.IsListIter it a i)where
 mem:=by simp
 obj:=λi h st b j=>by
  have e:b=it:=by simpa using j
  subst e;obtain⟨o,e,c,d⟩:=st;exact⟨o,e,λv z=>by rw[d]at z;cases z⟩
 keep:=λi h y st k=>st.at λo e=>k it (by simp) o e
 item:=by
  intro X f q r A i B s C H E I m st L;subst f q r;obtain⟨D,x,g,N⟩:=L;obtain⟨O,R,p,F⟩:=I.list g;obtain⟨u,G,J⟩:=R.get N;obtain⟨T,U,M,W,Y,Z⟩:=m it (by simp)
  refine wpAny_pyNext_list_item st p.isList (x:=u) (by simpa using G) λy l Q=>?_
  have S:Inv X B C H {s with heap:=y}:=I.turned (t':=s.toks) (λb o j e=>(Q.2 b j).trans e) T U W Y Z;obtain⟨o,e,c,d⟩:=id l;exact⟨u,rfl,WD (s:={s with heap:=y}) e c d (by decide) ⟨x,H,S,J,⟨rfl,λys n=>by rw[I.list_inj n g];exact N⟩,l,λb j=>(m b j).1⟩⟩
 done:=by
  intro X f q r A i B s C H E I m st L;subst f q r;obtain⟨D,g,N⟩:=L;obtain⟨O,R,p,F⟩:=I.list g;obtain⟨T,U,M,W,Y,Z⟩:=m it (by simp)
  have hl:=R.length;exact wpAny_pyNext_list_end (I.ok.hd A) st p.isList (by simp;lia) λy eb=>⟨rfl,I.turned (t':=s.toks) (λb o j e=>eb b o j e) T U W Y Z⟩
 self:=λ_ _ _ _ _ st h=>wpAny_pyIter_listiter st h
theorem TM{K:X4}(a it:Addr):Turn P w K tg (Itt K a) [it] it (λi h=>h.IsTupleIter it a i)where
 mem:=by simp
 obj:=λi h st b j=>by
  have e:b=it:=by simpa using j
  subst e;obtain⟨o,e,c,d⟩:=st;exact⟨o,e,λv z=>by rw[d]at z;cases z⟩
 keep:=λi h m st k=>st.at λo e=>k it (by simp) o e
 item:=by
  intro X q r L A i B s C H E I g st N;subst q r L;obtain⟨D,x,f,O⟩:=N;obtain⟨l,R,p,F⟩:=I.tuple f;obtain⟨u,G,J⟩:=R.get O;obtain⟨T,U,M,W,Y,Z⟩:=g it (by simp)
  refine wpAny_pyNext_tuple_item st (show s.heap.IsTuple a l.toArray from p) (x:=u) (by simpa using G) λm y Q=>?_
  have S:Inv X B C H {s with heap:=m}:=I.turned (t':=s.toks) (λb o j e=>(Q.2 b j).trans e) T U W Y Z;obtain⟨o,e,c,d⟩:=id y;exact⟨u,rfl,WD (s:={s with heap:=m}) e c d (by decide) ⟨x,H,S,J,⟨rfl,λys n=>by rw[I.tuple_inj n f];exact O⟩,y,λb j=>(g b j).1⟩⟩
 done:=by
  intro X q r L A i B s C H E I g st N;subst q r L;obtain⟨D,f,O⟩:=N;obtain⟨l,R,p,F⟩:=I.tuple f;obtain⟨T,U,M,W,Y,Z⟩:=g it (by simp)
  have hl:=R.length;exact wpAny_pyNext_tuple_end (I.ok.hd A) st (show s.heap.IsTuple a l.toArray from p) (by simp;lia) λm eb=>⟨rfl,I.turned (t':=s.toks) (λb o j e=>eb b o j e) T U W Y Z⟩
 self:=λ_ _ _ _ _ st h=>wpAny_pyIter_tupleiter st h
theorem TN{K:X4}(it:Addr)(lo:Int)(n:Nat):Turn P w K tg (Itr lo n) [it] it (λi h=>IsRangeIter h it (lo+(i:Nat)*1) ((n:Int) - (i:Nat)) 1)where
 mem:=by simp
 obj:=λi h st b j=>by
  have e:b=it:=by simpa using j
  subst e;exact⟨_,st,λv z=>by
   have U:U6 _=Data.cell v:=z;cases U⟩
 keep:=λi h u st k=>k it (by simp) _ st
 item:=by
  intro X m g d c i O s R H E I y st f;subst m g d;obtain⟨q,r,Y,p,L,N⟩:=y it (by simp)
  have W:=Walks.range (prog:=X.prog) (w:=X.w) (I.ok.hd c) it lo 1 n;refine W.item i s _ _ f st λv u T Z l A=>?_;obtain⟨t,rfl⟩:=Z;have B:Inv X O R H {s with heap:=u,toks:=T}:=I.turned (λb o j e=>A b o (by simpa using j) e) q r p L N
  refine⟨_,rfl,WD (s:={s with heap:=u,toks:=T}) (n:="range_iterator") l rfl rfl (by decide) ⟨.int (lo+i),H,B,⟨t,?_⟩,⟨rfl,rfl⟩,l,fun b j=>(y b j).1⟩⟩
  rw[Int.mul_one]
 done:=by
  intro X m g d c i O s R H E I y st f;subst m g d;obtain⟨q,r,Y,p,L,N⟩:=y it (by simp)
  exact wpAny_pyNext_range_end (I.ok.hd c) st (by have:n<=i:=f;lia) λu C=>⟨rfl,I.turned (t':=s.toks) (λb o j e=>C b o j e) q r p L N⟩
 self:=λ_ _ _ _ _ st h=>wpAny_pyIter_rangeiter st h
section
variable{X:Cx}{tg:Expr}
theorem TQ{lo:Int}{t:Tok}(I:Inv X pq σ H s)(h1:-(2^62)<=lo)(h2:lo<2^62)(h3:-(2^62)<=hi)(h4:hi<2^62)
  (q:R (Itr lo (hi - lo).toNat) H):X3 (X6 X.prog X.w) X.A (pyIter (.ref s.heap.objs.size)) (PIE X pq σ tg R) E {s with heap:=s.heap.push {cls:=.type "range",data:=.fields #[.int lo t,.int hi u,.int 1 v]},toks:=tk}:=by
 refine wpAny_pyIter_range (IsRange.new ..) (small_one h1 h2 h3 h4) ?_;have j:Inv X pq σ H {s with heap:=s.heap.push {cls:=.type "range",data:=.fields #[.int lo t,.int hi u,.int 1 v]},toks:=tk}:=I.kept fun b o e=>Xq _ e;refine⟨(s.heap.push {cls:=.type "range",data:=.fields #[.int lo t,.int hi u,.int 1 v]}).objs.size,[(s.heap.push {cls:=.type "range",data:=.fields #[.int lo t,.int hi u,.int 1 v]}).objs.size],_,_,H,rfl,
  j.kept (t':=tk) λb o e=>Xq _ e,TN _ lo (hi - lo).toNat,?_,λb l=>?_,q⟩
 .have w:lo+((0:Nat):Int)*1=lo:=by simp
  have y:(((hi - lo).toNat:Nat):Int) - ((0:Nat):Int)=Builtin.Range.rangeSize lo hi 1:=by rw[rangeSize_one];split<;>lia
  show IsRangeIter _ _ (lo+((0:Nat):Int)*1) ((((hi - lo).toNat:Nat):Int) - ((0:Nat):Int)) 1;rw[w,y];exact XR _ rfl
 .have e:b=(s.heap.push {cls:=.type "range",data:=.fields #[.int lo t,.int hi u,.int 1 v]}).objs.size:=by simpa using l
  subst e;exact j.fpOk (Xf _) (j.hok.fresh (Xf _))
def TR(ta:TA):TI:=λl H R=>ta l H λu w=>∃j:Int,u=[.int j]/\ -(2^62)<=j/\j<2^62/\R (Itr 0 j.toNat) w
theorem TU{a:Expr}{ta:TA}{p pos:Pos}(u:Gl X "range")(w:X.mg "range"=none)(y:PA X [a] ta)(z:XC [a] X.env=[(false,eval a X.env)]:=by rfl):PI X tg (.Call (.Name "range" p) [a] [] pos) (TR ta):=by
 intro m s g H R I h;refine Call_ (UA I u w boot_range (Wx (thn (y pos m s g H _ I h) λN O ⟨P,T,d,c,l⟩=>?_) z rfl));obtain⟨j,e,l,f,q⟩:=l;subst e;cases c with
 |cons r L=>
  cases L;obtain⟨t,rfl⟩:=r;exact call_range_1 (TQ d (by lia) (by lia) l f (by simpa using q))
def tFor(z:TI)(g:TG)(tb:TS):TS:=λD j H=>z j H λJ d=>∃W:Nat->Nat->St->Hp->Prop,(∃m,W 0 m j d)/\∀i m j H,W i m j H->
 (J.stop i H/\D.nx j H)\/(J.go i H/\∃N:St->Hp->Prop,(∀l u,N l u->∃y,y<m/\W (i+1) y l u)/\∀x u,J.yld i H x u->g x j u λw c=>tb {D with nx:=N,ct:=N,bk:=D.nx} w c)
noncomputable def VN(j:List Addr)(h:Heap):List (Addr×Obj):=j.filterMap λb=>(h.get? b).map λo=>(b,o)
theorem CM(j:b∈fp)(e:h.get? b=some o):(b,o)∈VN fp h:=List.mem_filterMap.mpr ⟨b,j,by rw[e];rfl⟩
theorem TV(j:p∈VN fp h):p.1∈fp/\h.get? p.1=some p.2:=by
 obtain⟨b,l,e⟩:=List.mem_filterMap.mp j;cases q:h.get? b with
 |none=>rw[q]at e;cases e
 |some o=>
  rw[q]at e;have u:(b,o)=p:=Yd e;subst u;exact⟨l,q⟩
theorem Inv.pinned(I:Inv X pq σ H s)(u:∀b∈fp,FpOk X pq H b)(w:∀b∈fp,∃o,s.heap.get? b=some o/\∀v,o.data≠.cell v):Inv X (pq++VN fp s.heap) σ H s:=
 I.pins_of λp y=>(Yt.mp y).elim (λz=>I.pin p (ZD _ z)) λz=>by
  obtain⟨j,e⟩:=TV z;obtain⟨m,g,c,_⟩:=u p.1 j;obtain⟨o,l,d⟩:=w p.1 j;rw[e]at l;cases l;exact⟨e,m,g,c,d⟩
theorem Inv.unpinned(I:Inv X (pq++pl) σ H s):Inv X pq σ H s:=I.pins_of λp j=>I.pin p (ZD _ (List.mem_append_left _ j))
theorem TW{l:Expr}{O:List Stmt}{wi:TI}{g:TG}{tb:TS}{pos:Pos}(Y:PassesOwn (X6 X.prog X.w) X.A X.env X.xe)(hc:X.calm=true)(hi:PI X tg l wi)(hg:PG X tg g)(w:PSs X O tb)
  (hs:∀x,BM l X.env x=pure x:=by intro _;rfl):PS X (.For tg l O [] pos) (tFor wi g tb):=by
 intro R s σ H D I h;refine wpAny_For (thn (hi R s σ H _ I h) λv s1 h1=>thn h1 λitv s2 h2=>?_) hs;obtain⟨it,Z,tn,J,H2,e,I2,T,G,f2,W,⟨m0,w0⟩,A⟩:=h2;subst e;have y:∀{L:Hp},(∀b∈Z,L b=none)->∀b∈Z,FpOk X R L b:=λhn b w=>⟨hn b w,(f2 b w).2⟩;refine codeAny_forLoop_any (λn s'=>∃i z L,Inv X R z L s'/\tn i s'.heap/\(∀b∈Z,L b=none)/\W i n z L) ?_ m0 ⟨0,σ,H2,I2,G,λb w=>(f2 b w).1,w0⟩;rintro n s3 ⟨i,c,F,I3,st3,B,w3⟩;rcases A i n c F w3 with⟨C,qn⟩|⟨go,N,hN,step⟩
 .refine UN Y (thn (T.done X rfl rfl rfl hc i R s3 c F X.xe I3 (y B) st3 C) λr s4 ⟨M,I4⟩=>?_);subst M;exact wpAny_execs_nil ⟨c,F,I4,qn⟩
 .refine UN Y (thn (T.item X rfl rfl rfl hc i R s3 c F X.xe I3 (y B) st3 go) λr s4 ⟨u,M,h4⟩=>?_);subst M;refine UN Y (thn h4 λ_ s5 ⟨x,H5,I5,r5,y5,U,Q⟩=>?_);have S:=I5.pinned (y Q) (T.obj _ _ U);refine UN Y (thn (hg _ s5 c H5 x u _ S r5 (step x H5 y5)) λ_ s6 ⟨a,H6,I6,q6⟩=>?_);refine UN Y (thn (w _ s6 a H6 _ I6 q6) λf s7 P=>?_);have again:∀{j:St} {q:Hp},Inv X (R++VN Z s5.heap) j q s7->N j q->∃m,m<n/\∃i z L,Inv X R z L s7/\tn i s7.heap/\(∀b∈Z,L b=none)/\W i m z L:=fun{j q} p E=>by
   obtain⟨m',hm,w7⟩:=hN j q E;refine⟨m',hm,i+1,j,q,p.unpinned,T.keep _ _ _ U λb w o e=>(p.pin (b,o) (ZD _ (ZD _ (CM w e)))).1,λb w=>?_,w7⟩;obtain⟨o,e,d⟩:=T.obj _ _ U b w;exact(p.pin (b,o) (ZD _ (ZD _ (CM w e)))).2.1
  cases f with
  |next=>obtain⟨j,q,p,E⟩:=P;exact again p E
  |cont=>obtain⟨j,q,p,E⟩:=P;exact again p E
  |brk=>obtain⟨j,q,p,P⟩:=P;exact⟨j,q,p.unpinned,P⟩
  |ret v=>obtain⟨x7,j,q,p,r7,P⟩:=P;exact⟨x7,j,q,p.unpinned,r7,P⟩
end
abbrev R2:=V->V->Hp->VK->Prop
def OpR(X:Cx)(f:X0->X0->Sem X0)(r:R2):Prop:=
 ∀(j:List (Addr×Obj))(s:X2)(l:St)(H:Hp)(x y:V)(v u:X0)(Q:VK),Inv X j l H s->RelV x v->RelV y u->r x y H Q->
  X3 (X6 X.prog X.w) X.A (f v u) (EP X j l Q) X.xe s
def UnR(X:Cx)(f:X0->Sem X0)(r:V->Hp->VK->Prop):Prop:=
 ∀(j:List (Addr×Obj))(s:X2)(l:St)(H:Hp)(x:V)(v:X0)(Q:VK),Inv X j l H s->RelV x v->r x H Q->
  X3 (X6 X.prog X.w) X.A (f v) (EP X j l Q) X.xe s
def YC(X:Cx)(f:X0)(r:List V->Hp->VK->Prop):Prop:=
 ∀(j:List (Addr×Obj))(s:X2)(l:St)(H:Hp)(u:List V)(w:List X0)(Q:VK),Inv X j l H s->Vals u w->r u H Q->
  X3 (X6 X.prog X.w) X.A (call f w) (EP X j l Q) X.xe s
noncomputable def tOp(r:R2)(ta tb:TE):TE:=λj H Q=>ta j H λx l=>tb j l λy u=>r x y u Q
noncomputable def tUn(r:V->Hp->VK->Prop)(ta:TE):TE:=λj H Q=>ta j H λx l=>r x l Q
noncomputable def rI(C:Int->Int->Prop)(g:Int->Int->V):R2:=λx y H Q=>∃i j,x=.int i/\y=.int j/\C i j/\Q (g i j) H
noncomputable def rI0(g:Int->Int->V):R2:=λx y H Q=>∃i j,x=.int i/\y=.int j/\Q (g i j) H
noncomputable def rU(g:Int->V):V->Hp->VK->Prop:=λx H Q=>∃i,x=.int i/\Q (g i) H
section
variable{X:Cx}{a b c:Expr}{ta tb tc:TE}{pos:Pos}
theorem binT(q:PE X a ta)(r:PE X b tb){m:List (Addr×Obj)}{s:X2}{j:St}{H:Hp}{R:V->V->Hp->Prop}(I:Inv X m j H s)
  (h:ta j H λx d=>tb j d λy l=>R x y l){Q:X0->X2->Prop} {f:X0->X0->Sem X0}
  (p:∀v u g x y l,Inv X m j l g->RelV x v->RelV y u->R x y l->X3 (X6 X.prog X.w) X.A (f v u) Q X.xe g):
  X3 (X6 X.prog X.w) X.A (eval a X.env) (λv w=>X3 (X6 X.prog X.w) X.A (eval b X.env) (λu z=>X3 (X6 X.prog X.w) X.A (f v u) Q X.xe z) X.xe w) X.xe s:=by
 refine thn (q m s j H _ I h) λv e ⟨x,d,L,N,O⟩=>?_;refine thn (r m e j d _ L O) λu g ⟨y,l,P,T,U⟩=>?_;exact p v u g x y l P N T U
theorem TX{op:Uk}{r:R2}(j:OpR X (Yk op) r)(l:PE X a ta)(w:PE X b tb):PE X (.BinOp a op b pos) (tOp r ta tb):=by
 intro z s m H Q I h;exact wpAny_BinOp (binT l w I h λv u g x y d f p e q=>j z g m d x y v u Q f p e q)
theorem TY{op:UnaryOp}{r:V->Hp->VK->Prop}(u:UnR X (unaryOp op) r)(w:PE X a ta):PE X (.UnaryOp op a pos) (tUn r ta):=by
 intro j s l H Q I h;exact UnaryOp_ (thn (w j s l H _ I h) λv y ⟨x,z,m,g,d⟩=>u j y l z x v Q m g d)
theorem opI{f:X0->X0->Sem X0}{C:Int->Int->Prop}{g:Int->Int->Int}
  (rule:∀(i j:Int)(t u:Tok)(s:X2)(Q:X0->X2->Prop)(E:X0->X2->Prop),C i j->Q (.int (g i j) s.toks) {s with toks:=s.toks+1}->X3 (X6 X.prog X.w) X.A (f (.int i t) (.int j u)) Q E s):
  OpR X f (rI C λi j=>.int (g i j)):=by
 intro d s r H x y v u Q I l w h;obtain⟨i,j,rfl,rfl,z,q⟩:=h;obtain⟨t,rfl⟩:=l;obtain⟨m,rfl⟩:=w;exact rule i j t m s _ _ z ⟨.int (g i j),H,I.tok _,⟨_,rfl⟩,q⟩
theorem opI0{f:X0->X0->Sem X0}{g:Int->Int->Int}
  (rule:∀(i j:Int)(t u:Tok)(s:X2)(Q:X0->X2->Prop)(E:X0->X2->Prop),Q (.int (g i j) s.toks) {s with toks:=s.toks+1}->X3 (X6 X.prog X.w) X.A (f (.int i t) (.int j u)) Q E s):
  OpR X f (rI0 λi j=>.int (g i j)):=by
 intro m s d H x y v u Q I l w h;obtain⟨i,j,rfl,rfl,q⟩:=h;obtain⟨t,rfl⟩:=l;obtain⟨z,rfl⟩:=w;exact rule i j t z s _ _ ⟨.int (g i j),H,I.tok _,⟨_,rfl⟩,q⟩
theorem opB0{f:X0->X0->Sem X0}{g:Int->Int->Bool}
  (rule:∀(i j:Int)(t u:Tok)(s:X2)(Q:X0->X2->Prop)(E:X0->X2->Prop),Q (.bool (g i j)) s->X3 (X6 X.prog X.w) X.A (f (.int i t) (.int j u)) Q E s):
  OpR X f (rI0 λi j=>.bl (g i j)):=by
 intro m s d H x y v u Q I l w h;obtain⟨i,j,rfl,rfl,q⟩:=h;obtain⟨t,rfl⟩:=l;obtain⟨z,rfl⟩:=w;exact rule i j t z s _ _ ⟨.bl (g i j),H,I,rfl,q⟩
noncomputable def CPow(i j:Int):Prop:=0<=j/\j<=1000000/\i.natAbs<2^64
noncomputable def CMul(i j:Int):Prop:=(-(2^64)<i/\i<2^64)\/(-(2^64)<j/\j<2^64)
theorem CMul.ok(h:CMul i j):IntMulOk i j:=by
 rcases h with⟨l,u⟩|⟨l,u⟩
 .exact .of_left (intBits_le_64 l u)
 .exact .of_right (intBits_le_64 l u)
theorem TZ:OpR X (Yk .Add) (rI0 λi j=>.int (i+j)):=opI0 λ_ _ _ _ _ _ _ q=>add_int q
theorem _qn:OpR X (Yk .Sub) (rI0 λi j=>.int (i - j)):=opI0 λ_ _ _ _ _ _ _ q=>sub_int q
theorem _qs:OpR X (Yk .Mult) (rI CMul λi j=>.int (i*j)):=opI λ_ _ _ _ _ _ _ l q=>mul_int q l.ok
theorem _qt:OpR X (Yk .Mod) (rI (λ_ j=>0<j) λi j=>.int (i%j)):=opI λi j _ _ _ _ _ l q=>by
 have u:(0:Int)<j:=l;exact mod_int' (by lia) (by rw[Int.fmod_eq_emod_of_nonneg i (by lia)];exact q)
theorem _qq:OpR X (Yk .Pow) (rI CPow λi j=>.int (i^j.toNat)):=opI λ_ _ _ _ _ _ _ l q=>pow_int_small l.1 l.2.1 l.2.2 q
theorem _qo:OpR X (Yk .LShift) (rI CPow λi j=>.int (i*2^j.toNat)):=opI λ_ _ _ _ _ _ _ l q=>lshift_int_small l.1 l.2.1 l.2.2 q
theorem _qx:OpR X (Yk .BitAnd) (rI0 λi j=>.int (CH i j)):=opI0 λ_ _ _ _ _ _ _ q=>and_int q
theorem _qm:OpR X (Yk .BitXor) (rI0 λi j=>.int (CI i j)):=opI0 λ_ _ _ _ _ _ _ q=>xor_int q
theorem unI{f:X0->Sem X0}{g:Int->Int}
  (rule:∀(i:Int)(t:Tok)(s:X2)(Q:X0->X2->Prop)(E:X0->X2->Prop),Q (.int (g i) s.toks) {s with toks:=s.toks+1}->X3 (X6 X.prog X.w) X.A (f (.int i t)) Q E s):
  UnR X f (rU λi=>.int (g i)):=by
 intro l s u H x v Q I j h;obtain⟨i,rfl,q⟩:=h;obtain⟨t,rfl⟩:=j;exact rule i t s _ _ ⟨.int (g i),H,I.tok _,⟨_,rfl⟩,q⟩
theorem _po:UnR X (unaryOp .USub) (rU λi=>.int (-i)):=unI λ_ _ _ _ _ q=>neg_int q
end
noncomputable def scal:V->V->Bool
 |.non,.non=>true|.non,.int _=>true|.int _,.non=>true|.non,.bl _=>true|.bl _,.non=>true|.non,.str _=>true|.str _,.non=>true
 |.int _,.int _=>true|.bl _,.bl _=>true|.str _,.str _=>true|.byt _,.byt _=>true
 |.int _,.str _=>true|.str _,.int _=>true|.bl _,.str _=>true|.str _,.bl _=>true
 |_,_=>false
def rEq:R2:=λx y H Q=>scal x y=true/\Q (.bl (decide (x=y))) H
def rNe:R2:=λx y H Q=>scal x y=true/\Q (.bl (!decide (x=y))) H
theorem IG:decide (V.int i=V.int j)=(i==j):=by
 rw[Ck];simp
theorem IH:decide (V.bl i=V.bl j)=(i==j):=by
 rw[Ck];simp
theorem II:decide (V.str i=V.str j)=(i==j):=by
 rw[Ck];simp
theorem IJ:decide (V.byt i=V.byt j)=(i.toList==j.toList):=by
 rw[Ck];cases i;cases j;simp
section
variable{X:Cx}{a b c:Expr}{ta tb tc:TE}{pos:Pos}
theorem XH{k:Bool}(I:Inv X pq σ H s)(q:Q (.bl k) H)(e:k=k'):EP X pq σ Q (.bool k') s:=by
 subst e;exact⟨.bl k,H,I,rfl,q⟩
theorem _sF:OpR X (XZ .Eq) rEq:=by
 intro g s d H x y v u Q I m l h;obtain⟨z,q⟩:=h;cases x with
 |non=>
  cases m;cases y with
  |non=>cases l;exact PySem.EqNone.eq_none_none (XH I q (by simp))
  |bl j=>cases l;exact PySem.EqNone.eq_none_bool (XH I q (by simp))
  |int j=>obtain⟨w,rfl⟩:=l;exact PySem.EqNone.eq_none_int (XH I q (by simp))
  |str j=>obtain⟨w,rfl⟩:=l;exact PySem.EqNone.eq_none_str (XH I q (by simp))
  |_=>exact absurd (show false=true from z) XG
 |bl i=>
  cases m;cases y with
  |non=>cases l;exact PySem.EqNone.eq_bool_none (XH I q (by simp))
  |bl j=>cases l;exact eq_bool (XH I q IH)
  |str j=>obtain⟨w,rfl⟩:=l;exact PySem.EqMixed.eq_bool_str (XH I q (by simp))
  |_=>exact absurd (show false=true from z) XG
 |int i=>
  obtain⟨t,rfl⟩:=m;cases y with
  |non=>cases l;exact PySem.EqNone.eq_int_none (XH I q (by simp))
  |int j=>obtain⟨w,rfl⟩:=l;exact eq_int (XH I q IG)
  |str j=>obtain⟨w,rfl⟩:=l;exact PySem.EqMixed.eq_int_str (XH I q (by simp))
  |_=>exact absurd (show false=true from z) XG
 |str i=>
  obtain⟨t,rfl⟩:=m;cases y with
  |non=>cases l;exact PySem.EqNone.eq_str_none (XH I q (by simp))
  |bl j=>cases l;exact PySem.EqMixed.eq_str_bool (XH I q (by simp))
  |int j=>obtain⟨w,rfl⟩:=l;exact PySem.EqMixed.eq_str_int (XH I q (by simp))
  |str j=>obtain⟨w,rfl⟩:=l;exact eq_str (XH I q II)
  |_=>exact absurd (show false=true from z) XG
 |byt i=>
  obtain⟨t,rfl⟩:=m;cases y with
  |byt j=>obtain⟨w,rfl⟩:=l;exact PySem.W.eq_bytes (XH I q IJ)
  |_=>exact absurd (show false=true from z) XG
 |_=>cases y<;>exact absurd (show false=true from z) XG
theorem _sA:OpR X (XZ .NotEq) rNe:=by
 intro g s d H x y v u Q I m l h;obtain⟨z,q⟩:=h;cases x with
 |non=>
  cases m;cases y with
  |non=>cases l;exact PySem.EqNone.ne_none_none (XH I q (by simp))
  |bl j=>cases l;exact PySem.EqNone.ne_none_bool (XH I q (by simp))
  |int j=>obtain⟨w,rfl⟩:=l;exact PySem.EqNone.ne_none_int (XH I q (by simp))
  |str j=>obtain⟨w,rfl⟩:=l;exact PySem.EqNone.ne_none_str (XH I q (by simp))
  |_=>exact absurd (show false=true from z) XG
 |bl i=>
  cases m;cases y with
  |non=>cases l;exact PySem.EqNone.ne_bool_none (XH I q (by simp))
  |bl j=>cases l;exact ne_bool (XH I q (congrArg not IH))
  |str j=>obtain⟨w,rfl⟩:=l;exact PySem.EqMixed.ne_bool_str (XH I q (by simp))
  |_=>exact absurd (show false=true from z) XG
 |int i=>
  obtain⟨t,rfl⟩:=m;cases y with
  |non=>cases l;exact PySem.EqNone.ne_int_none (XH I q (by simp))
  |int j=>obtain⟨w,rfl⟩:=l;exact ne_int (XH I q (congrArg not IG))
  |str j=>obtain⟨w,rfl⟩:=l;exact PySem.EqMixed.ne_int_str (XH I q (by simp))
  |_=>exact absurd (show false=true from z) XG
 |str i=>
  obtain⟨t,rfl⟩:=m;cases y with
  |non=>cases l;exact PySem.EqNone.ne_str_none (XH I q (by simp))
  |bl j=>cases l;exact PySem.EqMixed.ne_str_bool (XH I q (by simp))
  |int j=>obtain⟨w,rfl⟩:=l;exact PySem.EqMixed.ne_str_int (XH I q (by simp))
  |str j=>obtain⟨w,rfl⟩:=l;exact ne_str (XH I q (congrArg not II))
  |_=>exact absurd (show false=true from z) XG
 |byt i=>
  obtain⟨t,rfl⟩:=m;cases y with
  |byt j=>obtain⟨w,rfl⟩:=l;exact PySem.W.ne_bytes (XH I q (congrArg not IJ))
  |_=>exact absurd (show false=true from z) XG
 |_=>cases y<;>exact absurd (show false=true from z) XG
theorem _sB:OpR X (XZ .Lt) (rI0 λi j=>.bl (decide (i<j))):=opB0 λ_ _ _ _ _ _ _ q=>lt_int q
theorem _sC:OpR X (XZ .LtE) (rI0 λi j=>.bl (decide (i<=j))):=opB0 λ_ _ _ _ _ _ _ q=>le_int q
theorem _sD:OpR X (XZ .Gt) (rI0 λi j=>.bl (decide (j<i))):=opB0 λ_ _ _ _ _ _ _ q=>gt_int q
theorem _sE:OpR X (XZ .GtE) (rI0 λi j=>.bl (decide (j<=i))):=opB0 λ_ _ _ _ _ _ _ q=>ge_int q
theorem _qu:OpR X (XZ .Is) (λx y H Q=>y=.non/\Q (.bl (decide (x=.non))) H):=by
 intro w s z H x y v u Q I j l h;obtain⟨rfl,q⟩:=h;cases l;refine is_none_gen (XH I q ?_);cases x<;>first
  |(cases j;rfl)
  |(obtain⟨t,rfl⟩:=j;rfl)
theorem _nR:OpR X (XZ .IsNot) (λx y H Q=>y=.non/\Q (.bl (!decide (x=.non))) H):=by
 intro w s z H x y v u Q I j l h;obtain⟨rfl,q⟩:=h;cases l;refine isnot_none_gen (XH I q ?_);cases x<;>first
  |(cases j;rfl)
  |(obtain⟨t,rfl⟩:=j;rfl)
theorem _nN{op:CmpOp}{r:R2}(j:OpR X (XZ op) r)(l:PE X a ta)(w:PE X b tb)(z:behindInMarks op b=false):PE X (.Compare a [op] [b] pos) (tOp r ta tb):=by
 intro m s g H Q I h;exact wpAny_Compare1 (binT l w I h λv u d x y f p e L q=>j m d g f x y v u Q p e L q) z
noncomputable def IK(t:TE):TT:=λj H Q=>t j H λx l=>∃k,x=.bl k/\Q k l
theorem _ny{op:CmpOp}{r:R2}(w:OpR X (XZ op) r)(m:PE X a ta)(g:PE X b tb)(d:behindInMarks op b=false):PT X (.Compare a [op] [b] pos) (IK (tOp r ta tb)):=by
 intro j s l H Q I h;refine wpAny_isTrue_Compare1 (thn (m j s l H _ I h) λv f ⟨x,q,p,L,N⟩=>thn (g j f l q _ p N) λu O ⟨y,P,R,T,U⟩=>
  thn (w j O l P x y v u _ R L T U) λc B ⟨z,W,Y,Z,k,e,A⟩=>?_) d
 subst e;cases Z;exact Zy ⟨W,Y,A⟩
noncomputable def Es(r u:R2)(ta tb tc:TE):TE:=λj H Q=>ta j H λx w=>tb j w λy m=>r x y m λz l=>∃k,z=.bl k/\
 (if k=true then tc j l λg d=>u y g d Q else Q (.bl false) l)
theorem _lh{op j:CmpOp}{r g:R2}(N:OpR X (XZ op) r)(m:OpR X (XZ j) g)(O:PE X a ta)(P:PE X b tb)(R:PE X c tc)
  (T:lastMarks [op,j] [b,c]=false:=by with_unfolding_all rfl):PE X (.Compare a [op,j] [b,c] pos) (Es r g ta tb tc):=by
 intro l s w H Q I h;refine Compare_chain (thn (O l s w H _ I h) λv U ⟨x,W,Y,Z,A⟩=>chain_link (thn (P l U w W _ Y A) λu B ⟨y,C,D,f,E⟩=>
  thn (N l B w C x y v u _ D Z f E) λd F ⟨z,q,p,G,k,e,L⟩=>?_)) T
 subst e;cases G;refine Zy ?_;cases k with
 |false=>exact ite_ff ⟨.bl false,q,p,rfl,L⟩
 |true=>exact ite_tt (chain_last (thn (R l F w q _ p L) λJ M ⟨S,o,i,n,q4⟩=>m l M w o y S u J Q i f n q4))
theorem _l6{op j:CmpOp}{r g:R2}(N:OpR X (XZ op) r)(m:OpR X (XZ j) g)(O:PE X a ta)(P:PE X b tb)(R:PE X c tc)
  (T:lastMarks [op,j] [b,c]=false:=by with_unfolding_all rfl):PT X (.Compare a [op,j] [b,c] pos) (IK (Es r g ta tb tc)):=by
 intro l s w H Q I h;refine isTrue_chain (thn (O l s w H _ I h) λv U ⟨x,W,Y,Z,A⟩=>test_link (thn (P l U w W _ Y A) λu B ⟨y,C,D,f,E⟩=>
  thn (N l B w C x y v u _ D Z f E) λd F ⟨z,q,p,G,k,e,L⟩=>?_)) T
 subst e;cases G;refine Zy ?_;cases k with
 |false=>
  obtain⟨k',J,M⟩:=L;cases J;exact ite_ff ⟨q,p,M⟩
 |true=>
  refine ite_tt (test_last (thn (R l F w q _ p L) λS o ⟨i,n,I4,r4,q4⟩=>thn (m l o w n y i u S _ I4 f r4 q4) λd' s5 ⟨z2,H5,I5,r5,k2,e2,q5⟩=>?_));subst e2;cases r5;exact Zy ⟨H5,I5,q5⟩
theorem VO:(sizeLine:Nat)<2^63:=by rw[sizeLine_eq];decide
theorem _hO:OpR X (Yk .Add) (λx y H Q=>∃i j,x=.str i/\y=.str j/\i.length+j.length<=sizeLine/\Q (.str (i++j)) H):=by
 intro g s d H x y v u Q I l w h;obtain⟨i,j,rfl,rfl,z,q⟩:=h;obtain⟨t,rfl⟩:=l;obtain⟨m,rfl⟩:=w;exact add_str (λm f=>⟨.str (i++j),H,I.tok _,⟨_,rfl⟩,q⟩) z
theorem _r(r:Vals [x] us):∃u,us=[u]/\RelV x u:=by
 cases r with
 |cons j l=>cases l;exact⟨_,rfl,j⟩
theorem VP(r:Vals [x,y] us):∃u j,us=[u,j]/\RelV x u/\RelV y j:=by
 cases r with
 |cons l w=>
  cases w with
  |cons z m=>cases m;exact⟨_,_,rfl,l,z⟩
theorem _kj(l:X.calm=true):YC X (.builtin "max") (fun xs H Q=>∃i j,xs=[.int i,.int j]/\Q (.int (if j>i then j else i)) H):=by
 intro w s y H xs z Q I r h;obtain⟨i,j,rfl,q⟩:=h;obtain⟨u,m,rfl,⟨t,rfl⟩,⟨g,rfl⟩⟩:=VP r;refine max_two_ints (I.ok.hd l) λd f k=>⟨_,H,I.kept k,?_,q⟩;by_cases hj:j>i
 .rw[if_pos hj,if_pos hj];exact⟨_,rfl⟩
 .rw[if_neg hj,if_neg hj];exact⟨_,rfl⟩
theorem _ki(l:X.calm=true):YC X (.builtin "min") (fun xs H Q=>∃i j,xs=[.int i,.int j]/\Q (.int (if j<i then j else i)) H):=by
 intro w s y H xs z Q I r h;obtain⟨i,j,rfl,q⟩:=h;obtain⟨u,m,rfl,⟨t,rfl⟩,⟨g,rfl⟩⟩:=VP r;refine min_two_ints (I.ok.hd l) λd f k=>⟨_,H,I.kept k,?_,q⟩;by_cases hj:j<i
 .rw[if_pos hj,if_pos hj];exact⟨_,rfl⟩
 .rw[if_neg hj,if_neg hj];exact⟨_,rfl⟩
theorem _km:YC X (.type "int") (fun xs H Q=>(∃i,xs=[.int i]/\Q (.int i) H)\/∃k,xs=[.bl k]/\Q (.int (if k then 1 else 0)) H):=by
 intro l s w H xs y Q I r h;rcases h with⟨i,rfl,q⟩|⟨k,rfl,q⟩
 .obtain⟨u,rfl,t,rfl⟩:=_r r;exact call_int_int ⟨.int i,H,I,⟨_,rfl⟩,q⟩
 .obtain⟨u,rfl,j⟩:=_r r;cases j;exact call_int_bool ⟨.int (if k then 1 else 0),H,I.tok _,⟨_,rfl⟩,q⟩
end
structure ObjM (h:Heap)(x dx C:Addr)(mA:Str->Option X0):Prop where
 obj:h.get? x=some (Ut C dx)
 ns:h.Ns1 dx mA
 ne:dx≠x
set_option tactic.hygienic true in
theorem _je{h:Heap}{l:Addr}{u:Str->Option X0}(n:h.Ns1 l u):∃w,h.get? l=some w/\∀name,C8 name w=some (u name):=by
 obtain⟨o,m,L,g,d,c,_,f⟩:=n;refine⟨o,g,λname=>?_⟩;have e:=f name;unfold nsFind findBy at e;rw[<-Array.find?_toList]at e;unfold C8;rw[d];dsimp only;split
 .rename_i y q
  rw[q]at e;exact congrArg some e
 .rename_i q
  rw[q]at e;have a:m.toList.any (·.refKey)=false:=by
   rw[List.any_eq_false];intro y r;obtain⟨z,t,j⟩:=c y (Array.mem_toList_iff.mp r);simp[DictEntry.refKey,j]
  have p:¬m.toList.any (·.refKey)=true:=by rw[a];exact XG
  rw[if_neg p];exact congrArg some e
theorem ObjM.look(I:ObjM h x dx C mA):∃j,PySem.W.InstAt h x (Ut C dx) C (some j)/\∀name,C8 name j=some (mA name):=
 let⟨j,ho,hl⟩:=_je I.ns
 ⟨j,⟨I.obj,rfl,rfl,ho⟩,hl⟩
section
variable{prog:Xw}{w:Xn}{A:Xz}{E:X0->X2->Prop}{s:X2}{K:X4}{x dx C f:Addr}{mA:Str->Option X0}{name:Str}{v:X0}
theorem _oL(X:K.In s.heap)(I:ObjM s.heap x dx C mA)(l:UT K C name=true)(u:Vy K C=true)
  (y:XV K (.ref C) name=some none)(z:mA name=some v)(j:PySem.W.handedIn v=true)(h:Q v {s with toks:=s.toks+1}):
  X3 (X6 prog w) A (getAttr (.ref x) name expr) Q E s:=by
 obtain⟨g,J,m⟩:=I.look;exact PySem.W.get_value X J (E3 l).1 (PySem.W.findObj_own u y rfl (by rw[m,z])) j h
theorem _lP(X:K.In s.heap)(I:ObjM s.heap x dx C mA)(j:UT K C name=true)
  (l:XV K (.ref C) name=some (some (.ref f)))(u:Cb K (.ref f)=true)(y:mA name=none)(h:Q (.ref f,[.ref x]) s):
  X3 (X6 prog w) A (getMethod (.ref x) name pl) Q E s:=by
 obtain⟨z,J,m⟩:=I.look;exact PySem.W.method_fn X J (E3 j).1 (E3 j).2 l (beq_iff_eq.mp u) (by show(C8 name z).map (·.isSome)=some false;rw[m,y];rfl) h
theorem _ne(X:K.In s.heap)(I:ObjM s.heap x dx C mA)
  (d:XV K (.ref C) "__setattr__"=some (some (.builtin "object.__setattr__")))(c:Wp K C=true)(q:E6 K C name=some none)(p:Vy K C=true)
  (hw:Ef mA ns)(hsz:ns.length<=sizeLine)
  (h:∀h',ObjM h' x dx C (λy=>if y=name then some v else mA y)->U2 dx s.heap h'->Q () {s with heap:=h',toks:=s.toks+2}):
  X3 (X6 prog w) A (setAttr (.ref x) name v) Q E s:=by
 obtain⟨P,J,R⟩:=I.look;refine PySem.W.set_plain X J d (PySem.W.osa_open (s:={s with toks:=s.toks+1}) (r:=none) X J c q λb=>?_);obtain⟨T,e,u⟩:=PySem.W.any_some p;have L:s.heap.get? x=some ⟨.ref C,some dx,.plain,#[]⟩:=I.obj;refine X1 (X9 (X1 (X1 (wpAny_loadPart L (X1 (PySem.W.Looks.here (s:={s with toks:=s.toks+1}) (PySem.W.looks_clsIn X e) ?_))))));rw[u];refine X9 (a:=some dx) (X1 (X9 (X1 ?_)));refine wpAny_nsSet1 (s:={s with toks:=s.toks+1}) I.ns λh' j l=>?_;obtain⟨U,N,O,z,m,g⟩:=j.count (PySem.Within.cons name v hw);refine X1 (wpAny_lookBehind z (by rw[m];exact pastItsLine_dict (Y4 g (by rw[Yl];lia))) ?_)
 exact X9 (h _ ⟨(l.2 _ (XM I.ne)).trans I.obj,j,I.ne⟩ l)
theorem _lu(X:K.In s.heap)(l:Wq K C=true)
  (u:XV K (.ref C) "__init__"=some (some (.ref f)))(y:PySem.W.typeIn K (.ref f)=some (.type "function"))
  (h:YW (X6 prog w) (A.under (.builtin "type.__call__" ⟨.ref C::vs,kw⟩)) (.call (.ref f) ⟨.ref (s.heap.objs.size+1)::vs,kw⟩) (PySem.W.InitBack (s.heap.objs.size+1) R)
   {s with heap:=(s.heap.push U1).push (Ut C s.heap.objs.size)}):
  YW (X6 prog w) A (.call (.ref C) ⟨vs,kw⟩) R s:=by
 obtain⟨z,g,d,t,os⟩:=s;exact PySem.W.make_core (PySem.W.makes_of X l) (PySem.W.looks_findIn X u) (λj=>PySem.W.bind_fn X j y) (.inl rfl) h
end
noncomputable def putF(f:Str)(v:V):List (Str×V)->List (Str×V)
 |[]=>[(f,v)]
 |(g,x)::r=>if g=f then(g,v)::r else(g,x)::putF f v r
theorem IL(f g:Str)(v:V):∀fs:List (Str×V),(putF f v fs).lookup g=if g=f then some v else fs.lookup g
 |[]=>by
  show U0 g [(f,v)]=_;by_cases h:g=f
  .have j:(g==f)=true:=beq_iff_eq.mpr h;simp only[U0,j,if_pos h]
  .have j:(g==f)=false:=beq_eq_false_iff_ne.mpr h;simp only[U0,j,if_neg h]
 |(k,x)::r=>by
  have l:=IL f g v r;rw[show putF f v ((k,x)::r)=(if k=f then(k,v)::r else(k,x)::putF f v r)from rfl];by_cases hk:k=f
  .rw[if_pos hk];by_cases h:g=k
   .have j:(g==k)=true:=beq_iff_eq.mpr h;simp only[U0,j,if_pos (h.trans hk)]
   .have j:(g==k)=false:=beq_eq_false_iff_ne.mpr h;simp only[U0,j,if_neg (λe:g=f=>h (e.trans hk.symm))]
  .rw[if_neg hk];by_cases h:g=k
   .have j:(g==k)=true:=beq_iff_eq.mpr h;simp only[U0,j,if_neg (λe:g=f=>hk (h.symm.trans e))]
   .have j:(g==k)=false:=beq_eq_false_iff_ne.mpr h;simp only[U0,j];exact l
theorem Et(f:Str)(v:V):∀fs:List (Str×V),f∈(putF f v fs).map (·.1)/\∀g,g∈fs.map (·.1)->g∈(putF f v fs).map (·.1)
 |[]=>⟨by simp[putF],λg h=>by simp at h⟩
 |(k,x)::r=>by
  obtain⟨j,l⟩:=Et f v r;rw[show putF f v ((k,x)::r)=(if k=f then(k,v)::r else(k,x)::putF f v r)from rfl];by_cases hk:k=f
  .rw[if_pos hk];subst hk;exact⟨by simp,λg h=>by simpa using h⟩
  .rw[if_neg hk];refine⟨?_,λg h=>?_⟩
   .rw[Xx];exact XS _ j
   .rw[Xx]at h ⊢;rcases Xl.mp h with e|e
    .exact Xl.mpr (.inl e)
    .exact XS _ (l g e)
theorem IM(f:Str)(v:V):∀fs:List (Str×V),(putF f v fs).length<=fs.length+1
 |[]=>by simp[putF]
 |(k,x)::r=>by
  have j:=IM f v r;rw[show putF f v ((k,x)::r)=(if k=f then(k,v)::r else(k,x)::putF f v r)from rfl];by_cases hk:k=f
  .rw[if_pos hk,Yl,Yl];lia
  .rw[if_neg hk,Yl,Yl];lia
theorem RelO.some_of(r:RelO (some v) o):∃u,o=some u/\RelV v u:=by
 cases o with
 |none=>exact(show False from r).elim
 |some u=>exact⟨u,rfl,r⟩
theorem RelO.none_of(r:RelO none o):o=none:=by
 cases o with
 |none=>rfl
 |some u=>exact(show False from r).elim
theorem _jY(r:RelV v u):PySem.W.handedIn u=true:=by
 cases v with
 |non=>cases(show u=Xt from r);rfl
 |bl b=>cases(show u=Yc b from r);rfl
 |int i=>obtain⟨t,e⟩:=(show∃t,u=VF i t from r);cases e;rfl
 |str x=>obtain⟨t,e⟩:=(show∃t,u=XF x t from r);cases e;rfl
 |byt b=>obtain⟨t,e⟩:=(show∃t,u=Value.bytes b t from r);cases e;rfl
 |flt b=>obtain⟨t,e⟩:=(show∃t,u=Co b t from r);cases e;rfl
 |ref a=>cases(show u=Xo a from r);rfl
 |ty n=>cases(show u=XD n from r);rfl
section
variable{P:Xw}{w:Xn}{H H':Hp}{h h':Heap}{a C dx:Addr}{fs fs':List (Str×V)}
theorem WE(l:HOk P w H h)(e:H a=some (.ins C dx fs)):∃j,ObjM h a dx C j/\(∀f,RelO (fs.lookup f) (j f))/\Ef j (fs.map (·.1))/\fs.length<=1000/\H dx=some (.own a):=by
 obtain⟨d,z,u,y,j,n,r,q⟩:=(show ObjOk P w H h a (.ins C dx fs)from l a _ e);exact⟨j,⟨y,n,u⟩,r,q,z,d⟩
end
structure Cls (K:X4)(C:Addr):Prop where
 pg:UT K C U4=true
 hd:Vy K C=true
 po:Wp K C=true
 sa:XV K (.ref C) "__setattr__"=some (some (.builtin "object.__setattr__"))
theorem Cls.get{K:X4}(c:Cls K C)(f:Str):UT K C f=true:=c.pg
noncomputable def NoAttr(K:X4)(C:Addr)(f:Str):Prop:=XV K (.ref C) f=some none
theorem NoAttr.taker{K:X4}(n:NoAttr K C f):E6 K C f=some none:=by
 unfold E6;rw[show XV K (.ref C) f=some none from n]
 rfl
structure Meth (K:X4)(C:Addr)(m:Str)(f:Addr):Prop where
 at_:XV K (.ref C) m=some (some (.ref f))
 fn:Cb K (.ref f)=true
 kp:YQ K (.ref f)=true
section
variable{X:Cx}{pq:List (Addr×Obj)}{σ:St}{H:Hp}{s:X2}{a C dx:Addr}{fs:List (Str×V)}{f:Str}{v:V}{A:Xz}{E:X0->X2->Prop}
theorem _i7(I:Inv X pq σ H s)(e:H a=some (.ins C dx fs))(c:Cls X.K C)(n:NoAttr X.K C f)(l:fs.lookup f=some v)
  (h:∀u j,Inv X pq σ H j->RelV v u->Q u j):X3 (X6 X.prog X.w) A (getAttr (.ref a) f b) Q E s:=by
 obtain⟨y,O,r,_,_,_⟩:=WE I.hok e;obtain⟨u,z,w⟩:=RelO.some_of (v:=v) (o:=y f) (by rw[<-l];exact r f)
 exact _oL I.kIn O (c.get f) c.hd n z (_jY w) (h u _ (I.tok _) w)
theorem IN(I:Inv X pq σ H s)(e:H a=some (.ins C dx fs))(c:Cls X.K C)(k:Meth X.K C m g)(l:fs.lookup m=none)
  (h:Q (.ref g,[.ref a]) s):X3 (X6 X.prog X.w) A (getMethod (.ref a) m pl) Q E s:=by
 obtain⟨j,O,r,_,_,_⟩:=WE I.hok e;have u:j m=none:=RelO.none_of (by rw[<-l];exact r m)
 exact _lP I.kIn O (c.get m) k.at_ k.fn u h
theorem _hE(I:Inv X pq σ H s)(e:H a=some (.ins C dx fs))(c:Cls X.K C)(n:NoAttr X.K C f)(W:fs.length<1000)(p:RelV y u)
  (h:∀l,Inv X pq σ (upd H a (.ins C dx (putF f y fs))) l->Q () l):X3 (X6 X.prog X.w) A (setAttr (.ref a) f u) Q E s:=by
 obtain⟨w,O,r,m,_,d⟩:=WE I.hok e;have L:(fs.map (·.1)).length<=sizeLine:=by rw[Xb,sizeLine_eq];lia
 refine _ne I.kIn O c.sa c.po n.taker c.hd m L λN j P=>h _ ?_;have R:∃o,N.get? dx=some o:=let⟨o,_,_,e',_⟩:=j.ns;⟨o,e'⟩
 refine I.write (x:=a) (e:=dx) (by rw[e];exact Yw) (.inr d) (λb q T z=>(P.2 b T).trans z) R ?_
 refine⟨by rw[XN O.ne];exact d,?_,O.ne,j.obj,_,j.ns,λg=>?_,λg U=>?_⟩
 .have:=IM f y fs;lia
 .show RelO ((putF f y fs).lookup g) (if g=f then some u else w g);rw[IL];by_cases q:g=f
  .rw[if_pos q,if_pos q];exact p
  .rw[if_neg q,if_neg q];exact r g
 .by_cases q:g=f
  .rw[q];exact(Et f y fs).1
  .refine(Et f y fs).2 g (m g λz=>U ?_);show(if g=f then some u else w g)=none;rw[if_neg q];exact z
theorem Inv.made(I:Inv X pq σ H s):Inv X pq σ (upd (upd H s.heap.objs.size (.own (s.heap.objs.size+1))) (s.heap.objs.size+1) (.ins C s.heap.objs.size []))
  {s with heap:=(s.heap.push U1).push (Ut C s.heap.objs.size)}:=by
 have j:(s.heap.push U1).get? s.heap.objs.size=some U1:=XR s.heap rfl;have w:((s.heap.push U1).push (Ut C s.heap.objs.size)).get? (s.heap.objs.size+1)=some (Ut C s.heap.objs.size):=by
  have:=XR (s.heap.push U1) (o:=Ut C s.heap.objs.size) rfl
  rwa [Zo]at this
 have z:(s.heap.push U1).Ns s.heap.objs.size (λ_=>none):=⟨U1,#[],_,j,rfl,(λe m=>absurd m (by simp)),λ_=>rfl⟩
 have g:=I.laid (a:=s.heap.objs.size) (o:=.own (s.heap.objs.size+1)) (h':=s.heap.push U1) (t':=s.toks) (λb u q=>Xq _ q) (Xf _) ⟨_,j⟩;refine g.laid (a:=s.heap.objs.size+1) (o:=.ins C s.heap.objs.size []) (t':=s.toks) (λb u q=>Xq _ q) (Wr (Zo _ _)) ?_;have l:s.heap.objs.size≠s.heap.objs.size+1:=XB (VA _);refine⟨by rw[XN l,_I],YA _,l,w,λ_=>none,(Heap.Ns1.of_empty z).at λo q=>Xq _ q,λ_=>Yw,λy d=>absurd rfl d⟩
theorem _p7(l:Ul e f env (eval e env)=eval e env)
  (h:X3 (X6 prog w) A (eval e env) (λo j=>X3 (X6 prog w) A (getAttr o f true) Q E j) E s):X3 (X6 prog w) A (eval (.Attribute e f pos) env) Q E s:=
 Attribute_any_ h (by rw[arm_eval_Attribute,l])
end
def tFld(K:X4)(ta:TE)(f:Str):TE:=λl H Q=>ta l H λx j=>∃a C u fs v,x=.ref a/\j a=some (.ins C u fs)/\Cls K C/\NoAttr K C f/\fs.lookup f=some v/\Q v j
def sFld(K:X4)(ta w:TE)(f:Str):TS:=λD j H=>w j H λy z=>ta j z λx l=>∃a C u fs,x=.ref a/\l a=some (.ins C u fs)/\Cls K C/\NoAttr K C f/\fs.length<1000/\
 D.nx j (upd l a (.ins C u (putF f y fs)))
section
variable{X:Cx}{o e value:Expr}{f:Str}{pos pos' tpos:Pos}{ta tv:TE}
theorem _qj(j:PE X e ta)(w:Ul e f X.env (eval e X.env)=eval e X.env):PE X (.Attribute e f pos) (tFld X.K ta f):=by
 intro y s z H Q I h;refine _p7 w (thn (j y s z H _ I h) λu O ⟨x,m,g,d,a,C,P,fs,v,r,p,c,n,l,q⟩=>?_);subst r;obtain rfl:u=Xo a:=d;exact _i7 g p c n l λR T L N=>⟨v,m,L,N,q⟩
theorem _qc(z:PE X o ta)(m:PE X value tv)(g:Zz value (some (.Attribute o f pos')) pos.line X.env=pure false):PS X (.Assign [.Attribute o f pos'] value pos) (sFld X.K ta tv f):=by
 intro w s j H D I h;refine plainObj_wpAny_Assign_Attribute (thn (m w s j H _ I h) λu d ⟨y,r,p,L,q⟩=>thn (z w d j r _ p q) λN Y ⟨x,Z,O,P,a,C,A,fs,R,T,c,n,l,U⟩=>?_) g;subst R;obtain rfl:N=Xo a:=P;exact _hE O T c n l L λB W=>⟨j,_,W,U⟩
end
section
variable{X:Cx}{pq:List (Addr×Obj)}{σ:St}{H:Hp}{s:X2}{A:Xz}{E:X0->X2->Prop}{Q:X0->X2->Prop}{c:X0}{b:Bool}
inductive TyOf (K:X4)(H:Hp):V->X0->Prop where
 |non:TyOf K H .non (.type "NoneType")
 |bl (x:Bool):TyOf K H (.bl x) (.type "bool")
 |int (i:Int):TyOf K H (.int i) (.type "int")
 |str (x:Str):TyOf K H (.str x) (.type "str")
 |flt (x:UInt64):TyOf K H (.flt x) (.type "float")
 |lst {a:Addr} {xs:List V} (e:H a=some (.lst xs)):TyOf K H (.ref a) (.type "list")
 |frz {a:Addr} {o:Obj} {xs:List V} (e:H a=some (.frz o (.lst xs))):TyOf K H (.ref a) (.type "list")
 |tup {a:Addr} {xs:List V} (e:H a=some (.tup xs)):TyOf K H (.ref a) (.type "tuple")
 |dK {a:Addr} {kvs:List (Key×V)} (e:H a=some (.dK kvs)):TyOf K H (.ref a) (.type "dict")
 |dT {a:Addr} {kvs:List (List Key×V)} (e:H a=some (.dT kvs)):TyOf K H (.ref a) (.type "dict")
 |ins {a C dx:Addr} {fs:List (Str×V)} (e:H a=some (.ins C dx fs))(cl:Cls K C)(ha:XV K (.ref C) "__class__"=some (some (.builtin "object.__class__")))
   (hn:PySem.W.specialIn K (.builtin "object.__class__") "__get__"=some (some (.builtin "getset_descriptor.__get__")))(htk:PySem.W.takesIn K (.builtin "object.__class__")=some true)
   (hm:PySem.W.mroIn K C (.type "object")=some true):TyOf K H (.ref a) (.ref C)
theorem _jr{t:X0}(I:Inv X pq σ H s)(j:RelV x u)(ty:TyOf X.K H x t)(e:UU X.K t c=some b)(h:∀tk,Q (.bool b) {s with toks:=tk}):
  X3 (X6 X.prog X.w) A (call (.builtin "isinstance") [u,c]) Q E s:=by
 cases ty with
 |non=>cases(show u=Xt from j);exact Zm PySem.W.kitx_none I.kIn Yw e (λz=>nomatch z) h
 |bl y=>cases(show u=Yc y from j);exact Zm PySem.W.kitx_bool I.kIn Yw e (λz=>nomatch z) h
 |int i=>obtain⟨t,q⟩:=(show∃t,u=VF i t from j);cases q;exact Zm PySem.W.kitx_int I.kIn Yw e (λz=>nomatch z) h
 |str y=>obtain⟨t,q⟩:=(show∃t,u=XF y t from j);cases q;exact Zm PySem.W.kitx_str I.kIn Yw e (λz=>nomatch z) h
 |flt y=>obtain⟨t,q⟩:=(show∃t,u=Co y t from j);cases q;exact Zm PySem.W.kitx_float I.kIn Yw e (λz=>nomatch z) h
 | @lst a g l=>
  cases(show u=Xo a from j);obtain⟨_,_,n,_,w⟩:=(show ObjOk X.prog X.w H s.heap a (.lst g)from I.hok a _ l);exact Zm C6 I.kIn ⟨_,w,rfl⟩ e (λz=>nomatch z) h
 | @frz a L g l=>
  cases(show u=Xo a from j);obtain⟨_,_,_,n,_,w⟩:=(show ObjOk X.prog X.w H s.heap a (.frz L (.lst g))from I.hok a _ l);exact Zm C6 I.kIn ⟨_,w,rfl⟩ e (λz=>nomatch z) h
 | @tup a g l=>
  cases(show u=Xo a from j);obtain⟨_,_,_,p⟩:=(show ObjOk X.prog X.w H s.heap a (.tup g)from I.hok a _ l);obtain⟨o,w,d,_⟩:=p.1;exact Zm PySem.W.kitx_tuple I.kIn ⟨o,w,d⟩ e (λz=>nomatch z) h
 | @dK a m l=>
  cases(show u=Xo a from j);obtain⟨_,_,W,_,p⟩:=(show ObjOk X.prog X.w H s.heap a (.dK m)from I.hok a _ l);obtain⟨o,N,P,w,d,_⟩:=p;exact Zm C7 I.kIn ⟨o,w,d.1⟩ e (λz=>nomatch z) h
 | @dT a m l=>
  cases(show u=Xo a from j);obtain⟨_,_,g,_,o,N,P,w,d,_⟩:=(show ObjOk X.prog X.w H s.heap a (.dT m)from I.hok a _ l);exact Zm C7 I.kIn ⟨o,w,d.1⟩ e (λz=>nomatch z) h
 | @ins a C Y fs l r R T f U=>
  cases(show u=Xo a from j);obtain⟨Z,O,_⟩:=WE I.hok l;obtain⟨B,J,_⟩:=O.look;exact Zm (PySem.W.kitx_own (r.get _) r.hd R T f U) I.kIn J e (λz=>nomatch z) h
end
structure Room (k:Nat)(A:Xz):Prop where
 hd:A.handled=none
 dp:A.depth+3*k+5<recursionLimit
 un:A.units+16*k+200<cLine
theorem Room.mono{k:Nat}(r:Room k A)(h:j<=k):Room j A:=⟨r.hd,by have:=r.dp;lia,by have:=r.un;lia⟩
theorem Room.deeper{k:Nat}(r:Room (k+1) A)(env:Env):Room k (A.deeper env):=
 ⟨r.hd,by have:=r.dp;show A.depth+1+3*k+5<_;lia,by have:=r.un;show A.units+3+16*k+200<_;lia⟩
theorem _hU{A:Xz}{C:Addr}{us:List X0}{j:List (Str×X0)}:(A.under (.builtin "type.__call__" ⟨.ref C::us,j⟩)).depth=A.depth+1:=by
 first|rfl|simp[Ee,Code.weight,Code.isCreation,Code.isGuard,Code.isCaller,Code.frames,Code.isFrame,guardIds]
theorem _hT{A:Xz}{C:Addr}{us:List X0}{j:List (Str×X0)}:(A.under (.builtin "type.__call__" ⟨.ref C::us,j⟩)).units=A.units+1:=by
 first|rfl|simp[Ee,Code.cUnits,Code.frames,Code.isFrame]
theorem Room.make{k:Nat}(r:Room (k+1) A)(C:Addr)(us:List X0)(j:List (Str×X0)):Room k (A.under (.builtin "type.__call__" ⟨.ref C::us,j⟩)):=
 ⟨r.hd,by have:=r.dp;rw[_hU];lia,by have:=r.un;rw[_hT];lia⟩
theorem Room.depth{k:Nat}(r:Room k A):A.depth<recursionLimit:=by have:=r.dp;lia
noncomputable def tNil:TA:=λ_ H Q=>Q [] H
noncomputable def VQ(ta:TE)(l:TA):TA:=λj H Q=>ta j H λx u=>l j u λw y=>Q (x::w) y
section
variable{X:Cx}{e:Expr}{es:List Expr}{te:TE}{t:TA}{pos:Pos}
theorem pa_nil:PA X [] tNil:=λ_ _ _ _ H Q I h=>Wz ⟨[],H,I,.nil,h⟩
theorem WF(w:PE X e te)(y:PA X es t)(z:XC (e::es) X.env=(false,eval e X.env)::XC es X.env:=by rfl):PA X (e::es) (VQ te t):=by
 intro pos j s l H Q I h;rw[z];show X3 _ _ (spliced ((false,eval e X.env)::Y2 pos (XC es X.env))) _ _ s;refine Wy (thn (w j s l H _ I h) λu m ⟨x,g,d,c,f⟩=>?_);exact thn (y pos j m l g _ d f) λO P ⟨q,r,p,L,N⟩=>⟨x::q,r,p,.cons c L,N⟩
def tTup(t:TA):TE:=λu H Q=>t u H λj l=>j.length<=sizeLine/\∀p,l p=none->Q (.ref p) (upd l p (.tup j))
def tLst(t:TA):TE:=λu H Q=>t u H λj l=>j.length<=sizeLine/\∀p,l p=none->Q (.ref p) (upd l p (.lst j))
theorem _qg{y}(h:PA X es t):PE X (.Tuple es y pos) (tTup t):=by
 intro m s g H Q I d;refine wpAny_Tuple_spliced (thn (h pos m s g H _ I d) λc j ⟨f,l,w,r,z,q⟩=>⟨by rw[<-r.length];exact z,?_⟩)
 have p:l j.heap.objs.size=none:=w.hok.fresh (Xf _);refine⟨.ref j.heap.objs.size,upd l j.heap.objs.size (.tup f),w.laid (t':=j.toks) (λb u e=>Xq _ e) (Xf _) ?_,rfl,q _ p⟩;exact⟨z,c,r,⟨_,XR _ rfl,rfl,_,rfl⟩,_,XR _ rfl,rfl⟩
theorem _qi(h:PA X es t):PE X (.List es pos) (tLst t):=by
 intro y s m H Q I g;refine wpAny_List_spliced (thn (h pos y s m H _ I g) λd j ⟨c,l,w,r,z,q⟩=>⟨by rw[<-r.length];exact z,?_⟩)
 have f:l j.heap.objs.size=none:=w.hok.fresh (Xf _);refine⟨.ref j.heap.objs.size,upd l j.heap.objs.size (.lst c),w.laid (t':=j.toks) (λb u e=>Xq _ e) (Xf _) ?_,rfl,q _ f⟩;exact⟨z,d,0,r,XR _ rfl⟩
end
abbrev Sp:=List V->Hp->VK->XK->Prop
abbrev CXT:=List Env->Hp->X2->XK->X0->X2->Prop
structure Env0 (P:Xw)(w:Xn)(K:X4)(mg:Str->Option X0)(base:Heap)(A:Xz)(outer:List Env)(s:X2)(H:Hp):Prop where
 frames:A.frames=some outer
 mod:Mod K mg base
 bs:∀b o,base.get? b=some o->s.heap.get? b=some o/\H b=none
 bsz:base.objs.size<=s.heap.objs.size
 funs:s.heap.FunFrames base outer
 frf:∀b∈frs outer,H b=none
 hok:HOk P w H s.heap
 bare:AllBare s.gens
def CE(j:List Env)(P:Xw)(w:Xn)(H:Hp)(s:X2)(Q:VK)(u:X0)(l:X2):Prop:=
 ∃v y,l.os=s.os/\AllBare l.gens/\Un (frs j) [] H y s.heap l.heap/\HOk P w y l.heap/\RelV v u/\Q v y
def CR(CX:CXT)(j:List Env)(P:Xw)(w:Xn)(H:Hp)(s:X2)(Q:VK)(E:XK)(r:Result)(l:X2):Prop:=
 match r with
 |.ok (.ret u)=>CE j P w H s Q u l
 |.ok _=>False
 |.error e=>CX j H s E e l
structure FnOk (P:Xw)(w:Xn)(K:X4)(mg:Str->Option X0)(base:Heap)(CX:CXT)(k:Nat)(f:Addr)(fd:Xd)(ps:List Str)(sp:Sp):Prop where
 len:∀vs H Q E,sp vs H Q E->vs.length=ps.length
 run:∀(A:Xz)(outer:List Env)(s:X2)(H:Hp)(args:Args)(us:List X0)(vs:List V)(Q:VK)(E:XK),Room k A->Env0 P w K mg base A outer s H->BindsTo s fd args (ps.zip us)->Vals vs us->sp vs H Q E->
  YW (X6 P w) A (.call (.ref f) args) (CR CX outer P w H s Q E) s
theorem FnOk.mono{K:X4}{k:Nat}(F:FnOk P w K mg base CX j f fd ps sp)(h:j<=k):
  FnOk P w K mg base CX k f fd ps sp:=⟨F.len,λA l s H u y z Q E m=>F.run A l s H u y z Q E (m.mono h)⟩
theorem FnOk.imp{K:X4}{k:Nat}(F:FnOk P w K mg base CX k f fd ps sp)
  (h:∀vs H Q E,sp' vs H Q E->sp vs H Q E):FnOk P w K mg base CX k f fd ps sp':=
 ⟨λvs H Q E q=>F.len vs H Q E (h _ _ _ _ q),λA j s H l u vs Q E y z m g d=>F.run A j s H l u vs Q E y z m g (h _ _ _ _ d)⟩
theorem Env0.make{K:X4}(e:Env0 P w K mg base A outer s H)(C:Addr)(us:List X0)(j:List (Str×X0)):
  Env0 P w K mg base (A.under (.builtin "type.__call__" ⟨.ref C::us,j⟩)) outer s H:=⟨by first|exact e.frames|(simpa [Ee,Code.envs,Code.isFrame,pushEnvs]using e.frames),e.mod,e.bs,e.bsz,e.funs,e.frf,e.hok,e.bare⟩
section
variable{X:Cx}{pq:List (Addr×Obj)}{σ:St}{H:Hp}{s s':X2}
theorem Inv.env0(I:Inv X pq σ H s):Env0 X.prog X.w X.K X.mg X.base X.A X.stack s H:=
 ⟨I.ok.frames,I.ok.mod,I.bs,Y4 I.ok.bsz I.sz,I.stack,I.stkFree,I.hok,I.bare⟩
theorem Inv.after(I:Inv X pq σ H s)(h:CE X.stack X.prog X.w H s Q u s'):EP X pq σ Q u s':=by
 obtain⟨v,y,os,j,un,l,r,q⟩:=h;obtain⟨m,g,d,t,w⟩:=s';obtain rfl:w=s.os:=os;exact⟨v,y,I.call (h':=m) (g':=g) (d':=d) (t':=t) (ch:=[]) un l j (λb z=>absurd z (by simp)),r,q⟩
end
noncomputable def Zrx(sp:Sp)(j:List V)(E:XK)(t:TA):TE:=λl H Q=>t l H λu w=>sp (u++j) w Q E
noncomputable def IP(C:Addr)(m:Str)(sp:Sp)(j:List V)(E:XK)(ta:TE)(t:TA):TE:=λl H Q=>ta l H λx u=>∃a w fs,x=.ref a/\u a=some (.ins C w fs)/\fs.lookup m=none/\
 t l u λy z=>sp (x::(y++j)) z Q E
def Zrt(C:Addr)(sp:Sp)(l:List V)(E:XK)(t:TA):TE:=λw H Q=>t w H λy u=>∀x j,u x=none->u j=none->j≠x->
 sp (.ref x::(y++l)) (upd (upd u j (.own x)) x (.ins C j [])) (λv z=>v=.non/\Q (.ref x) z) E
noncomputable def Binds(K:X4)(u:Xd)(ps:List Str)(l:List X0):Prop:=
 ∀(s:X2)(j:List X0),K.In s.heap->(j++l).length=ps.length->BindsTo s u ⟨j,[]⟩ (ps.zip (j++l))
theorem Binds.all{K:X4}(h:∀us:List X0,us.length=ps.length->bindArgs fd ⟨us,[]⟩=pure (ps.zip us)):Binds K fd ps []:=λs us _ j=>by
 rw[Vu]at j ⊢;exact .of_eq (h us j)
def V3(CX:CXT)(X:Cx)(E:XK):Prop:=∀(l:List (Addr×Obj))(u:St)(H:Hp)(s:X2)(e:X0)(j:X2),Inv X l u H s->CX X.stack H s E e j->X.xe e j
section
variable{X:Cx}{CX:CXT}{k:Nat}{f C:Addr}{fd:Xd}{ps:List Str}{sp:Sp}{dvs:List V}{ds:List X0}{E:XK}{x m:Str}{p pos apos:Pos}{e o:Expr}{es:List Expr}{ta:TE}{t:TA}
theorem Eu(F:FnOk X.prog X.w X.K X.mg X.base CX k f fd ps sp)(w:Room k X.A)(y:Binds X.K fd ps ds)(z:Vals dvs ds)(g:V3 CX X E)
  (I:Inv X pq σ H s)(r:Vals vs us)(h:sp (vs++dvs) H Q E):X3 (X6 X.prog X.w) X.A (call (.ref f) us) (EP X pq σ Q) X.xe s:=by
 have l:Vals (vs++dvs) (us++ds):=r.append z;have d:(us++ds).length=ps.length:=by rw[<-l.length];exact F.len _ _ _ _ h
 refine wpAny_call (Vi (F.run X.A X.stack s H ⟨us,[]⟩ (us++ds) (vs++dvs) Q E w I.env0 (y s us I.kIn d) l h) λr c j=>?_);cases r with
 |error e=>exact g pq σ H s e c I j
 |ok q=>
  cases q with
  |ret u=>exact I.after j
  |next=>exact Y5 j
  |brk=>exact Y5 j
  |cont=>exact Y5 j
theorem _nO(F:FnOk X.prog X.w X.K X.mg X.base CX k f fd ps sp)(w:Room k X.A)(y:Gl X x)(z:X.mg x=some (.ref f))(g:YQ X.K (.ref f)=true)(d:Binds X.K fd ps ds)(c:Vals dvs ds)(L:V3 CX X E)
  (N:PA X (e::es) t)(j:(x==("__debug__":Str))=false:=by decide)(O:XC (e::es) X.env=(false,eval e X.env)::XC es X.env:=by rfl)(l:(Y2 pos (XC es X.env)).any (·.1)=false:=by rfl):
  PE X (.Call (.Name x p) (e::es) [] pos) (Zrx sp dvs E t):=by
 intro P s R H Q I h;refine Um (Er I y z ?_ j);refine E4 (h₀:=X.base) I.ok.mod.kin g (thn (N pos P s R H _ I h) λT U ⟨W,Y,u,r,q⟩=>⟨u.kIn,?_⟩) O l;exact Eu F w d c L u r q
theorem _nJ{pl:Sem Bool}(N:PE X o ta)(c:Cls X.K C)(y:Meth X.K C m f)(F:FnOk X.prog X.w X.K X.mg X.base CX k f fd ps sp)(O:Room k X.A)(P:Binds X.K fd ps ds)(R:Vals dvs ds)(T:V3 CX X E)(U:PA X (e::es) t)
  (j:XC (e::es) X.env=(false,eval e X.env)::XC es X.env:=by rfl)(w:(Y2 pos (XC es X.env)).any (·.1)=false:=by rfl)
  (W:eval (.Call (.Attribute o m apos) (e::es) [] pos) X.env=(do
   let ov<- eval o X.env
   standAt apos.atName
   let(f,first)<- Z6 [ov] (getMethod ov m pl)
   callWith pos f first (Y2 pos (XC (e::es) X.env)) (ZX pos (ZY [] X.env))):=by rfl):
  PE X (.Call (.Attribute o m apos) (e::es) [] pos) (IP C m sp dvs E ta t):=by
 intro z s g H Q I h;refine HI (pl:=pl) (thn (N z s g H _ I h) λu Y ⟨x,Z,d,A,a,S,fs,B,D,l,q⟩=>?_) W;subst B;obtain rfl:u=Xo a:=A;refine IN d D c y l ?_;refine E4 (first:=[.ref a]) (h₀:=X.base) I.ok.mod.kin y.kp (thn (U pos z Y g Z _ d q) λG v ⟨J,i,L,r,M⟩=>⟨L.kIn,?_⟩) j w
 exact Eu (us:=.ref a::G) (vs:=.ref a::J) F O P R T L (.cons rfl r) M
theorem _le{pl:Sem Bool}(y:PE X o ta)(c:Cls X.K C)(w:Meth X.K C m f)(F:FnOk X.prog X.w X.K X.mg X.base CX k f fd ps sp)(z:Room k X.A)(g:Binds X.K fd ps ds)(d:Vals dvs ds)(r:V3 CX X E)
  (L:eval (.Call (.Attribute o m apos) [] [] pos) X.env=(do
   let ov<- eval o X.env
   standAt apos.atName
   let(f,first)<- Z6 [ov] (getMethod ov m pl)
   callWith pos f first (Y2 pos (XC [] X.env)) (ZX pos (ZY [] X.env))):=by rfl):
  PE X (.Call (.Attribute o m apos) [] [] pos) (IP C m sp dvs E ta tNil):=by
 intro N s O H Q I h;refine HI (pl:=pl) (thn (y N s O H _ I h) λu U ⟨x,W,j,P,a,Y,fs,R,T,l,q⟩=>?_) L;subst R;obtain rfl:u=Xo a:=P;refine IN j T c w l ?_;exact PySem.W.callWith_K0 (first:=[.ref a]) j.kIn w.kp (Eu (us:=[.ref a]) (vs:=[.ref a]) F z g d r j (.cons rfl .nil) q)
structure Mk (K:X4)(C f:Addr):Prop where
 makes:Wq K C=true
 init:XV K (.ref C) "__init__"=some (some (.ref f))
 fn:Cb K (.ref f)=true
 kp:YQ K (.ref C)=true
theorem _l3(M:Mk X.K C f)(F:FnOk X.prog X.w X.K X.mg X.base CX k f fd ps sp)(g:Room (k+1) X.A)(d:Binds X.K fd ps ds)(c:Vals dvs ds)
  (q:V3 CX X E)(I:Inv X pq σ H s)(r:Vals vs us)
  (h:∀x l,H x=none->H l=none->l≠x->sp (.ref x::(vs++dvs)) (upd (upd H l (.own x)) x (.ins C l [])) (λv L=>v=.non/\Q (.ref x) L) E):
  X3 (X6 X.prog X.w) X.A (call (.ref C) us) (EP X pq σ Q) X.xe s:=by
 have y:=h (s.heap.objs.size+1) s.heap.objs.size (I.hok.fresh (Uw _)) (I.hok.fresh (Xf _)) (XB (VA _));have w:=Inv.made (C:=C) I;have z:Vals (V.ref (s.heap.objs.size+1)::(vs++dvs)) (Xo (s.heap.objs.size+1)::(us++ds)):=.cons rfl (r.append c);have N:(Xo (s.heap.objs.size+1)::us++ds).length=ps.length:=by
  have e:=z.length;rw[F.len _ _ _ _ y]at e;exact e.symm
 refine wpAny_call (_lu (f:=f) I.kIn M.makes M.init (beq_iff_eq.mp M.fn) (Vi (F.run _ X.stack _ _ ⟨Xo (s.heap.objs.size+1)::us,[]⟩ (Xo (s.heap.objs.size+1)::(us++ds)) _ _ E (g.make C us [])
  (w.env0.make C us []) (d _ (Xo (s.heap.objs.size+1)::us) w.kIn N) z y) λr O j=>?_))
 cases r with
 |error e=>exact q pq σ _ _ e O w j
 |ok P=>
  cases P with
  |ret u=>
   obtain⟨v,R,T,U,W,Y⟩:=w.after j;subst W;exact⟨U,⟨V.ref (s.heap.objs.size+1),R,T,rfl,Y⟩⟩
  |next=>exact Y5 j
  |brk=>exact Y5 j
  |cont=>exact Y5 j
theorem _nK(M:Mk X.K C f)(F:FnOk X.prog X.w X.K X.mg X.base CX k f fd ps sp)(w:Room (k+1) X.A)(y:Gl X x)(z:X.mg x=some (.ref C))(g:Binds X.K fd ps ds)(d:Vals dvs ds)(c:V3 CX X E)
  (L:PA X (e::es) t)(j:(x==("__debug__":Str))=false:=by decide)(N:XC (e::es) X.env=(false,eval e X.env)::XC es X.env:=by rfl)(l:(Y2 pos (XC es X.env)).any (·.1)=false:=by rfl):
  PE X (.Call (.Name x p) (e::es) [] pos) (Zrt C sp dvs E t):=by
 intro O s P H Q I h;refine Um (Er I y z ?_ j);refine E4 (h₀:=X.base) I.ok.mod.kin M.kp (thn (L pos O s P H _ I h) λR T ⟨U,W,u,r,q⟩=>⟨u.kIn,?_⟩) N l;exact _l3 M F w g d c u r q
end
section
variable{X:Cx}{CX:CXT}{k:Nat}{f C:Addr}{fd:Xd}{ps ks:List Str}{sp:Sp}{E:XK}{x m:Str}{p pos apos kpos:Pos}{e o:Expr}{es:List Expr}{kws:List Z7}{te ta:TE}{t tk:TA}{nm:Option Str}
variable{g:List X0->List X0->List X0}{gV:List V->List V->List V}
end
structure FnScope (N P:List Str)(sc:Scope):Prop where
 kind:sc.kind=.function
 co:sc.isCoroutine=false
 gen:sc.isGenerator=false
 nd:N.Nodup
 pre:N.take P.length=P
 par:∀x∈P,sc.names.lookup x=some .local\/sc.names.lookup x=some .cell
 nofree:∀y∈sc.names,y.2≠.free
theorem mkSc {N P:List Str}{j:Scope}(a:j.kind=.function:=by rfl)(b:j.isCoroutine=false:=by rfl)(c:j.isGenerator=false:=by rfl)(d:N.Nodup:=by decide+kernel)(e:N.take P.length=P:=by rfl)(f:∀x∈P,j.names.lookup x=some .local\/j.names.lookup x=some .cell:=by decide+kernel)(g:∀y∈j.names,y.2≠.free:=by decide+kernel):FnScope N P j:=⟨a,b,c,d,e,f,g⟩
theorem IQ{kindOf:Str->Option Z8}:∀{binds:List (Str×X0)} {m:Str->Option X0},(∀v,(x,v)∉binds)->bindL kindOf binds m x=m x
 |[],_,_=>rfl
 |(n,v)::r,m,h=>by
  unfold bindL;rw[IQ λw j=>h w (XS _ j)];split
  .have:x≠n:=by rintro rfl;exact h v Yb
   simp[this]
  .rfl
theorem IR{kindOf:Str->Option Z8}:∀{binds:List (Str×X0)} {m:Str->Option X0},(∀v,(x,v)∉binds)->bindC kindOf binds m x=m x
 |[],_,_=>rfl
 |(n,v)::r,m,h=>by
  unfold bindC;rw[IR λw j=>h w (XS _ j)];split
  .rfl
  .have:x≠n:=by rintro rfl;exact h v Yb
   simp[this]
theorem IT{kindOf:Str->Option Z8}:∀{P:List Str} {vs:List X0} {i:Nat} {m:Str->Option X0},P.Nodup->P[i]?=some x->vs[i]?=some v->kindOf x=some .local->
  bindL kindOf (P.zip vs) m x=some v
 |[],_,_,_,_,h,_,_=>by simp at h
 |_::_,[],_,_,_,_,h,_=>by simp at h
 |p::P,w::vs,0,m,nd,h1,h2,hk=>by
  simp at h1 h2;subst h1;subst h2;show bindL kindOf ((p,w)::P.zip vs) m p=_;unfold bindL;rw[IQ λv j=>(YI.mp nd).1 (E1 j).1,if_pos hk];simp
 |p::P,w::vs,i+1,m,nd,h1,h2,hk=>by
  show bindL kindOf ((p,w)::P.zip vs) m x=_;unfold bindL;exact IT (i:=i) (YI.mp nd).2 (by simpa using h1) (by simpa using h2) hk
theorem IU{kindOf:Str->Option Z8}:∀{P:List Str} {vs:List X0} {i:Nat} {m:Str->Option X0},P.Nodup->P[i]?=some x->vs[i]?=some v->kindOf x≠some .local->
  bindC kindOf (P.zip vs) m x=some v
 |[],_,_,_,_,h,_,_=>by simp at h
 |_::_,[],_,_,_,_,h,_=>by simp at h
 |p::P,w::vs,0,m,nd,h1,h2,hk=>by
  simp at h1 h2;subst h1;subst h2;show bindC kindOf ((p,w)::P.zip vs) m p=_;unfold bindC;rw[IR λv j=>(YI.mp nd).1 (E1 j).1,if_neg hk];simp
 |p::P,w::vs,i+1,m,nd,h1,h2,hk=>by
  show bindC kindOf ((p,w)::P.zip vs) m x=_;unfold bindC;exact IU (i:=i) (YI.mp nd).2 (by simpa using h1) (by simpa using h2) hk
noncomputable def ZJ(N:List Str)(vs:List V):St:=vs.map some++Xj (N.length - vs.length) none
noncomputable def cxOf(CX:CXT)(P:Xw)(w:Xn)(K:X4)(mg:Str->Option X0)(base:Heap)(N:List Str)(l:Str)(scope:Scope)(f:Addr)(y:X0)(A:Xz)(j:List Env)(s:X2)(H:Hp)(E:XK):Cx where
 prog:=P
 w:=w
 K:=K
 mg:=mg
 base:=base
 A:=A.deeper (envOfC l scope s.heap.objs.size f y)
 N:=N
 s₀:=s
 H₀:=H
 env:=envOfC l scope s.heap.objs.size f y
 outer:=j
 stack:=envOfC l scope s.heap.objs.size f y::j
 ex:=[]
 calm:=true
 fn:=λ_=>true
 pn:=[]
 xe:=λe z=>X3 (X6 P w) (A.deeper (envOfC l scope s.heap.objs.size f y)) (leaving (envOfC l scope s.heap.objs.size f y) e) (λ_ u=>CX j H s E e u) (λm u=>CX j H s E m u) z
theorem IV{j:Scope}{n:Nat}{x:Str}(h:j.names.lookup x=some .cell):∃c,(cellsFrom n j.names []).lookup x=some c:=by
 have q:=HH j.names n [] (.inl h);exact Option.isSome_iff_exists.mp q
theorem _jv{CX:CXT}{P:Xw}{w:Xn}{K:X4}{mg:Str->Option X0}{base:Heap}{N ps:List Str}{l:Str}{scope:Scope}{f:Addr}{T:X0}{A:Xz}{j:List Env}{s Y:X2}{H:Hp}{E:XK}{us:List X0}{vs:List V}
  (S:FnScope N ps scope)(C:A.handled=none)(g:Env0 P w K mg base A j s H)(I:vs.length=ps.length)(r:Vals vs us)
  (x:InCallC s s.heap.objs.size (bindL (envOfC l scope s.heap.objs.size f T).kindOf (ps.zip us) λ_=>none) (cellsFrom (s.heap.objs.size+1) scope.names []) (bindC (envOfC l scope s.heap.objs.size f T).kindOf (ps.zip us) λ_=>none) Y):
  Inv (cxOf CX P w K mg base N l scope f T A j s H E) [] (ZJ N vs) H Y:=by
 have D:ps.length<=N.length:=by have:=congrArg Wn S.pre;rw[Yf]at this;lia
 obtain⟨U,J,rfl,Z⟩:=x.done;have d:∀b:Addr,b∉(cxOf CX P w K mg base N l scope f T A j s H E).ex:=λb z=>absurd (show b∈([]:List Addr)from z) (by simp)
 refine⟨⟨g.mod,S.kind,rfl,rfl,Xf _,λy z c U m=>?_,λy L=>?_,λy c _ h=>?_,λ_=>C,Around.frames_deeper g.frames,.inr ⟨rfl,rfl⟩,λb z=>absurd z (d b),g.bs,g.bsz,λb _ _=>d b,λb z=>absurd z (d b),g.funs,g.frf⟩,
  rfl,g.bare,Un.kept Z,⟨_,x.toInCall.ns,λi y v U m M=>?_⟩,λy c h=>⟨_,x.cell y c h⟩,g.hok.fresh (Xf _),λy c h=>?_,λp O=>absurd (show p∈([]:List (Addr×Obj))from O) (by simp),g.hok.kept Z,?_⟩
 .exact name_of_addr x.apart (VJ U) (VJ m)
 .have L:scope.names.lookup y=some .cell\/scope.names.lookup y=some .free:=L;rcases L with L|L
  .exact IV L
  .exact absurd rfl (S.nofree _ (VJ L))
 .exact Cg (x.above y c (VJ h))
 .have W:i<vs.length:=by
   unfold ZJ at m;by_cases W:i<vs.length
   .exact W
   .rw[Zh (by simpa using W)]at m
    rw[DQ]at m;split at m<;>cases m
  have F:vs[i]?=some v:=by
   unfold ZJ at m;rw[ZC (by simpa using W),Xr]at m
   cases e:vs[i]? with
   |none=>rw[e]at m;cases m
   |some a=>rw[e]at m;cases m;rfl
  obtain⟨u,B,G⟩:=r.get F;have O:ps[i]?=some y:=by
   rw[<-S.pre,List.getElem?_take_of_lt (by lia)];exact U
  have R:ps.Nodup:=by rw[<-S.pre];exact S.nd.sublist (List.take_sublist _ _)
  refine⟨u,G,?_⟩;rcases S.par y (Xu O)with k|k
  .exact .inl ⟨k,IT R O B k⟩
  .obtain⟨c,e⟩:=IV (n:=s.heap.objs.size+1) k;refine .inr ⟨.inl k,c,e,?_⟩;have q:=x.cell y c e;rw[IU R O B (by show scope.names.lookup y≠_;rw[k];decide)]at q
   exact q
 .exact g.hok.fresh (Cg (x.above y c (VJ h)))
 .unfold ZJ;show _=N.length;rw[Ye,Xb,YO];lia
theorem _sJ{K:X4}{k:Nat}{name:Str}{kV:X0}
    (C:K.lookup f=some ⟨oc,od,.func (ZG name qual params body scope dV kV doc pm an cdv ct),osl⟩)(O:C9 K cdv qual=true)(S:FnScope N ps scope)
  (len:∀vs H Q E,sp vs H Q E->vs.length=ps.length)
  (m:∀(A:Xz)(j:List Env)(s:X2)(H:Hp)(vs:List V)(Q:VK)(E:XK),Room k (A.deeper (envOfC qual scope s.heap.objs.size f cdv))->sp vs H Q E->
   ∃t,PSs (cxOf CX P w K mg base N qual scope f cdv A j s H E) body t/\t {nx:=λ_ z=>Q .non z,rt:=Q} (ZJ N vs) H):
  FnOk P w K mg base CX (k+1) f (ZG name qual params body scope dV kV doc pm an cdv ct) ps sp:=by
 refine⟨len,λA j s H Y D vs Q E R c F r p=>?_⟩;have G:=len _ _ _ _ p;have Z:K.In s.heap:=c.mod.kin.keeps λb o e=>(c.bs b o e).1;have T:s.heap.NoLimit:=c.mod.nolimit.keeps λb o e=>(c.bs b o e).1;have g:∀y∈ps.zip D,scope.names.lookup y.1=some .local\/(scope.names.lookup y.1=some .cell/\((cellsFrom (s.heap.objs.size+1) scope.names []).lookup y.1).isSome=true):=fun⟨n,v⟩ M=>by
  rcases S.par n (E1 M).1 with q|q
  .exact .inl q
  .exact .inr ⟨q,HH _ _ _ (.inl q)⟩
 refine codeAny_call_function R.depth (Z _ _ C) rfl S.co S.gen rfl (PySem.W.codeRec_of Z O) (F _ _ _ _ ?_);refine wpAny_newFunctionEnv_cells S.kind g λX i B x=>?_;subst i;refine⟨T.keeps x.toInCall.keep,codeAny_func ?_⟩;obtain⟨t,h,a⟩:=m A j s H vs Q E (R.deeper _) p;have I:Inv (cxOf CX P w K mg base N qual scope f cdv A j s H E) [] (ZJ N vs) H B:=_jv S R.hd c G r x;refine Zx (h [] B (ZJ N vs) H _ I a) (λfl U d=>?_) λe U d=>d;have L:∀{l:St} {z:Hp} {v:V} {u:X0},Inv (cxOf CX P w K mg base N qual scope f cdv A j s H E) [] l z U->RelV v u->Q v z->CE j P w H s Q u U:=
  fun{l z v u} J W q=>⟨v,z,J.os,J.bare,J.base,J.hok,W,q⟩
 cases fl with
 |ret u=>
  obtain⟨v,l,z,J,W,q⟩:=d;exact L J W q
 |next=>
  obtain⟨l,z,J,q⟩:=d;exact L (v:=V.non) (u:=Xt) J rfl q
 |brk=>
  obtain⟨_,_,_,q⟩:=d;exact Y5 q
 |cont=>
  obtain⟨_,_,_,q⟩:=d;exact Y5 q
section
variable{X:Cx}{x:Str}{p pos:Pos}{e:Expr}{es:List Expr}{t:TA}{id T:String}{r:List V->Hp->VK->Prop}
noncomputable def tCB(r:List V->Hp->VK->Prop)(t:TA):TE:=λj H Q=>t j H λl u=>r l u Q
theorem _li(y:YC X (.builtin id) r)(z:Gl X x)(m:X.mg x=none)(g:YH x=some (.builtin id))(d:PA X (e::es) t)(c:x≠"__name__":=by decide)(j:(x==("__debug__":Str))=false:=by decide)
  (f:XC (e::es) X.env=(false,eval e X.env)::XC es X.env:=by rfl)(l:(Y2 pos (XC es X.env)).any (·.1)=false:=by rfl):PE X (.Call (.Name x p) (e::es) [] pos) (tCB r t):=by
 intro u s w H Q I h;refine Um (UA I z m g ?_ c j);exact HK (thn (d pos u s w H _ I h) λq L ⟨N,O,P,R,U⟩=>y u L w O N q Q P R U) f l
theorem _j1(y:YC X (.type T) r)(z:Gl X x)(m:X.mg x=none)(g:YH x=some (.type T))(d:PA X (e::es) t)(c:x≠"__name__":=by decide)(j:(x==("__debug__":Str))=false:=by decide)
  (f:XC (e::es) X.env=(false,eval e X.env)::XC es X.env:=by rfl)(l:(Y2 pos (XC es X.env)).any (·.1)=false:=by rfl):PE X (.Call (.Name x p) (e::es) [] pos) (tCB r t):=by
 intro u s w H Q I h;refine Um (UA I z m g ?_ c j);exact Wx (thn (d pos u s w H _ I h) λq L ⟨N,O,P,R,U⟩=>y u L w O N q Q P R U) f l
end
end L2
namespace HT
open PySem PyProof.Rows
section
open PySem.SeqAt
open PySem.AutoSeq1 (wpAny_loadPart')
open PySem.MeetsSeq PySem.MeetsSeq2 PySem.MeetsSeq3
end
section
variable{prog:Xw}{w:Xn}{A:Xz}{E:X0->X2->Prop}{s:X2}
theorem cat_tup{t:Addr}(L:IsTup s.heap t vs.toArray)(N:IsTup s.heap b ws.toArray)(m:vs≠ [])
  (h1:ws=[]->Q (.ref t) s)(h2:ws≠ []->Q (.ref s.heap.objs.size) {s with heap:=s.heap.push {cls:=.type "tuple",data:=.seq (vs++ws).toArray} })
  (hsz:vs.length+ws.length<=sizeLine):X3 (X6 prog w) A (Yk .Add (.ref t) (.ref b)) Q E s:=by
 obtain⟨⟨O,g,d,c⟩,z,f,n,q⟩:=id L;obtain⟨⟨r,l,data2,u⟩,j,y,p,hd2⟩:=id N;simp only at f q y hd2;subst f q y hd2;have e:vs.toArray++ws.toArray=(vs++ws).toArray:=by simp
 by_cases hw:ws=[]
 .exact concat_meets ⟨_,z,rfl⟩ ⟨_,j,rfl⟩ noFill_tuple_add seq_tuple_add Ib HZ (HX _ _)
   (tuple_addW1 t b vs.toArray ws.toArray n p g l c u (by simpa using m) (by simp[hw])) ⟨z,j,h1 hw⟩
 .refine concat_meets ⟨_,z,rfl⟩ ⟨_,j,rfl⟩ noFill_tuple_add seq_tuple_add Ib HZ (HX _ _)
   (tuple_addW2 t b vs.toArray ws.toArray n p g l c u (by simpa using m) (by simpa using hw) (by rw[XO,XO];exact hsz)) ⟨z,j,?_⟩
  rw[e];exact h2 hw
noncomputable def sIx(n d:Nat):Option Int->Nat
 |none=>d
 |some v=>if v<0 then(v+(n:Int)).toNat else min v.toNat n
theorem sIx_none(n d:Nat):sIx n d none=d:=rfl
theorem sIx_nat(n d k:Nat):sIx n d (some (k:Int))=min k n:=by
 show(if(k:Int)<0 then((k:Int)+(n:Int)).toNat else min (k:Int).toNat n)=min k n;rw[if_neg (by lia),YR]
theorem _pD(n d:Nat)(j:d<=n)(o:Option Int):sIx n d o<=n:=by
 cases o with
 |none=>exact j
 |some v=>
  show(if v<0 then(v+(n:Int)).toNat else min v.toNat n)<=n;by_cases hv:v<0
  .rw[if_pos hv];lia
  .rw[if_neg hv];exact Nat.min_le_right _ _
theorem IW(v:Int)(n d:Nat):(if v<0 then max (v+(n:Int)) 0 else min v (n:Int))=((sIx n d (some v):Nat):Int):=by
 show(if v<0 then max (v+(n:Int)) 0 else min v (n:Int))=(((if v<0 then(v+(n:Int)).toNat else min v.toNat n):Nat):Int);by_cases hv:v<0
 .simp only[if_pos hv];lia
 .simp only[if_neg hv];lia
theorem _im(lo j:Option Int)(n:Nat):Eg lo j 1 (n:Int)=(((sIx n 0 lo:Nat):Int),((sIx n n j:Nat):Int)):=by
 have l:¬((1:Int)<0):=by lia
 unfold Eg;simp only[l,if_false];refine Prod.ext ?_ ?_
 .cases lo with
  |none=>rfl
  |some v=>exact IW v n 0
 .cases j with
  |none=>rfl
  |some v=>exact IW v n n
theorem _hM(i j:Nat):Cu (i:Int) (j:Int) 1=j - i:=by
 unfold Cu;have l:(1:Int)>0:=by lia
 simp only[l,if_true,Int.ediv_one];split<;>lia
theorem IX(p:IsPart v o)(h:Q o s):X3 (X6 prog w) A (Builtin.Slice.slicePartIndex v) Q E s:=by
 cases p with
 |none=>exact slicePart_none h
 |int i t=>exact slicePart_int h
theorem IY{m:Addr}{y z:X0}{lo j:Option Int}{n:Nat}{Q:Int×Int×Nat->X2->Prop}(g:s.heap.IsSliceOf m y z .none)(pl:IsPart y lo)(d:IsPart z j)
  (h:Q (((sIx n 0 lo:Nat):Int),1,sIx n n j - sIx n 0 lo) s):X3 (X6 prog w) A (HU (.ref m) (pure (n:Int))) Q E s:=by
 obtain⟨os,l,c,u⟩:=id g;unfold HU Builtin.Slice.sliceFields;refine X1 (X1 (wpAny_field l u (x:=y) rfl (X1 (wpAny_field l u (x:=z) rfl (X1 (wpAny_field l u (x:=.none) rfl (X9 ?_)))))));refine X1 (slicePart_none ?_);show X3 _ _ (if((1:Int)==0)=true then _ else _) _ _ s;rw[if_neg (by decide)]
 refine X1 (IX pl (X1 (IX d (X1 (X9 ?_)))));show X3 _ _ (match Eg lo j 1 (n:Int)with|(lo,j)=>pure (lo,(1:Int),Cu lo j 1)) _ _ s
 rw[_im lo j n];show X3 _ _ (pure (((sIx n 0 lo:Nat):Int),(1:Int),Cu ((sIx n 0 lo:Nat):Int) ((sIx n n j:Nat):Int) 1)) _ _ s;rw[_hM];exact X9 h
theorem _lb(xs:Array X0)(i k:Nat):((Xs k).filterMap fun(m:Nat)=>xs[((i:Int)+(m:Int)*1).toNat]?).toArray=((xs.toList.drop i).take k).toArray:=by
 have e:(fun(m:Nat)=>xs[((i:Int)+(m:Int)*1).toNat]?)=λm=>xs[i+m]?:=by
  funext m
  have:((i:Int)+(m:Int)*1).toNat=i+m:=by lia
  rw[this]
 rw[e];have:=pick_run xs i k;rw[List.filterMap_map]at this;have j:((λx=>xs[x]?)∘ λx=>i+x)=λm=>xs[i+m]?:=rfl;rw[j]at this;rw[this]
theorem getItem_tuple_cut{t:Addr}{items:Array X0}{lo:Option Int}(l:IsTup s.heap t items)(d:s.heap.IsSliceOf sl vl vu .none)(pl:IsPart vl lo)(c:IsPart vu hi)
  (hw:¬(sIx items.size 0 lo=0/\sIx items.size items.size hi=items.size))
  (h:Q (.ref s.heap.objs.size) {s with heap:=s.heap.push {cls:=.type "tuple",data:=.seq ((items.toList.drop (sIx items.size 0 lo)).take (sIx items.size items.size hi - sIx items.size 0 lo)).toArray} })
  (hsz:items.size<=sizeLine):X3 (X6 prog w) A (getItem (.ref t) (.ref sl)) Q E s:=by
 have j:sizeOk (.seq ((items.toList.drop (sIx items.size 0 lo)).take (sIx items.size items.size hi - sIx items.size 0 lo)).toArray):=by
  show((items.toList.drop (sIx items.size 0 lo)).take (sIx items.size items.size hi - sIx items.size 0 lo)).toArray.size<=sizeLine;rw[XO,Yf,C0,Yv];lia
 have r:sIx items.size items.size hi<=items.size:=_pD _ _ (Xf _) hi;obtain⟨os,u,y,f⟩:=id d;have z:s.TypeIs (.ref sl) "slice":=⟨os,u,y⟩;unfold getItem
 try with_reducible refine YN ?_
 first|refine X1 (X9 ?_)|skip
 refine X1 (wpAny_sequenceKey l.typeIs (by decide) ?_)
 refine X1 (BN (name:=Yi "__getitem__") l.typeIs VI
  (Zf VI l.typeIs entry_tuple_getitem ?_ (args_tuple_getitem _ _)))
 show X3 _ _ (HM (.ref t)>>= _) _ _ s;refine X1 (tupleItemsOf_ l ?_);refine X1 (ZB z ?_);rw[if_pos (by decide)]
 refine X1 (IY d pl c ?_);have g:¬((((sIx items.size 0 lo:Nat):Int)==0&&(1:Int)==1&&(sIx items.size items.size hi - sIx items.size 0 lo)==items.size)=true):=by
  intro q;rw[XY,XY]at q;have p:((sIx items.size 0 lo:Nat):Int)=0:=eq_of_beq q.1.1;have e:sIx items.size items.size hi - sIx items.size 0 lo=items.size:=eq_of_beq q.2;exact hw ⟨by lia,by lia⟩
 show X3 _ _ (if(((sIx items.size 0 lo:Nat):Int)==0&&(1:Int)==1&&(sIx items.size items.size hi - sIx items.size 0 lo)==items.size)=true then _ else _) _ _ s;rw[if_neg g,_lb]
 first
  |exact X1 (m:=Cs _) (ZZ (X9 ⟨_,rfl,X9 h⟩) j)
  |exact X1 (m:=Cs _) (ZZ (X1 (X9 (X9 ⟨_,rfl,X9 h⟩))) j)
  |exact X1 (X1 (m:=Cs _) (ZZ (X9 (X9 ⟨_,rfl,X9 h⟩)) j))
  |exact X1 (X1 (m:=Cs _) (ZZ (X9 ⟨_,rfl,X9 h⟩) j))
end
end HT
namespace L2
open PySem PySem.Spec PyProof.Rows
abbrev TO:=St->Hp->(Option Int->Hp->Prop)->Prop
def PO(X:Cx)(e:Option Expr)(t:TO):Prop:=
 ∀(l:List (Addr×Obj))(s:X2)(j:St)(H:Hp)(Q:Option Int->Hp->Prop),Inv X l j H s->t j H Q->
  X3 (X6 X.prog X.w) X.A (evalPart e X.env) (λu y=>∃o w,Inv X l j w y/\IsPart u o/\Q o w) X.xe s
noncomputable def Zn8:TO:=λ_ H Q=>Q none H
noncomputable def Zrq(t:TE):TO:=λj H Q=>t j H λx l=>∃i,x=.int i/\Q (some i) l
section
variable{X:Cx}{e:Expr}{te:TE}{lo hi:Option Expr}{tl th:TO}{pos p2:Pos}
theorem _nE:PO X none Zn8:=by
 intro j s l H Q I h;rw[evalPart_none];exact X9 ⟨none,H,I,.none,h⟩
theorem _nD(h:PE X e te):PO X (some e) (Zrq te):=by
 intro j s l H Q I w;rw[evalPart_some];refine thn (h j s l H _ I w) λu d ⟨x,y,z,m,g⟩=>?_;obtain⟨i,rfl,q⟩:=g;obtain⟨t,rfl⟩:=m;exact⟨some i,y,z,.int i t,q⟩
def SlR(X:Cx)(r:V->Option Int->Option Int->Hp->VK->Prop):Prop:=
 ∀(j:List (Addr×Obj))(s:X2)(l:St)(H:Hp)(x:V)(v u w:X0)(lo hi:Option Int)(y:Addr)(Q:VK),Inv X j l H s->RelV x v->s.heap.IsSliceOf y u w .none->IsPart u lo->IsPart w hi->r x lo hi H Q->
  ∃T id,Vj (.type T) "__getitem__"=pure (some (.builtin id))/\s.TypeIs v T/\X3 (X6 X.prog X.w) X.A (getItem v (.ref y)) (EP X j l Q) X.xe s
noncomputable def tSl(r:V->Option Int->Option Int->Hp->VK->Prop)(te:TE)(tl th:TO):TE:=λj H Q=>te j H λx w=>tl j w λl y=>th j y λu z=>r x l u z Q
theorem _ld{r:V->Option Int->Option Int->Hp->VK->Prop}(d:SlR X r)(c:PE X e te)(f:PO X lo tl)(p:PO X hi th):PE X (.Subscript e (.Slice lo hi none p2) pos) (tSl r te tl th):=by
 intro w s y H Q I h;refine Subscript_ (thn (c w s y H _ I h) λv L ⟨x,N,O,P,R⟩=>?_);refine wpAny_Slice (thn (f w L y N _ O R) λz U ⟨l,W,Y,Z,A⟩=>thn (p w U y W _ Y A) λm j ⟨u,g,B,C,D⟩=>?_);rw[evalPart_none];refine X9 ?_;have E:Inv X w y g {j with heap:=j.heap.push {cls:=.type "slice",data:=.fields #[z,m,.none]} }:=B.kept (t':=j.toks) fun b M q=>Xq _ q;obtain⟨T,id,F,G,J⟩:=d w {j with heap:=j.heap.push {cls:=.type "slice",data:=.fields #[z,m,.none]} } y g x v z m l u j.heap.objs.size Q E P (Heap.IsSliceOf.new ..) Z C D;show X3 (X6 X.prog X.w) X.A (subscriptTail e (.Slice lo hi none p2) v (.ref j.heap.objs.size)) (EP X w y Q) X.xe {j with heap:=j.heap.push {cls:=.type "slice",data:=.fields #[z,m,.none]} };exact tail_any (ops:=[.ref j.heap.objs.size,v]) G F J (by with_unfolding_all rfl)
noncomputable def cutV(xs:List V)(lo hi:Option Int):List V:=(xs.drop (HT.sIx xs.length 0 lo)).take (HT.sIx xs.length xs.length hi - HT.sIx xs.length 0 lo)
theorem IZ(xs:List V)(lo hi:Option Int):(cutV xs lo hi).length<=xs.length:=by
 unfold cutV;rw[Yf,C0];lia
def rSlT(K:X4):V->Option Int->Option Int->Hp->VK->Prop:=λx lo hi H Q=>∃a j,x=.ref a/\SqT K H a j/\
 ¬(HT.sIx j.length 0 lo=0/\HT.sIx j.length j.length hi=j.length)/\∀p,H p=none->Q (.ref p) (upd H p (.tup (cutV j lo hi)))
theorem _pv:SlR X (rSlT X.K):=by
 intro p s L H x v N O lo hi P Q I z m g d h;obtain⟨a,l,rfl,c,f,q⟩:=h;cases z;obtain⟨u,r,w,y⟩:=I.tuple c;have j:u.toArray.size=l.length:=by rw[XO];exact r.length.symm
 refine⟨"tuple",_,VI.lookup,w.typeIs,?_⟩;refine HT.getItem_tuple_cut w m g d (by rw[j];exact f) ?_ (by rw[j];exact y)
 rw[j];refine⟨.ref s.heap.objs.size,_,I.laid (t':=s.toks) (o:=.tup (cutV l lo hi)) (λb R q=>Xq _ q) (Xf _) ?_,rfl,q _ (I.hok.fresh (Xf _))⟩;exact⟨Y4 (IZ l lo hi) y,_,(r.drop (HT.sIx l.length 0 lo)).take (HT.sIx l.length l.length hi - HT.sIx l.length 0 lo),IsTup.new _ _,_,XR _ rfl,rfl⟩
def ZrJ(K:X4):R2:=λx y H Q=>∃a b l j,x=.ref a/\y=.ref b/\SqT K H a l/\SqT K H b j/\l≠ []/\l.length+j.length<=sizeLine/\
 (j=[]->Q (.ref a) H)/\(j≠ []->∀p,H p=none->Q (.ref p) (upd H p (.tup (l++j))))
theorem Vals.nil_iff(r:Vals xs us):us=[]↔xs=[]:=by
 cases r with
 |nil=>simp
 |cons _ _=>simp
theorem _nW:OpR X (Yk .Add) (ZrJ X.K):=by
 intro U s W H x y v u Q I d c h;obtain⟨a,b,f,r,rfl,rfl,p,L,N,m,O,P⟩:=h;cases d;cases c;obtain⟨R,l,T,_⟩:=I.tuple p;obtain⟨g,j,p2,_⟩:=I.tuple L;refine HT.cat_tup T p2 (λz=>N (l.nil_iff.mp z)) (λz=>⟨.ref a,H,I,rfl,O (j.nil_iff.mp z)⟩) (λz=>?_) (by rw[<-l.length,<-j.length];exact m)
 refine⟨.ref s.heap.objs.size,_,I.laid (t':=s.toks) (o:=.tup (f++r)) (λb Y q=>Xq _ q) (Xf _) ?_,rfl,P (λw=>z (j.nil_iff.mpr w)) _ (I.hok.fresh (Xf _))⟩;exact⟨by rw[Ye];exact m,_,l.append j,IsTup.new _ _,_,XR _ rfl,rfl⟩
end
noncomputable def ixN(n:Nat)(i:Int):Option Nat:=if 0<=i then(if i<n then some i.toNat else none)else if -(n:Int)<=i then some (i+n).toNat else none
def atI{l:Type}(xs:List l)(i:Int):Option l:=(ixN xs.length i).bind λj=>xs[j]?
theorem J4(h:ixN n i=some j):seqIndex? i n=some j/\j<n/\ -(n:Int)<=i/\i<n:=by
 unfold ixN at h;by_cases h0:0<=i
 .rw[if_pos h0]at h;by_cases h1:i<n
  .rw[if_pos h1]at h;have e:i.toNat=j:=Yd h;exact⟨by rw[seqIndex_of h0 h1,e],by lia,by lia,h1⟩
  .rw[if_neg h1]at h;cases h
 .rw[if_neg h0]at h;by_cases h1:-(n:Int)<=i
  .rw[if_pos h1]at h;have e:(i+n).toNat=j:=Yd h;exact⟨by rw[seqIndex_neg (by lia) h1,e],by lia,h1,by lia⟩
  .rw[if_neg h1]at h;cases h
theorem Ev{l:Type}{xs:List l}{i:Int}{v:l}(h:atI xs i=some v):∃j,seqIndex? i xs.length=some j/\xs[j]?=some v/\j<xs.length/\ -(xs.length:Int)<=i/\i<xs.length:=by
 unfold atI at h;cases e:ixN xs.length i with
 |none=>rw[e]at h;cases h
 |some j=>
  rw[e]at h;obtain⟨u,w,y,z⟩:=J4 e;exact⟨j,u,h,w,y,z⟩
theorem Yp{l:Type}{xs:List l}{j:Nat}{v:l}(h:xs[j]?=some v):atI xs (j:Int)=some v:=by
 have u:j<xs.length:=(XE.mp h).1;have e:ixN xs.length (j:Int)=some j:=by
  unfold ixN;rw[if_pos (by lia),if_pos (by lia)];simp
 unfold atI;rw[e];exact h
noncomputable def J5(b:Expr):Prop:=∀o i,subscripted b false o i=operate [o,i] (getItem o i)
def IxR(X:Cx)(r:R2):Prop:=
 ∀(l j:Expr)(w:List (Addr×Obj))(s:X2)(z:St)(H:Hp)(x y:V)(v u:X0)(Q:VK),Inv X w z H s->RelV x v->RelV y u->r x y H Q->
  subscripted j false v u=operate [v,u] (getItem v u)->X3 (X6 X.prog X.w) X.A (subscriptTail l j v u) (EP X w z Q) X.xe s
def MtR(X:Cx)(id:String)(r:V->List V->Hp->VK->Prop):Prop:=
 ∀(j:List (Addr×Obj))(s:X2)(l:St)(H:Hp)(x:V)(u:List V)(v:X0)(w:List X0)(Q:VK),Inv X j l H s->RelV x v->Vals u w->r x u H Q->
  X3 (X6 X.prog X.w) X.A (call (.builtin id) (v::w)) (EP X j l Q) X.xe s
section
variable{X:Cx}{a b:Expr}{ta tb:TE}{pos:Pos}
theorem _sy{r:R2}(j:IxR X r)(l:PE X a ta)(w:PE X b tb)(z:J5 b):PE X (.Subscript a b pos) (tOp r ta tb):=by
 intro m s g H Q I h;exact Subscript_ (binT l w I h λv u d x y c f p e q=>j a b m d g c x y v u Q f p e q (z _ _))
def rIxL(K:X4):R2:=λx y H Q=>∃p j i v,x=.ref p/\y=.int i/\SqL K H p j/\atI j i=some v/\Q v H
def rIxT(K:X4):R2:=λx y H Q=>∃p j i v,x=.ref p/\y=.int i/\SqT K H p j/\atI j i=some v/\Q v H
def rIxS:R2:=λx y H Q=>∃z i c,x=.str z/\y=.int i/\z.length<=sizeLine/\atI z.cps.toList i=some c/\Q (.str ⟨#[c]⟩) H
theorem J7:IxR X (rIxL X.K):=by
 intro g d N s O H x y v u Q I T U h P;obtain⟨p,E,i,z,rfl,rfl,W,Y,q⟩:=h;cases T;obtain⟨t,rfl⟩:=U;obtain⟨c,r,f,F⟩:=I.list W;obtain⟨j,m,Z,G,A,B⟩:=Ev Y;obtain⟨w,R,e⟩:=r.get Z;have C:=r.length;have J:=VO;have l:EP X N O Q w s:=⟨z,H,I,e,q⟩;by_cases h0:0<=i
 .have L:i.toNat=j:=by
   rw[seqIndex_of h0 B]at m;exact Yd m
  exact item_listR f.isList h0 (by lia) (by rw[L];simpa using R) l P
 .have L:(i+(c.toArray.size:Int)).toNat=j:=by
   rw[seqIndex_neg (by lia) A]at m
   rw[XO,<-C];exact Yd m
  exact subscriptTail_builtinR (x:=w) f.isList.typeIs slot_list_getitem.lookup
   (wpAny_getItem_list_neg (Q:=λr D=>r=w/\EP X N O Q r D) f.isList (by lia) (by rw[XO]<;>lia) (by lia) (by rw[L];simpa using R) ⟨rfl,l⟩) P
theorem _qQ:IxR X (rIxT X.K):=by
 intro l m c s f H x y v u Q I L N h O;obtain⟨p,B,i,z,rfl,rfl,P,R,q⟩:=h;cases L;obtain⟨t,rfl⟩:=N;obtain⟨T,r,e,C⟩:=I.tuple P;obtain⟨j,U,W,D,E,F⟩:=Ev R;obtain⟨w,Y,g⟩:=r.get W;have Z:=r.length;have G:=VO;have d:EP X c f Q w s:=⟨z,H,I,g,q⟩;exact subscriptTail_builtinR (x:=w) e.typeIs slot_tuple_getitem.lookup
  (getItem_tuple (j:=j) (Q:=λr A=>r=w/\EP X c f Q r A) e (by lia) (by lia) (by rw[XO,<-Z];exact U) (by simpa using Y) ⟨rfl,d⟩) O
theorem _qR:IxR X rIxS:=by
 intro l w R s T H x y v u Q I g d h f;obtain⟨z,i,c,rfl,rfl,U,r,q⟩:=h;obtain⟨t,rfl⟩:=g;obtain⟨W,rfl⟩:=d;obtain⟨j,m,p,Y,e,L⟩:=Ev r;have N:z.cps.toList.length=z.length:=by simp[Str.length]
 rw[N]at m e L;have Z:=VO;exact tail_any (typeIs_str s z t) slot_str_getitem.lookup (getItem_str (c:=c) (by
  have O:decide (i< -(2^63:Int))=false:=decide_eq_false (by lia)
  have P:decide (i >= 2^63)=false:=decide_eq_false (by lia)
  rw[O,P,Bool.or_false]) (by rw[m];simpa using p) ⟨.str ⟨#[c]⟩,H,I.tok _,⟨_,rfl⟩,q⟩) f
theorem _hS(l:List X0)(n j:Nat)(u:X0):U7 (·.setIfInBounds j u) {cls:=.type "list",data:=.seq l.toArray n}={cls:=.type "list",data:=.seq (l.set j u).toArray n}:=by
 simp[U7]
theorem Inv.lst(I:Inv X pq σ H s)(h:H p=some (.lst xs)):
  ∃(j:List X0) (n:Nat),Vals xs j/\s.heap.get? p=some {cls:=.type "list",data:=.seq j.toArray n}/\xs.length<=sizeLine:=by
 obtain⟨z,j,n,r,e⟩:=I.hok p _ h;exact⟨j,n,r,e,z⟩
theorem Inv.lstUpd{w:List (Addr×Obj)}{y:St}{H:Hp}{s:X2}{p:Addr}{xs ys:List V}{j its':List X0}{n l:Nat}{f:Obj->Obj}(I:Inv X w y H s)(h:H p=some (.lst xs))
  (m:s.heap.get? p=some {cls:=.type "list",data:=.seq j.toArray n})(z:f {cls:=.type "list",data:=.seq j.toArray n}={cls:=.type "list",data:=.seq its'.toArray l})(r:Vals ys its')(g:ys.length<=sizeLine)(t:Nat):
  Inv X w y (upd H p (.lst ys)) {s with heap:=s.heap.update p f,toks:=t}:=by
 have e:(s.heap.update p f).get? p=some {cls:=.type "list",data:=.seq its'.toArray l}:=by
  rw[UV f m (by rw[z]<;>rfl),z]
 refine I.write (x:=p) (e:=p) (by rw[h];trivial) (.inl rfl) (λb u d q=>(Vz _ _ (XM d)).trans q) ⟨_,e⟩ ?_
 exact⟨g,its',l,r,e⟩
def ZrI:V->V->V->Hp->(Hp->Prop)->Prop:=λo i v H Q=>∃p l k j,o=.ref p/\i=.int k/\H p=some (.lst l)/\ixN l.length k=some j/\Q (upd H p (.lst (l.set j v)))
theorem _kX:PSet X ZrI:=by
 intro e s L H o i v W Y u Q I N O P h;obtain⟨p,R,k,j,rfl,rfl,g,T,q⟩:=h;cases N;obtain⟨t,rfl⟩:=O;obtain⟨l,n,r,y,U⟩:=I.lst g;obtain⟨w,Z,d,c⟩:=J4 T;have z:=r.length;have A:=VO;have f:Inv X e L (upd H p (.lst (R.set j v))) {s with heap:=s.heap.update p (U7 (·.setIfInBounds j u))}:=
  I.lstUpd g y (_hS l n j u) (r.set P j) (by rw[Ur];exact U) s.toks
 by_cases h0:0<=k
 .have m:k.toNat=j:=by
   rw[seqIndex_of h0 c]at w;exact Yd w
  exact PySem.W.ki_setAt y h0 (by lia) (by rw[XO,<-z];exact c) (by rw[m];exact⟨_,f,q⟩)
 .have m:(k+(l.toArray.size:Int)).toNat=j:=by
   rw[seqIndex_neg (by lia) d]at w
   rw[XO,<-z];exact Yd w
  exact PySem.W.ki_setBack y (by lia) (by rw[XO,<-z];exact d) (by lia) (by rw[m];exact⟨_,f,q⟩)
theorem _et(lo j:Option Int)(n:Nat):(UO lo j none n).1=((HT.sIx n 0 lo:Nat):Int)/\(UO lo j none n).2.1=((HT.sIx n n j:Nat):Int)/\(UO lo j none n).2.2=1:=by
 refine⟨?_,?_,rfl⟩
 .cases lo with
  |none=>simp[UO,HT.sIx]
  |some i=>
   simp only[UO,HT.sIx,Option.getD_none,show(1:Int)>0 by decide,if_true]
   by_cases h:i<0
   .simp only[h,if_true]<;>lia
   .simp only[h,if_false]<;>lia
 .cases j with
  |none=>simp[UO,HT.sIx]
  |some i=>
   simp only[UO,HT.sIx,Option.getD_none,show(1:Int)>0 by decide,if_true]
   by_cases h:i<0
   .simp only[h,if_true]<;>lia
   .simp only[h,if_false]<;>lia
theorem _dA(j:List X0)(lo l:Option Int):slicePick j.toArray lo l none=((j.drop (HT.sIx j.length 0 lo)).take (HT.sIx j.length j.length l - HT.sIx j.length 0 lo)).toArray:=by
 obtain⟨u,w,y⟩:=_et lo l j.toArray.size;unfold slicePick;rw[u,w,y];simp only[sliceRange_one,pick_run,XO]<;>rfl
def rSlL(K:X4):V->Option Int->Option Int->Hp->VK->Prop:=λx lo l H Q=>∃a j,x=.ref a/\SqL K H a j/\∀p,H p=none->Q (.ref p) (upd H p (.lst (cutV j lo l)))
theorem _nd:SlR X (rSlL X.K):=by
 intro p s e H x v L N lo u O Q I y z m g h;obtain⟨a,j,rfl,d,q⟩:=h;cases y;obtain⟨c,r,w,f⟩:=I.list d;have l:=r.length;refine⟨"list",_,slot_list_getitem.lookup,w.isList.typeIs,?_⟩;refine wpAny_getItem_list_slice w.isList z m g .none (by simp) ?_ (by rw[XO]<;>lia)
 rw[_dA,<-l];refine⟨.ref s.heap.objs.size,_,I.laid (t':=s.toks) (o:=.lst (cutV j lo u)) (λb P q=>Xq _ q) (Xf _) ?_,rfl,q _ (I.hok.fresh (Xf _))⟩;exact⟨Y4 (IZ j lo u) f,_,0,(r.drop (HT.sIx j.length 0 lo)).take (HT.sIx j.length j.length u - HT.sIx j.length 0 lo),XR _ rfl⟩
noncomputable def YJ:V->Bool
 |.non=>true
 |.bl _=>true
 |.int _=>true
 |.str _=>true
 |_=>false
noncomputable def eqV:V->V->Bool
 |.non,.non=>true
 |.bl a,.bl b=>a==b
 |.bl a,.int b=>(if a then 1 else 0)==b
 |.int a,.bl b=>a==(if b then 1 else 0)
 |.int a,.int b=>a==b
 |.str a,.str b=>a==b
 |_,_=>false
theorem Ew(w:RelV y u)(j:RelV x v)(m:YJ y=true)(z:YJ x=true):CJ A s u v (eqV y x):=by
 cases y with
 |non=>
  cases w;cases x with
  |non=>cases j;exact SeqAt.EqAt.same _
  |bl b=>cases j;exact SeqAt.EqAt.none_bool b
  |int b=>obtain⟨t,rfl⟩:=j;exact SeqAt.EqAt.none_int b t
  |str b=>obtain⟨t,rfl⟩:=j;exact SeqAt.EqAt.none_str b t
  |_=>exact absurd (show false=true from z) XG
 |bl a=>
  cases w;cases x with
  |non=>cases j;exact SeqAt.EqAt.bool_none a
  |bl b=>cases j;exact SeqAt.EqAt.bool_bool a b
  |int b=>obtain⟨t,rfl⟩:=j;exact SeqAt.EqAt.bool_int a b t
  |str b=>obtain⟨t,rfl⟩:=j;exact SeqAt.EqAt.bool_str a b t
  |_=>exact absurd (show false=true from z) XG
 |int a=>
  obtain⟨l,rfl⟩:=w;cases x with
  |non=>cases j;exact SeqAt.EqAt.int_none a l
  |bl b=>cases j;exact SeqAt.EqAt.int_bool a l b
  |int b=>obtain⟨t,rfl⟩:=j;exact SeqAt.EqAt.int_int a l b t
  |str b=>obtain⟨t,rfl⟩:=j;exact Ip a l b t
  |_=>exact absurd (show false=true from z) XG
 |str a=>
  obtain⟨l,rfl⟩:=w;cases x with
  |non=>cases j;exact SeqAt.EqAt.str_none a l
  |bl b=>cases j;exact SeqAt.EqAt.str_bool a l b
  |int b=>obtain⟨t,rfl⟩:=j;exact Iq a l b t
  |str b=>obtain⟨t,rfl⟩:=j;exact SeqAt.EqAt.str_str a l b t
  |_=>exact absurd (show false=true from z) XG
 |_=>exact absurd (show false=true from m) XG
def eqU(x:V)(u:X0):Bool:=match u with
 |.none=>eqV .non x
 |.bool b=>eqV (.bl b) x
 |.int i _=>eqV (.int i) x
 |.str z _=>eqV (.str z) x
 |_=>false
theorem J8(r:RelV y u)(f:YJ y=true):eqU x u=eqV y x:=by
 cases y with
 |non=>cases r;rfl
 |bl b=>cases r;rfl
 |int i=>obtain⟨t,rfl⟩:=r;rfl
 |str z=>obtain⟨t,rfl⟩:=r;rfl
 |_=>exact absurd (show false=true from f) XG
theorem WG:∀{xs:List V} {us:List X0},Vals xs us->xs.all YJ=true->us.any (eqU x)=xs.any λy=>eqV y x
 |_,_,.nil,_=>rfl
 |y::xs,u::us,.cons r t,f=>by
  rw[Us,XY]at f;rw[ZF,ZF,J8 r f.1,WG t f.2]
theorem WH(l:RelV x v)(w:YJ x=true):∀{xs:List V} {us:List X0},Vals xs us->xs.all YJ=true->∀u∈us,CJ A s u v (eqU x u)
 |_,_,.nil,_=>λu j=>by cases j
 |y::xs,u::us,.cons r t,f=>λz j=>by
  rw[Us,XY]at f;rcases Xl.mp j with rfl|j
  .rw[J8 r f.1];exact Ew r l f.1 w
  .exact WH l w t f.2 z j
def inV(x:V)(xs:List V):Bool:=xs.any λy=>eqV y x
def rIn(K:X4)(l:Bool):R2:=λx y H Q=>∃p j,y=.ref p/\(SqL K H p j\/SqT K H p j)/\YJ x=true/\j.all YJ=true/\Q (.bl (if l then !inV x j else inV x j)) H
theorem Ex:OpR X (XZ .In) (rIn X.K false):=by
 intro e s L H x y v u Q I g c h;obtain⟨p,N,rfl,l,d,fs,q⟩:=h;cases c;rcases l with l|l
 .obtain⟨j,r,z,f⟩:=I.list l;refine SeqAt.in_listAt (eqU x) z.isList (λw m=>WH g d r fs w (by simpa using m)) ⟨.bl _,H,I,rfl,?_⟩
  rw[show j.toArray.any (eqU x)=j.any (eqU x) by simp,WG r fs]
  exact q
 .obtain⟨j,r,z,f⟩:=I.tuple l;refine SeqAt.in_tupleAt (eqU x) z (λw m=>WH g d r fs w (by simpa using m)) ⟨.bl _,H,I,rfl,?_⟩
  rw[show j.toArray.any (eqU x)=j.any (eqU x) by simp,WG r fs]
  exact q
theorem Ey:OpR X (XZ .NotIn) (rIn X.K true):=by
 intro e s L H x y v u Q I g c h;obtain⟨p,N,rfl,l,d,fs,q⟩:=h;cases c;rcases l with l|l
 .obtain⟨j,r,z,f⟩:=I.list l;refine SeqAt.notIn_listAt (eqU x) z.isList (λw m=>WH g d r fs w (by simpa using m)) ⟨.bl _,H,I,rfl,?_⟩
  rw[show j.toArray.any (eqU x)=j.any (eqU x) by simp,WG r fs]
  exact q
 .obtain⟨j,r,z,f⟩:=I.tuple l;refine SeqAt.notIn_tupleAt (eqU x) z (λw m=>WH g d r fs w (by simpa using m)) ⟨.bl _,H,I,rfl,?_⟩
  rw[show j.toArray.any (eqU x)=j.any (eqU x) by simp,WG r fs]
  exact q
theorem Ez:YC X (.builtin "len") (fun xs H Q=>∃p ys,xs=[.ref p]/\(SqL X.K H p ys\/SqT X.K H p ys)/\Q (.int ys.length) H):=by
 intro d s c H xs f Q I r h;obtain⟨p,ys,rfl,l,q⟩:=h;obtain⟨u,rfl,m⟩:=_r r;cases m;have e:=VO;rcases l with l|l
 .obtain⟨w,y,z,g⟩:=I.list l;have j:=y.length;exact Calls.call_len_list z.isList (by simp only[XO]<;>lia) ⟨.int ys.length,H,I.tok _,⟨s.toks+1,by rw[XO,j]⟩,q⟩
 .obtain⟨w,y,z,g⟩:=I.tuple l;have j:=y.length;exact len_tuple z (by simp only[XO]<;>lia) ⟨.int ys.length,H,I.tok _,⟨s.toks+1,by rw[XO,j]⟩,q⟩
theorem _fD:YC X (.builtin "len") (fun xs H Q=>∃z,xs=[.str z]/\z.length<=sizeLine/\Q (.int z.length) H):=by
 intro j s l H xs w Q I r h;obtain⟨z,rfl,y,q⟩:=h;obtain⟨u,rfl,t,rfl⟩:=_r r;have m:=VO;exact len_str (by lia) ⟨.int z.length,H,I.tok _,⟨_,rfl⟩,q⟩
theorem J9:YC X (.type "list") (fun xs H Q=>∃p ys,xs=[.ref p]/\(SqL X.K H p ys\/SqT X.K H p ys)/\∀l,H l=none->Q (.ref l) (upd H l (.lst ys))):=by
 intro T s U H xs Y Q I r h;obtain⟨p,ys,rfl,m,q⟩:=h;obtain⟨u,rfl,W⟩:=_r r;cases W;have g:∀(j:List X0),Vals ys j->ys.length<=sizeLine->∀(w:Heap)(y:Nat),(∀b R,s.heap.get? b=some R->w.get? b=some R)->
   w.get? s.heap.objs.size=some {cls:=.type "list",dict:=none,data:=.seq j.toArray y,slots:=#[]}->EP X T U Q (.ref s.heap.objs.size) {s with heap:=w}:=fun j z d w y c e=>
  ⟨.ref s.heap.objs.size,_,I.laid (t':=s.toks) c (Xf _) (show ObjOk X.prog X.w _ w _ (.lst ys)from⟨d,j,y,z,e⟩),rfl,q _ (I.hok.fresh (Xf _))⟩
 rcases m with m|m
 .obtain⟨j,z,L,d⟩:=I.list m;have f:=z.length;obtain⟨o,N,O,n,P⟩:=L.isList;exact call_list_seq p (.inl rfl) N O P (λw y c e=>g j z d w y c e) (by simp only[XO]<;>lia)
 .obtain⟨j,z,L,d⟩:=I.tuple m;have f:=z.length;obtain⟨o,N,O,n,P⟩:=L;exact call_list_seq p (.inr rfl) N O P (λw y c e=>g j z d w y c e) (by simp only[XO]<;>lia)
theorem _eg:YC X (.type "tuple") (fun xs H Q=>∃p ys,xs=[.ref p]/\((SqL X.K H p ys/\∀l,H l=none->Q (.ref l) (upd H l (.tup ys)))\/(SqT X.K H p ys/\Q (.ref p) H))):=by
 intro g s d H xs R Q I r h;obtain⟨p,ys,rfl,h⟩:=h;obtain⟨u,rfl,N⟩:=_r r;cases N;rcases h with⟨y,q⟩|⟨y,q⟩
 .obtain⟨j,z,m,c⟩:=I.list y;have f:=z.length;refine call_tuple_list m.isList (λw O=>?_) (by simp only[XO]<;>lia)
  have L:Inv X g d H {s with heap:=w}:=I.kept (t':=s.toks) O;have P:Inv X g d (upd H w.objs.size (.tup ys)) {s with heap:=w.push {cls:=.type "tuple",data:=.seq j.toArray} }:=
   L.laid (t':=s.toks) (λb o e=>Xq _ e) (Xf _) (show ObjOk X.prog X.w _ _ _ (.tup ys)from⟨c,j,z,IsTup.new _ _,_,XR _ rfl,rfl⟩)
  exact⟨.ref w.objs.size,_,P,rfl,q _ (L.hok.fresh (Xf _))⟩
 .obtain⟨j,z,m,c⟩:=I.tuple y;exact call_tuple_same m ⟨.ref p,H,I,rfl,q⟩
def tyV(K:X4)(T:String)(x:V)(H:Hp):Prop:=match x with
 |.str _=>T="str"
 |.int _=>T="int"
 |.ref p=>(T="list"/\∃l,SqL K H p l)\/(T="tuple"/\∃o,K.lookup p=some o/\o.cls=.type "tuple"/\o.dict=none)\/
   (T="dict"/\((∃j,H p=some (.dK j))\/∃j,H p=some (.dT j)))\/(T="set"/\∃S n,H p=some (.set S n))
 |_=>False
theorem Ja(I:Inv X pq σ H s)(r:RelV x v)(ty:tyV X.K T x H):
  s.TypeIs v T/\∀a,v=.ref a->∃m,s.heap.get? a=some m/\m.dict=none:=by
 cases x with
 |str z=>
  obtain⟨t,rfl⟩:=r;cases(show T="str" from ty);exact⟨typeIs_str s z t,λ_ e=>nomatch e⟩
 |int i=>
  obtain⟨t,rfl⟩:=r;cases(show T="int" from ty);exact⟨typeIs_int s i t,λ_ e=>nomatch e⟩
 |ref p=>
  cases r;rcases ty with⟨rfl,L,d⟩|⟨rfl,o,j,f,u⟩|⟨rfl,j⟩|⟨rfl,S,n,j⟩
  .obtain⟨q,_,g,_⟩:=I.list d;refine⟨g.isList.typeIs,λa e=>?_⟩;cases e;obtain⟨o,n,e,c,u,_⟩:=g;exact⟨o,e,u⟩
  .refine⟨⟨o,I.kIn p o j,f⟩,λa e=>?_⟩;cases e;exact⟨o,I.kIn _ o j,u⟩
  .have z:∃o,s.heap.get? p=some o/\o.ExactDict:=by
    rcases j with⟨w,j⟩|⟨w,j⟩
    .obtain⟨_,_,_,_,o,_,_,e,l,_⟩:=I.hok p _ j;exact⟨o,e,l⟩
    .obtain⟨_,_,_,_,o,_,_,e,l,_⟩:=I.hok p _ j;exact⟨o,e,l⟩
   obtain⟨o,e,l⟩:=z;refine⟨⟨o,e,l.1⟩,λa y=>?_⟩;cases y;exact⟨o,e,l.2.1⟩
  .obtain⟨o,_,_,_,e,l,_⟩:=I.hok p _ j;refine⟨⟨o,e,l.1⟩,λa y=>?_⟩;cases y;exact⟨o,e,l.2.1⟩
 |_=>exact Y5 ty
def tBM0(K:X4)(T:String)(r:V->List V->Hp->VK->Prop)(to:TE):TE:=λl H Q=>to l H λx j=>tyV K T x j/\r x [] j Q
def tBM(K:X4)(T:String)(r:V->List V->Hp->VK->Prop)(to:TE)(t:TA):TE:=λj H Q=>to j H λx l=>tyV K T x l/\t j l λu w=>r x u w Q
variable{o e:Expr}{es:List Expr}{to:TE}{t:TA}{name:Str}{apos cpos:Pos}{T id:String}{r:V->List V->Hp->VK->Prop}
theorem _qk(d:PlainAttrs T)(u:Slot T name id)(w:typeOf (.builtin id)=pure (.type "method_descriptor"))(c:MtR X id r)(f:PE X o to)
  (j:Ul o name X.env (eval o X.env)=eval o X.env:=by rfl)(l:(apos.endLine==cpos.line)=true:=by rfl):PE X (.Call (.Attribute o name apos) [] [] cpos) (tBM0 X.K T r to):=by
 intro y s z H Q I h;refine wpAny_Call_method0_late j l (thn (f y s z H _ I h) λv q ⟨x,p,m,g,ty,L⟩=>?_);obtain⟨N,O⟩:=Ja m g ty;exact⟨T,id,d,u,w,N,O,Il rfl (PySem.evalArgs_none (c y q z p x [] v [] Q m g .nil L))⟩
theorem _sz(q:PlainAttrs T)(w:Slot T name id)(z:typeOf (.builtin id)=pure (.type "method_descriptor"))(p:MtR X id r)(L:PE X o to)(N:PA X (e::es) t)
  (l:Ul o name X.env (eval o X.env)=eval o X.env:=by rfl)
  (y:((Y2 cpos (XC (e::es) X.env)).all (λx=>!x.1)&&(ZX cpos (ZY [] X.env)).all (λx=>x.1.isSome)
   &&decide ((e::es).length+([]:List Z7).length+(if([]:List Z7).isEmpty then 0 else 1)<30))=true:=by rfl)
  (u:(apos.endLine==cpos.line)=true:=by rfl)(O:XC (e::es) X.env=(false,eval e X.env)::XC es X.env:=by rfl)(j:(Y2 cpos (XC es X.env)).any (·.1)=false:=by rfl):
  PE X (.Call (.Attribute o name apos) (e::es) [] cpos) (tBM X.K T r to t):=by
 intro m s g H Q I h;refine wpAny_Call_method_late l y u rfl (thn (L m s g H _ I h) λv P ⟨x,R,d,c,ty,U⟩=>?_);obtain⟨W,Y⟩:=Ja d c ty;refine⟨T,id,q,w,z,W,Y,?_⟩;have f:=N cpos m P g R _ d U;rw[O]at f ⊢;refine Il (by show(false||(Y2 cpos (XC es X.env)).any (·.1))=false;rw[j]<;>rfl) (Calls.evalArgs_plain ?_)
 exact thn f λZ A ⟨B,C,D,E,F⟩=>p m A g C x B v Z Q D c E F
/- xs.append(e),list.index on a module's tuple .. are MtR facts of 06m -/
end
def MtM(X:Cx)(id:String)(r:V->List V->Hp->VK->Prop):Prop:=
 ∀(j:List (Addr×Obj))(s:X2)(l:St)(H:Hp)(x:V)(u:List V)(v:X0)(w:List X0)(Q:VK),Inv X j l H s->RelV x v->Vals u w->r x u H Q->
  X3 (X6 X.prog X.w) X.A (call (.builtin id) (v::w)) (EP X j l Q) X.xe s
theorem Vals.one:∀{x:V} {us:List X0},Vals [x] us->∃u,us=[u]/\RelV x u
 |_,_,.cons r .nil=>⟨_,rfl,r⟩
theorem Vals.rep(h:Vals xs us):∀k:Nat,Vals (Xj k xs).flatten (Xj k us).flatten
 |0=>.nil
 |k+1=>by
  rw[Za,Za,ZE,ZE];exact Vals.append h (Vals.rep h k)
theorem EA(j:List X0):∀(k:Nat)(l:List X0),
  Vx (λu w=>u++w) l.toArray (Xj k j.toArray)=(l++(Xj k j).flatten).toArray
 |0,l=>by simp
 |k+1,l=>by
  have e:l.toArray++j.toArray=(l++j).toArray:=by simp
  have y:(l++j)++(Xj k j).flatten=l++(Xj (k+1) j).flatten:=by
   rw[Za,ZE,Vo]
  rw[<-y,<-EA j k (l++j),<-e,Za,Vv]
section
variable{X:Cx}{pq:List (Addr×Obj)}{σ:St}{H:Hp}{s:X2}{l b:Addr}{xs ys zs:List V}
theorem Inv.lset{j its':List X0}{n:Nat}{f:Array X0->Array X0}{t':Nat}(I:Inv X pq σ H s)(w:H l=some (.lst xs))
  (e:s.heap.get? l=some {cls:=.type "list",data:=.seq j.toArray n})(y:f j.toArray=its'.toArray)(z:Vals ys its')(m:ys.length<=sizeLine):
  Inv X pq σ (upd H l (.lst ys)) {s with heap:=s.heap.update l (U7 f),toks:=t'}:=by
 have q:=PySem.IsL.update e f;rw[y]at q;refine I.write (x:=l) (e:=l) (by rw[w];exact trivial) (.inl rfl) (λc u g d=>(Vz s.heap (U7 f) (XM g)).trans d) ⟨_,q⟩ ?_
 exact⟨m,its',_,z,q⟩
theorem Inv.lnew(I:Inv X pq σ H s)(j:Vals ys its)(u:ys.length<=sizeLine):
  Inv X pq σ (upd H s.heap.objs.size (.lst ys)) {s with heap:=s.heap.push {cls:=.type "list",data:=.seq its.toArray},toks:=t'}:=
 I.laid (λ_ _ q=>Xq _ q) (Xf _) ⟨u,its,0,j,XR _ rfl⟩
theorem Inv.fresh(I:Inv X pq σ H s):H s.heap.objs.size=none:=I.hok.fresh (Xf _)
theorem Inv.lstM(I:Inv X pq σ H s)(u:H l=some (.lst xs)):xs.length<=sizeLine/\∃(j:List X0) (n:Nat),Vals xs j/\xs.length=j.length/\s.heap.get? l=some {cls:=.type "list",data:=.seq j.toArray n}:=by
 obtain⟨z,j,n,r,e⟩:=I.hok l _ u;exact⟨z,j,n,r,r.length,e⟩
theorem Jb(h:n<=sizeLine):CB n=false:=by
 unfold CB;exact decide_eq_false (by lia)
end
section
variable{X:Cx}
def Zno:V->List V->Hp->VK->Prop:=λx u H Q=>∃l j y,x=.ref l/\u=[y]/\H l=some (.lst j)/\j.length<sizeLine/\Q .non (upd H l (.lst (j++[y])))
theorem Jc:MtM X "list.append" Zno:=by
 intro c s f H x p v L Q I m g h;obtain⟨l,N,y,rfl,rfl,w,O,q⟩:=h;cases m;obtain⟨u,rfl,d⟩:=g.one;obtain⟨z,j,n,r,P,e⟩:=I.lstM w;refine UP F.slot_list_append ⟨_,e,rfl⟩ F.entry_list_append (F.args_list_append_2 _ _) (PySem.list_append l j.toArray n u (by rw[XO];lia)) ⟨e,?_⟩
 refine⟨.non,_,I.lset (its':=j++[u]) w e (by simp) (r.append (.cons d .nil)) ?_,rfl,q⟩
 rw[Ye,List.length_singleton];lia
def Znn:V->List V->Hp->VK->Prop:=λx w H Q=>∃l b j u,x=.ref l/\w=[.ref b]/\H l=some (.lst j)/\H b=some (.lst u)/\j.length+u.length<=sizeLine/\Q .non (upd H l (.lst (j++u)))
theorem _j8:MtM X "list.extend" Znn:=by
 intro R s T H x U v W Q I d c h;obtain⟨l,b,Y,Z,rfl,rfl,g,f,A,q⟩:=h;cases d;obtain⟨u,rfl,p⟩:=c.one;cases p;obtain⟨z,w,n,r,B,e⟩:=I.lstM g;obtain⟨C,j,L,N,O,P⟩:=I.lstM f;have m:w.toArray.size+j.toArray.size<=sizeLine:=by rw[XO,XO];lia
 have y:¬(!w.toArray.isEmpty&&CB (w.toArray.size+j.toArray.size))=true:=by
  rw[Jb m,Wt];exact XG
 refine UP F.slot_list_extend ⟨_,e,rfl⟩ F.entry_list_extend (F.args_list_extend_2 _ _)
  (AutoSeq1.list_extend_list_list_0 l w.toArray n b j.toArray L y (by rw[XO];lia) (by lia)) ⟨e,P,?_⟩
 refine⟨.non,_,I.lset (its':=w++j) g e (by simp) (r.append N) ?_,rfl,q⟩
 rw[Ye];lia
def rRep:R2:=λx y H Q=>∃l k j,x=.ref l/\y=.int k/\H l=some (.lst j)/\ -(2^63)<=k/\k<2^63/\j.length*k.toNat<=sizeLine/\
 ∀p,H p=none->Q (.ref p) (upd H p (.lst (Xj k.toNat j).flatten))
theorem Jd{j:Type}(xs:List j)(k:Nat):(Xj k xs).flatten.length=k*xs.length:=by
 induction k with
 |zero=>simp
 |succ k l=>rw[Za,ZE,Ye,l,Nat.succ_mul,Ch]
theorem _qp:OpR X (Yk .Mult) rRep:=by
 intro C s D H x y v u Q I O P h;obtain⟨l,k,E,rfl,rfl,R,W,Y,N,q⟩:=h;cases O;obtain⟨t,rfl⟩:=P;obtain⟨z,j,n,r,Z,e⟩:=I.lstM R;have g:j.toArray.size*k.toNat<=sizeLine:=by rw[XO,<-Z];exact N
 have d:¬j.toArray.size*k.toNat>(2^63 - 1)/8:=by
  have:(sizeLine:Nat)<=(2^63 - 1)/8:=by decide
  lia
 have c:¬(!Builtin.List.listFitsIndex k)=true:=by
  rw[fitsIndex_both W Y];exact XG
 have w:¬CB (j.toArray.size*k.toNat)=true:=by
  rw[Jb g];exact XG
 have f:Vx (λp L=>p++L) #[] (Xj (if j.toArray.isEmpty=true then 0 else k.toNat) j.toArray)=(Xj k.toNat j).flatten.toArray:=by
  have A:∀m:Nat,Vx (λp L=>p++L) #[] (Xj m j.toArray)=(Xj m j).flatten.toArray:=λm=>by
   have:=EA j m [];rw[Y7]at this;exact this
  rw[A];cases j with
  |nil=>simp
  |cons a G=>rw[if_neg (by simp)]
 refine wpAny_binaryOp_repeat_ref (T:="list") (U:="int") (by decide) ⟨_,e,rfl⟩ (fun B=>typeIs_int B k t) noFill_list_mul F.fills_int_mul F.slot_int_rmul repeat_list F.slot_int_index.lookup
  (UP F.slot_int_rmul (typeIs_int s k t) F.entry_int_rmul (F.args_int_rmul_2 _ _) (int___rmul___int_list k t l j.toArray n)
   ⟨e,rfl,⟨_,e,rfl⟩,UP F.slot_list_mul ⟨_,e,rfl⟩ F.entry_list_mul (F.args_list_mul_2 _ _) (AutoListH.list___mul___list_int_3 l j.toArray n k t c d w) ⟨e,?_⟩⟩)
 rw[f];exact⟨.ref _,_,I.lnew (t':=s.toks) (r.rep k.toNat) (by rw[Jd,Nat.mul_comm];exact N),rfl,q _ I.fresh⟩
end
section
variable{prog:Xw}{w:Xn}{A:Xz}{E:X0->X2->Prop}{s:X2}
set_option maxRecDepth 100000 in
end
section
variable{X:Cx}
end
section
variable{κ:Type} [DecidableEq κ]
noncomputable def valV(j:List (κ×V))(k:κ):Option V:=(j.find? λl=>decide (l.1=k)).map (·.2)
noncomputable def putK(j:List (κ×V))(k:κ)(v:V):List (κ×V):=
 if(j.any λl=>decide (l.1=k))=true then j.map (λl=>if l.1=k then(l.1,v)else l)else j++[(k,v)]
theorem CN{k:κ}(e:p.1=k):valV (p::r) k=some p.2:=by simp[valV,Vw,e]
theorem CO{k:κ}(e:¬p.1=k):valV (p::r) k=valV r k:=by simp[valV,Vw,e]
theorem Je(k:κ):∀j:List (κ×V),(j.any λl=>decide (l.1=k))=(valV j k).isSome
 |[]=>rfl
 |p::r=>by
  rw[ZF];by_cases e:p.1=k
  .simp only[CN e,decide_eq_true e,Bool.true_or,Option.isSome_some]
  .rw[CO e,decide_eq_false e,Eb];exact Je k r
theorem EB(j:List (κ×V))(k:κ)(v:V):(putK j k v).length<=j.length+1:=by
 unfold putK;split
 .rw[Xb];lia
 .rw[Ye,Yl,E2];lia
theorem RelO.isSome_eq(r:RelO o u):o.isSome=u.isSome:=by
 cases o with
 |none=>cases u with
  |none=>rfl
  |some _=>exact(show False from r).elim
 |some _=>cases u with
  |none=>exact(show False from r).elim
  |some _=>rfl
theorem KV.val(r:KV kvs vs)(k:κ):RelO (valV kvs k) (Z2 vs k):=by
 unfold KV at r
 induction r with
 |nil=>exact Yw
 | @cons p q g j h t y=>
  obtain⟨u,m⟩:=h;by_cases e:p.1=k
  .have l:q.1=k:=u.symm.trans e;have b:Z2 (q::j) k=some q.2:=by simp[Z2,Vw,l]
   rw[CN e,b];exact m
  .have l:¬q.1=k:=λz=>e (u.trans z);have b:Z2 (q::j) k=Z2 j k:=by simp[Z2,Vw,l]
   rw[CO e,b];exact y
theorem KV.any(r:KV kvs vs)(k:κ):(kvs.any λj=>decide (j.1=k))=vs.any λj=>decide (j.1=k):=by
 unfold KV at r
 induction r with
 |nil=>rfl
 |cons h t l=>rw[ZF,ZF,l,h.1]
theorem KV.repl(r:KV kvs vs)(k:κ)(m:RelV y u):
  KV (kvs.map λj=>if j.1=k then(j.1,y)else j) (vs.map λj=>if j.1=k then(j.1,u)else j):=by
 unfold KV at r ⊢
 induction r with
 |nil=>exact .nil
 | @cons p q c f h t g=>
  rw[Xx,Xx];refine .cons ?_ g;obtain⟨l,d⟩:=h;by_cases e:p.1=k
  .rw[if_pos e,if_pos (l.symm.trans e)];exact⟨l,m⟩
  .rw[if_neg e,if_neg (λz=>e (l.trans z))];exact⟨l,d⟩
theorem KV.put(r:KV kvs vs)(k:κ)(j:RelV y u):KV (putK kvs k y) (stored vs k u):=by
 unfold putK stored;rw[r.any k];by_cases e:(vs.any λl=>decide (l.1=k))=true
 .rw[if_pos e,if_pos e];exact r.repl k j
 .rw[if_neg e,if_neg e];exact Paired.snoc r ⟨rfl,j⟩
theorem KV.length(r:KV kvs vs):kvs.length=vs.length:=Paired.length r
end
theorem UB{k:Key}(r:RelV (kV k) u):(YB P w).is k u=true:=by
 cases k with
 |inl i=>obtain⟨t,e⟩:=(show∃t,u=VF i t from r);subst e;exact Tb P w i t
 |inr x=>obtain⟨t,e⟩:=(show∃t,u=XF x t from r);subst e;exact Tc P w x t
theorem Jf:∀{ks:List Key} {us:List X0},Vals (ks.map kV) us->ItemsAre (YB P w) ks us
 |[],_,r=>by rw[Yg]at r;cases r;exact .nil
 |k::ks,_,r=>by
  rw[Xx]at r;cases r with
  |cons h t=>exact .cons (UB h) (Jf t)
abbrev KT(H:Hp):List (List Key×V)->List (List Key×Addr×X0)->Prop:=Paired λp q=>p.1=q.1/\H q.2.1=some (.tup (p.1.map kV))/\RelV p.2 q.2.2
theorem KT.val(r:KT H kvs xs)(k:List Key):RelO (valV kvs k) ((atKey xs k).map (·.2)):=by
 induction r with
 |nil=>exact Yw
 | @cons p q g j h t y=>
  obtain⟨u,_,m⟩:=h;by_cases e:p.1=k
  .have l:q.1=k:=u.symm.trans e;have b:atKey (q::j) k=some q.2:=by simp[atKey,Vw,l]
   rw[CN e,b];exact m
  .have l:¬q.1=k:=λz=>e (u.trans z);have b:atKey (q::j) k=atKey j k:=by simp[atKey,Vw,l]
   rw[CO e,b];exact y
theorem KT.repl(r:KT H kvs xs)(k:List Key)(g:RelV y u):
  KT H (kvs.map λl=>if l.1=k then(l.1,y)else l) (xs.map (putAt k u)):=by
 induction r with
 |nil=>exact .nil
 | @cons p q f L h t d=>
  rw[Xx,Xx];refine .cons ?_ d;obtain⟨j,m,c⟩:=h;unfold putAt;by_cases e:p.1=k
  .rw[if_pos e,if_pos (j.symm.trans e)];exact⟨j,m,g⟩
  .rw[if_neg e,if_neg (λz=>e (j.trans z))];exact⟨j,m,c⟩
theorem KT.put(r:KT H kvs xs)(k:List Key)(l:H b=some (.tup (k.map kV)))(j:RelV y u):
  KT H (putK kvs k y) (storedH xs k b u):=by
 have e:(kvs.any λz=>decide (z.1=k))=(atKey xs k).isSome:=by
  rw[Je,(r.val k).isSome_eq,Eo]
 unfold putK storedH;rw[e];by_cases q:(atKey xs k).isSome=true
 .rw[if_pos q,if_pos q];exact r.repl k j
 .rw[if_neg q,if_neg q];exact Paired.snoc r ⟨rfl,l,j⟩
theorem KT.keeps{H l:Hp}{j:List (List Key×V)}{xs:List (List Key×Addr×X0)}(r:KT H j xs)(u:∀b ys,H b=some (.tup ys)->l b=some (.tup ys)):KT l j xs:=
 Paired.mapP r λ_ _ z=>⟨z.1,u _ _ z.2.1,z.2.2⟩
section
variable{P:Xw}{w:Xn}{H:Hp}{h:Heap}{a:Addr}
theorem Jg(ok:HOk P w H h)(e:Rd H a u):ObjOk P w H h a u:=e.ok ok
theorem V4(ok:HOk P w H h)(e:Rd H a (.dK kvs)):kvs.length<=sizeLine/\(a==YM)=false/\∃vs,KV kvs vs/\h.DictOf (YB P w) a vs:=
 show ObjOk P w H h a (.dK kvs)from Jg ok e
theorem CP(ok:HOk P w H h)(e:H a=some (.dK kvs)):kvs.length<=sizeLine/\(a==YM)=false/\∃vs,KV kvs vs/\h.DictOf (YB P w) a vs:=V4 ok (.inl e)
theorem WI(ok:HOk P w H h)(e:H a=some (.tup (ks.map kV))):(tupleKind (YB P w)).is h ks a:=by
 obtain⟨_,j,r,⟨o,l,u,n,y⟩,_⟩:=(show ObjOk P w H h a (.tup (ks.map kV))from ok a _ e);exact⟨o,j.toArray,n,l,u,y,by simpa using Jf r⟩
theorem WJ(ok:HOk P w H h)(e:Rd H a (.dT kvs)):kvs.length<=sizeLine/\(a==YM)=false/\
  ∃xs,KT H kvs xs/\h.DictOfH (tupleKind (YB P w)) a xs:=by
 obtain⟨z,y,xs,r,o,g,d,c,f,L,N,O⟩:=(show ObjOk P w H h a (.dT kvs)from Jg ok e);refine⟨z,y,xs,r,o,g,d,c,f,L,N,λx j=>?_,O⟩;have all:∀{l:List (List Key×V)} {m:List (List Key×Addr×X0)},KT H l m->∀x∈m,(tupleKind (YB P w)).is h x.1 x.2.1:=by
  intro l m q
  induction q with
  |nil=>intro x j;exact nomatch j
  | @cons p q T U u t R=>
   intro x j;rcases Xl.mp j with e|j
   .subst e;exact WI ok (by rw[<-u.1];exact u.2.1)
   .exact R x j
 exact all r x j
theorem _t3(ok:HOk P w H h)(e:H a=some (.dT kvs)):kvs.length<=sizeLine/\(a==YM)=false/\
  ∃xs,KT H kvs xs/\h.DictOfH (tupleKind (YB P w)) a xs:=WJ ok (.inl e)
end
def DGet(H:Hp)(a:Addr)(y:V)(r:Option V):Prop:=
 (∃j k,Rd H a (.dK j)/\y=kV k/\r=valV j k)\/∃j k b,Rd H a (.dT j)/\y=.ref b/\H b=some (.tup (k.map kV))/\r=valV j k
def DPut(H:Hp)(a:Addr)(y v:V)(l:Hp):Prop:=
 (∃j k,H a=some (.dK j)/\y=kV k/\j.length<sizeLine/\l=upd H a (.dK (putK j k v)))\/
 ∃j k b,H a=some (.dT j)/\y=.ref b/\H b=some (.tup (k.map kV))/\j.length<sizeLine/\l=upd H a (.dT (putK j k v))
theorem DGet.k{k:Key}(e:H a=some (.dK kvs)):DGet H a (kV k) (valV kvs k):=.inl ⟨kvs,k,.inl e,rfl,rfl⟩
theorem DPut.k{k:Key}(e:H a=some (.dK kvs))(j:kvs.length<sizeLine):DPut H a (kV k) v (upd H a (.dK (putK kvs k v))):=.inl ⟨kvs,k,e,rfl,j,rfl⟩
section
variable{X:Cx}{pq:List (Addr×Obj)}{σ:St}{H:Hp}{s:X2}{a:Addr}{y v:V}{u r:X0}{o:Option V}{A:Xz}{E:X0->X2->Prop}
theorem Inv.big(I:Inv X pq σ H s):YM<s.heap.objs.size:=by
 have h:Xp<s.heap.objs.size:=(I.mod.glob.keeps I.bk).lt;exact UX (by decide) h
theorem _ka(R:A.units+1<cLine)(I:Inv X pq σ H s)(g:DGet H a y (some v))(O:RelV y u)(h:∀d P,Inv X pq σ H P->RelV v d->Q d P):
  X3 (X6 X.prog X.w) A (getItem (.ref a) u) Q E s:=by
 rcases g with⟨c,k,e,f,l⟩|⟨c,k,b,e,f,T,l⟩
 .subst f;obtain⟨z,U,W,j,q⟩:=V4 I.hok e;obtain⟨d,L,m⟩:=RelO.some_of (v:=v) (o:=Z2 W k) (by rw[l];exact j.val k)
  exact wpAny_getItem_of (UB O) q.mapOf L (h d _ (I.tok _) m)
 .subst f;cases(show u=Xo b from O);obtain⟨z,U,Y,j,q⟩:=WJ I.hok e;obtain⟨d,L,m⟩:=RelO.some_of (v:=v) (o:=(atKey Y k).map (·.2)) (by rw[l];exact j.val k)
  obtain⟨p,Z,N⟩:=Em.mp L;refine wpAny_getItem_heap (BO R) (WI I.hok T) q Z ?_;rw[N];exact h d _ (I.tok _) m
theorem d_in(N:A.units+1<cLine)(I:Inv X pq σ H s)(g:DGet H a y o)(p:RelV y u)(h:∀L,Inv X pq σ H L->Q (.bool o.isSome) L):
  X3 (X6 X.prog X.w) A (XZ .In u (.ref a)) Q E s:=by
 rcases g with⟨m,k,e,d,l⟩|⟨m,k,b,e,d,O,l⟩
 .subst d;obtain⟨z,c,P,j,f⟩:=V4 I.hok e;refine wpAny_in_of (UB p) c f.mapOf ?_;rw[<-(j.val k).isSome_eq,<-l];exact h _ (I.tok _)
 .subst d;cases(show u=Xo b from p);obtain⟨z,c,R,j,f⟩:=WJ I.hok e;refine wpAny_in_heap (BO N) (WI I.hok O) c f ?_;have q:=(j.val k).isSome_eq;rw[Eo]at q;rw[<-q,<-l];exact h _ (I.tok _)
theorem _oT(N:A.units+1<cLine)(I:Inv X pq σ H s)(g:DGet H a y o)(p:RelV y u)(h:∀L,Inv X pq σ H L->Q (.bool (!o.isSome)) L):
  X3 (X6 X.prog X.w) A (XZ .NotIn u (.ref a)) Q E s:=by
 rcases g with⟨m,k,e,d,l⟩|⟨m,k,b,e,d,O,l⟩
 .subst d;obtain⟨z,c,P,j,f⟩:=V4 I.hok e;refine wpAny_notIn_of (UB p) c f.mapOf ?_;rw[<-(j.val k).isSome_eq,<-l];exact h _ (I.tok _)
 .subst d;cases(show u=Xo b from p);obtain⟨z,c,R,j,f⟩:=WJ I.hok e;refine wpAny_notIn_heap (BO N) (WI I.hok O) c f ?_;have q:=(j.val k).isSome_eq;rw[Eo]at q;rw[<-q,<-l];exact h _ (I.tok _)
theorem EC(I:Inv X pq σ H s)(j:Mut (H a))(l:U2 a s.heap h')(m:∃q,h'.get? a=some q)(new:ObjOk X.prog X.w (upd H a ob) h' a ob):
  Inv X pq σ (upd H a ob) {s with heap:=h',toks:=t'}:=
 I.write (x:=a) (e:=a) j (.inl rfl) (λb q g z=>(l.2 b g).trans z) m new
theorem WK(z:kvs.length<=sizeLine)(l:(a==YM)=false)(j:KV kvs vs)(m:h'.DictOf (YB P w) a vs):
  ObjOk P w H' h' a (.dK kvs):=⟨z,l,vs,j,m⟩
theorem _k9{U:Hp}{Q:Unit->X2->Prop}(F:A.units+1<cLine)(I:Inv X pq σ H s)(g:DPut H a y v U)(W:RelV y u)(Y:RelV v r)(h:∀Z,Inv X pq σ U Z->Q () Z):
  X3 (X6 X.prog X.w) A (setItem (.ref a) u r) Q E s:=by
 rcases g with⟨j,k,e,p,l,L⟩|⟨j,k,b,e,p,B,l,L⟩
 .subst p L;obtain⟨z,N,G,m,O⟩:=CP I.hok e;have P:G.length<=sizeLine:=by rw[<-m.length];exact z
  have R:(putK j k v).length<=sizeLine:=by have:=EB j k v;lia
  refine wpAny_setItem_pairs (hsz:=P) (UB W) O λC d T=>h _ ?_;have J:∃q,C.get? a=some q:=let⟨q,_,_,f,_⟩:=d;⟨q,f⟩
  exact EC I (by rw[e];exact Yw) T J (WK R N (m.put k Y) d)
 .subst p L;cases(show u=Xo b from W);obtain⟨z,N,M,m,O⟩:=_t3 I.hok e;have P:M.length<=sizeLine:=by rw[<-Paired.length m];exact z
  have R:(putK j k v).length<=sizeLine:=by have:=EB j k v;lia
  refine wpAny_setItem_heap (hsz:=P) (BO F) (WI I.hok B) O λC d T=>h _ ?_;obtain⟨q,S,i,f,n,x,h4,_,h5⟩:=d;refine EC I (by rw[e];exact Yw) T ⟨q,f⟩ ⟨R,N,_,(m.put k B Y).keeps λc ys D=>?_,q,S,i,f,n,x,h4,h5⟩
  rw[XN (Iv D e (λz=>nomatch z))];exact D
end
section
variable{X:Cx}{pq:List (Addr×Obj)}{σ:St}{H:Hp}{s:X2}{a:Addr}{kvs:List (Key×V)}{k:Key}{u:X0}{A:Xz}{E:X0->X2->Prop}
theorem _t4(I:Inv X pq σ H s)(e:Rd H a (.dK kvs))(h:∀t l,Inv X pq σ H l->Q (.int kvs.length t) l):X3 (X6 X.prog X.w) A (call (.builtin "len") [.ref a]) Q E s:=by
 obtain⟨z,y,g,j,m⟩:=V4 I.hok e;refine call_len_dict y m (by rw[<-j.length];rw[sizeLine_eq]at z;lia) ?_
 rw[<-j.length];exact h _ _ (I.tok _)
end
theorem _gw(I:Inv X pq σ H s)(g:DGet H a y o):s.TypeIs (.ref a) "dict":=by
 rcases g with⟨j,k,e,_,_⟩|⟨j,k,b,e,_,_,_⟩
 .obtain⟨_,_,u,_,l⟩:=V4 I.hok e;exact l.typeIs
 .obtain⟨_,_,z,_,l⟩:=WJ I.hok e;exact l.typeIs
section
variable{X:Cx}{o i e value:Expr}{pos pos' tpos:Pos}{td ty tv:TE}
end
theorem Jh{P:Xw}{w:Xn}{H:Hp}(h:Heap)(j:YM<h.objs.size):ObjOk P w H (h.push {cls:=.type "dict",data:=.dict #[]}) h.objs.size (.dK []):=
 ⟨YA _,beq_eq_false_iff_ne.mpr (XM (XB j)),[],.nil,Ep h⟩
def Zpu:TE:=λ_ H Q=>∀p,H p=none->Q (.ref p) (upd H p (.dK []))
section
variable{X:Cx}{pos:Pos}
theorem pe_dnewK:PE X (.Dict [] [] pos) Zpu:=λj s l H Q I h=>
 wpAny_Dict_empty ⟨.ref s.heap.objs.size,_,I.laid (a:=s.heap.objs.size) (o:=.dK []) (t':=s.toks) (λ_ _ q=>Xq _ q) (Xf _) (Jh s.heap I.big),rfl,h _ (I.hok.fresh (Xf _))⟩
end
def CQ:List (TE×TE)->St->Hp->(List (V×V)->Hp->Prop)->Prop
 |[],_,H,Q=>Q [] H
 |(tk,tv)::r,σ,H,Q=>tk σ H λx j=>tv σ j λy l=>CQ r σ l λu z=>Q ((x,y)::u) z
abbrev VV:List (V×V)->List (X0×X0)->Prop:=Paired λp q=>RelV p.1 q.1/\RelV p.2 q.2
def PPs(X:Cx)(pos:Pos)(l:List (Option Expr))(j:List Expr)(u:List (TE×TE)):Prop:=
 ∀(z:List (Addr×Obj))(s:X2)(y:St)(H:Hp)(Q:List (V×V)->Hp->Prop),Inv X z y H s->CQ u y H Q->
  X3 (X6 X.prog X.w) X.A (evalPairs (pairTrees l j X.env pos)) (λd c=>∃m g,Inv X z y g c/\VV m d/\Q m g) X.xe s
theorem _nB:PPs X pos [] [] []:=λj s l H Q I h=>pairTrees_nil_walk ⟨[],H,I,.nil,h⟩
theorem _l9{X:Cx}{pos:Pos}{k v:Expr}{ks:List (Option Expr)}{vs:List Expr}{tk g:TE}{j:List (TE×TE)}(d:PE X k tk)(c:PE X v g)(f:PPs X pos ks vs j):
  PPs X pos (some k::ks) (v::vs) ((tk,g)::j):=λl s z H Q I h=>
 pairTrees_cons_walk (thn (d l s z H _ I h) λu q ⟨x,r,p,e,L⟩=>thn (c l q z r _ p L) λB N ⟨y,O,P,R,T⟩=>
  thn (f l N z O _ P T) λC D ⟨U,W,Y,m,Z⟩=>⟨(x,y)::U,W,Y,.cons ⟨e,R⟩ m,Z⟩)
def VR(l j:List (Key×V)):List (Key×V):=j.foldl (λu y=>putK u y.1 y.2) l
theorem KV.merge:∀{j:List (Key×V)} {u:List (Key×X0)} {l:List (Key×V)} {vs:List (Key×X0)},KV j u->KV l vs->KV (VR l j) (merged vs u):=by
 intro j u l vs r;unfold KV at r
 induction r generalizing l vs with
 |nil=>intro q;exact q
 | @cons p q m g h t y=>
  intro z;have e:KV (putK l p.1 p.2) (stored vs q.1 q.2):=by
   have:=z.put p.1 h.2;rw[<-h.1];exact this
  exact y e
theorem Ji:∀(l j:List (Key×V)),(VR j l).length<=j.length+l.length
 |[],j=>by show j.length<=j.length+0;lia
 |p::r,j=>by
  have u:=Ji r (putK j p.1 p.2);have y:=EB j p.1 p.2;show(VR (putK j p.1 p.2) r).length<=_;rw[Yl];lia
theorem Jj{P:Xw}{w:Xn}:∀{j:List (Key×V)} {u:List (X0×X0)},VV (j.map λy=>(kV y.1,y.2)) u->∃l,Carries (YB P w) u l/\KV j l
 |[],_,r=>by rw[Yg]at r;cases r;exact⟨[],Yw,.nil⟩
 |p::j,_,r=>by
  rw[Xx]at r;cases r with
  | @cons a b m bs h t=>
   obtain⟨l,c,q⟩:=Jj (P:=P) (w:=w) t;obtain⟨g,z⟩:=b;exact⟨(p.1,z)::l,⟨UB h.1,rfl,c⟩,.cons ⟨rfl,h.2⟩ q⟩
def Zrv(l:List (TE×TE)):TE:=λz H Q=>∀p,H p=none->CQ l z (upd H p (.dK [])) λm u=>u p=some (.dK [])/\∃j:List (Key×V),m=j.map (λy=>(kV y.1,y.2))/\j.length<=15/\Q (.ref p) (upd u p (.dK (VR [] j)))
theorem _nM{X:Cx}{pos:Pos}{j:List (Option Expr)}{l:List Expr}{u:List (TE×TE)}(h:PPs X pos j l u)(y:j.all (·.isSome)=true)(r:j.length=l.length)(p:j≠ [])
  (h15:j.length<=15):PE X (.Dict j l pos) (Zrv u):=by
 intro L s N H Q I q;have O:=I.hok.fresh (Xf s.heap.objs.size);have R:=I.laid (a:=s.heap.objs.size) (o:=.dK []) (h':=s.heap.push {cls:=.type "dict",data:=.dict #[]}) (t':=s.toks) (fun _ _ q=>Xq _ q) (Xf _) (Jh s.heap I.big);refine wpAny_Dict_walk (knd:=YB X.prog X.w) y r p h15 (thn (h L _ N _ _ R (q _ O)) λv i ⟨n,x,f,d,e,m,T,b,U⟩=>?_);subst T;obtain⟨W,c,Y⟩:=Jj (P:=X.prog) (w:=X.w) d;obtain⟨z,Z,B,C,D⟩:=CP f.hok e;cases C;refine⟨W,c,D,λF g G=>⟨.ref s.heap.objs.size,_,?_,rfl,U⟩⟩;have J:(VR [] m).length<=sizeLine:=by
  have M:=Ji m [];rw[E2]at M;rw[sizeLine_eq];lia
 have S:∃q,F.get? s.heap.objs.size=some q:=let⟨q,_,_,hq,_⟩:=g;⟨q,hq⟩
 exact EC f (by rw[e];exact Yw) G S (WK J Z (Y.merge .nil) g)
structure M1 (X:Cx)(o:Expr)(m:Str)(apos:Pos)(e:Expr)(cpos:Pos):Prop where
 base:Ul o m X.env (eval o X.env)=eval o X.env
 few:((Y2 cpos (XC [e] X.env)).all (λx=>!x.1)&&(ZX cpos (ZY [] X.env)).all (λx=>x.1.isSome)
  &&decide (([e]:List Expr).length+([]:List Z7).length+(if([]:List Z7).isEmpty then 0 else 1)<30))=true
 line:(apos.endLine==cpos.line)=true
 trees:Y2 cpos (XC [e] X.env)=[(false,eval e X.env)]
structure M2 (X:Cx)(o:Expr)(m:Str)(apos:Pos)(e f:Expr)(cpos:Pos):Prop where
 base:Ul o m X.env (eval o X.env)=eval o X.env
 few:((Y2 cpos (XC [e,f] X.env)).all (λx=>!x.1)&&(ZX cpos (ZY [] X.env)).all (λx=>x.1.isSome)
  &&decide (([e,f]:List Expr).length+([]:List Z7).length+(if([]:List Z7).isEmpty then 0 else 1)<30))=true
 line:(apos.endLine==cpos.line)=true
 trees:Y2 cpos (XC [e,f] X.env)=[(false,eval e X.env),(false,eval f X.env)]
section
variable{X:Cx}{pq:List (Addr×Obj)}{σ:St}{H:Hp}{s:X2}{a:Addr}{y d:V}{u r:X0}{o:Option V}{A:Xz}{E:X0->X2->Prop}
end
section
variable{X:Cx}{o e f:Expr}{apos cpos:Pos}{td ty tx:TE}
end
section
variable{X:Cx}{pq:List (Addr×Obj)}{σ:St}{H:Hp}{s:X2}{a:Addr}{kvs:List (Key×V)}{A:Xz}{E:X0->X2->Prop}
theorem _lV(I:Inv X pq σ H s)(e:Rd H a (.dK kvs))(h:∀p u,H p=none->Inv X pq σ (upd H p (.dK kvs)) u->Q (.ref p) u):X3 (X6 X.prog X.w) A (call (.type "dict") [.ref a]) Q E s:=by
 obtain⟨z,m,c,j,g⟩:=V4 I.hok e;refine kt_call_dict m g (by rw[<-j.length];exact z) λf l d=>?_
 refine h _ _ (I.hok.fresh (Xf _)) (I.laid (a:=s.heap.objs.size) (o:=.dK kvs) (t':=s.toks) (λb q y=>?_) (Xf _) (WK z (beq_eq_false_iff_ne.mpr (XM (XB I.big))) j l));exact(d.2 b (XB (Xv y))).trans (Xq _ y)
end
section
variable{X:Cx}{pq:List (Addr×Obj)}{σ:St}{H:Hp}{s:X2}{a:Addr}{y:V}{u:X0}{A:Xz}{E:X0->X2->Prop}
end
end L2
namespace Att
open PySem PySem.W PySem.Calls PyProof.Rows
theorem _bI:∀(j:List Int)(vs:List X0),WellAll P h vs (j.map WData.int)->IntsAre vs j:=by
 intro j
 induction j with
 |nil=>
  intro vs w;rw[Yg]at w;cases w;exact .nil
 |cons n j l=>
  intro vs w;rw[Xx]at w;cases w with
  |cons a b=>
   cases a;exact .cons _ _ (l _ b)
theorem _iL{l:OpenLaw}{n:Nat}(L:l.most=some n){P:Params}{h:Heap}{j:List WData}{w:List X0}
  (y:l.row.toRowW.claim.pre j=true)(f:WellAll P h w j):
  ∃a vs u,w=[Xo a]/\j=[WData.list (u.map WData.int)]/\h.get? a=some {cls:=.type "list",data:=.seq vs.toArray}/\IntsAre vs u/\u.length<=n:=by
 have p:WShape.hasAll [] j [.list .int]=true:=(pre_splitW y).1;have e:l.pre.holds [] {args:=j}=true:=(pre_splitW y).2;obtain⟨d,r,rfl,N,O⟩:=hasAllW_cons p;obtain rfl:=hasAllW_nil O;obtain⟨Z,rfl,R⟩:=hasW_list N;obtain⟨u,rfl⟩:=items_int R;have z:u.length<=n:=by
  unfold OpenLaw.pre at e;have g:(WTm.not (.lt (.lit (.int (n:Int))) (.len (.arg 0)))).holds [] {args:=[.list (u.map .int)]}=true:=by
   have g:=(holds_andW e).1;rw[L]at g;exact g
  have c:=condW_of g (w_not (w_lt w_lit (w_len_list (w_arg rfl))));rw[Xb]at c;refine Nat.le_of_not_lt λq=>?_;have T:(n:Int)<((u.length:Nat):Int):=by lia
  first
   |(rw[decide_eq_true T]at c;exact absurd c (by decide))
   |(simp at c;lia)
 cases f with
 |cons U W=>
  cases W;cases U with
  |list Y m=>exact⟨_,_,u,rfl,rfl,Y,_bI u _ m,z⟩
theorem _iX(l:OpenLaw)(j:List WData):l.row.toRowW.claim.post j (.bool true) j=true:=
 postW_of (r:=l.row.toRowW) (X:=(true==true))
  (show WShape.has [] (.bool true) .bool=true by first|rfl|decide|simp[WShape.has,WShape.arms,WShape.armsAll])
  (show(WTm.eq .res (.lit (.bool true))).value [] {args:=j,res:=some (.bool true),after:=j}=some (.bool (true==true))from w_eq_bool (w_res rfl) w_lit) rfl
theorem attach_call{l:OpenLaw}{n:Nat}{q:Xw}{u:List Str}{A:(Str->Option X0)->Heap->Prop}{B:Xn->Heap->Prop}{d:DefRec}
  (I:l.most=some n)(P:d.params.defaults=[])
  (call:∀(w:Xn)(y j:X2)(mg R:Str->Option X0)(g:Addr)(o:Obj)(T L z:X0)(a:Addr)(vs:List X0)(N:List Int),
   Ground q u [] A w y mg R j.heap->B w j.heap->
   j.heap.get? g=some o->o.data=.func (docDef d.name d.params d.body d.scope T L z)->j.heap.CodeRec L d.name->mg d.name=some (.ref g)->
   j.heap.get? a=some {cls:=.type "list",data:=.seq vs.toArray}->IntsAre vs N->N.length<=n->j.gens=#[]->
   YW (X6 l.prog w) callerA (.call (.ref g) ⟨[.ref a],[]⟩) (λr O=>r=.ok (.ret (.bool true))/\OldK j.heap O.heap/\O.os=j.os/\AllBare O.gens) j):
  WalkO q u A B l.row.toRowW d [] (λf vs=>PySem.call f vs):=by
 intro w y j mg R G Y g o T L z J kV M Q U C W S D E b c F X Z H;obtain rfl:J=.none:=Dflts.none C P;obtain rfl:kV=.none:=Dflts.noKw C;obtain⟨a,vs,N,rfl,rfl,p,m,e⟩:=_iL I c Z;refine enter_call (Vi (call w y j mg R g o T L z a vs N G Y M (fd_plain Q) U W p m e S) λr O v=>?_);obtain⟨rfl,s,i,x⟩:=v;exact⟨.inl ⟨.bool true,.bool true,[],rfl,λ_=>rfl,.bool true,_iX l _,λ_=>⟨List.Pairwise.nil,λ_ h=>(nomatch h)⟩⟩,s,i,x⟩
section
variable{prog:Xw}{w:Xn}{A:Xz}{E:X0->X2->Prop}{s:X2}{K:Frag}
noncomputable def ledger(h:Heap)(L d:Addr):List (Addr×Obj):=(Xs h.objs.size).filterMap λa=>if a=L\/a=d then none else(h.get? a).map λo=>(a,o)
end
end Att
namespace L2
open PySem PySem.Spec PyProof.Rows
theorem Jk:∀{vs:List X0} {j:List Int},IntsAre vs j->Vals (j.map V.int) vs
 |_,_,.nil=>.nil
 |_,_,.cons n t h=>.cons ⟨t,rfl⟩ (Jk h)
noncomputable def Only(H:Hp):Prop:=∀b,H b=none\/∃o j,H b=some (.frz o (.lst j))
theorem _lw{K:X4}{k:Nat}
  (J:K.In s₁.heap)(p:s₁.heap.Ns Xp mg)(l:s₁.heap.Ns builtinsNs mb)(B:∀x:Str,x≠"__name__"->mb x=YH x)(L:s₁.heap.NoLimit)(hg:s₁.gens=#[])
  (A:s₁.heap.get? a=some {cls:=.type "list",data:=.seq vs.toArray})(M:IntsAre vs ns)(Q:ns.length<=sizeLine)(hr:Room k callerA)
  (F:∀base:Heap,K.In base->base.Ns Xp mg->FnOk P w K mg base CX k fa fd [x] sp)(f:∀(s:X2)(u:X0),BindsTo s fd ⟨[u],[]⟩ [(x,u)])
  (C:∀H:Hp,Only H->SqL K H a (ns.map V.int)->sp [.ref a] H (λv _=>v=.bl true) λ_ _ _=>False)
  (D:∀H e y,CX [] H s₁ (λ_ _ _=>False) e y->False):
  YW (X6 P w) callerA (.call (.ref fa) ⟨[.ref a],[]⟩) (λr y=>r=.ok (.ret (.bool true))/\OldK s₁.heap y.heap/\y.os=s₁.os/\AllBare y.gens) s₁:=by
 have S:=Jk M;have N:=M.length;have c:∀H:Hp,Only H->SqL K H a (ns.map V.int)->HOk P w H s₁.heap->(∀b,H b≠none->b=a)->(H a≠none->K.lookup a=none)->
   YW (X6 P w) callerA (.call (.ref fa) ⟨[.ref a],[]⟩) (λr y=>r=.ok (.ret (.bool true))/\OldK s₁.heap y.heap/\y.os=s₁.os/\AllBare y.gens) s₁:=by
  intro H X hS O i hK;have j:∀{b:Addr} {o:Obj},s₁.heap.get? b=some o->H b=none->(hidT s₁.heap H).get? b=some o:=λe n=>Te e n;have E:∀{b:Addr} {o:Obj} {R:Array DictEntry} {T:Nat},s₁.heap.get? b=some o->o.data=.dict R T->H b=none:=fun{b o R T} e d=>by
   cases q:H b with
   |none=>rfl
   |some u=>
    have G:b=a:=i b (by rw[q];simp)
    subst G;rw[A]at e;cases e;have d':YY vs.toArray _=Data.dict R T:=d;cases d'
  have g:∀{b:Addr} {m:Str->Option X0},s₁.heap.Ns b m->(hidT s₁.heap H).Ns b m:=fun{b m} ⟨o,R,T,e,d,r⟩=>⟨o,R,T,j e (E e d),d,r⟩;have U:K.In (hidT s₁.heap H):=λb o e=>j (J b o e) (by
   cases q:H b with
   |none=>rfl
   |some u=>
    have G:b=a:=i b (by rw[q];simp)
    subst G;rw[hK (by rw[q];simp)]at e;cases e)
  have hM:Mod K mg (hidT s₁.heap H):=⟨U,g p,⟨mb,g l,B⟩,let⟨mc,h1,h2⟩:=L;⟨mc,g h1,h2⟩⟩
  have e0:Env0 P w K mg (hidT s₁.heap H) callerA [] s₁ H:=⟨rfl,hM,λb o e=>Tf e,Wr (Td _ _),trivial,λb l=>absurd (show b∈([]:List Addr)from l) (by simp),O,.of_eq hg⟩
  refine Vi ((F _ U (g p)).run callerA [] s₁ H ⟨[.ref a],[]⟩ [.ref a] [.ref a] _ _ hr e0 (f s₁ (.ref a)) (.cons rfl .nil) (C H X hS)) λr y h=>?_;cases r with
  |error e=>exact(D H e y h).elim
  |ok fl=>
   cases fl with
   |next=>exact Y5 h
   |brk=>exact Y5 h
   |cont=>exact Y5 h
   |ret u=>
    obtain⟨v,H',os,W,un,Y,r',q⟩:=h;have q':v=.bl true:=q;subst q';obtain rfl:u=Yc true:=r';refine⟨rfl,OldK.of_keep λb o e=>?_,os,W⟩;cases q:H b with
    |none=>exact un.keep b o e q (by intro z;exact absurd (show b∈([]:List Addr)from z) (by simp)) (by simp)
    |some u=>
     rcases X b with z|⟨ob,xs,z⟩
     .rw[q]at z;cases z
     .have z2:=un.frzs b ob _ z;obtain⟨e1,_⟩:=O b _ z;obtain⟨e2,_⟩:=Y b _ z2;rw[e]at e1;cases e1;exact e2
 cases I:K.lookup a with
 |some o=>
  have e:=J a o I;rw[A]at e;cases e;refine c (λ_=>none) (λ_=>.inl rfl) (.inr ⟨_,vs.toArray,_,I,rfl,rfl,rfl,by rw[XO,N];exact Q,by simpa using S⟩) (λb u z=>by have Z:(none:Option HO)=some u:=z;cases Z) (λb z=>absurd rfl z) λz=>absurd rfl z
 |none=>
  refine c (fun b=>if b=a then some (.frz {cls:=.type "list",data:=.seq vs.toArray} (.lst (ns.map V.int)))else none) (fun b=>?_) (.inl (.inr ⟨{cls:=.type "list",data:=.seq vs.toArray},if_pos rfl⟩)) (fun b u z=>?_) (fun b z=>?_) fun _=>I
  .by_cases l:b=a
   .exact .inr ⟨_,_,if_pos l⟩
   .exact .inl (if_neg l)
  .by_cases l:b=a
   .have Z:=(if_pos l).symm.trans z;cases Z;subst l;exact⟨A,by rw[Xb];exact Q,vs,_,S,A⟩
   .have Z:=(if_neg l).symm.trans z;cases Z
  .by_cases l:b=a
   .exact l
   .exact absurd (if_neg l) z
noncomputable abbrev KOf{K:X4}{h:Heap}(_:K.In h):X4:=K
theorem walk_of{l:E7}{n k:Nat}{q:Xw}{y:List Str}{A:(Str->Option X0)->Heap->Prop}{U:Xn->Heap->Prop}{d:DefRec}{K:Params->X4}{CX:Xn->CXT}{sp:Xn->Sp}{x:Str}
  (B:l.most=some n)(p:n<=sizeLine)(L:d.params.defaults=[])(C:Room k callerA)
  (D:∀(w:Xn)(h:Heap),U w h->(K w.params).In h)
  (F:∀(w:Xn)(mg:Str->Option X0)(c:Addr)(h:Heap),(K w.params).In h->h.Ns Xp mg->mg d.name=some (.ref c)->
   ∃N:Xd,(∀(s:X2)(u:X0),BindsTo s N ⟨[u],[]⟩ [(x,u)])/\
    ∀base:Heap,(K w.params).In base->base.Ns Xp mg->FnOk l.prog w (K w.params) mg base (CX w) k c N [x] (sp w))
  (O:∀(w:Xn)(H:Hp)(a:Addr)(r:List Int),r.length<=n->Only H->SqL (K w.params) H a (r.map V.int)->sp w [.ref a] H (λv _=>v=.bl true) λ_ _ _=>False)
  (P:∀(w:Xn)(H:Hp)(s:X2)(e:X0)(R:X2),CX w [] H s (λ_ _ _=>False) e R->False):
  PySem.W.WalkO q y A U l.row.toRowW d [] (λf vs=>PySem.call f vs):=by
 refine Att.attach_call B L λw W m mg i c o b cd E a vs r G Y ho hd I T g z j J=>?_;have Z:=D w _ Y;obtain⟨N,M,Q⟩:=F w mg c _ Z G.T.g T;exact _lw Z G.T.g G.T.b G.T.builtins G.T.nolimit J g z (Y4 j p) C Q M (λH S X=>O w H a r j S X) λH e R=>P w H m e R
end L2
/- THE LAST THEOREM (shape;LID,My.*are yours):
  My.Adr:a structure of the addresses that your layer names (classes,functions);My.Txt K t:a structure(Prop) of the equations over K;
  My.txt_mk:{K} {implicit addresses ..} (e1:nsIn K Xp "law"=some (some (.ref f))) (e2:K.lookup f=some ⟨oc,od,.func (fnOf "law" "law" params body scope dV kV doc pm an cdv ct),sl⟩) (e3:codeIn K cdv "law"=true) ..:∃t,My.Txt K t
set_option maxRecDepth 100000 in
set_option maxHeartbeats 0 in
theorem PySem.Challenge.cw_LID_holds : PySem.Challenge.rw_LID.Holds := by
 w_on;o_law;k_head;(case hw=>w_witness2)
 k_fill
 refine L2.walk_of (l:=PySem.Challenge.rw_LID) (n:=63) (k:=40) (x:="script") (CX:=fun w=>..) (sp:=fun _=>My.sp_law) rfl (by decide) rfl ⟨rfl,by decide,by decide⟩ (fun w h Y=>PySem.W.kIn_of Y) ?F ?S ?C
 case F=>
  intro w mg fa h KX G hmg;have T:∃t,My.Txt (L2.KOf KX) t:=by
   dsimp only[L2.KOf] -- K must stand as «<heap const> w.params» for k_is
   refine' My.txt_mk ?e1 ?e2 ?e3 ..
   (case e1=>PySem.W.k_is) -- in the order:a name->its address->its object->its parts
   (case e2=>PySem.W.k_is)
   ..
  obtain⟨t,T⟩:=T;have e0:=hmg.symm.trans (Yy KX G T.law);cases e0 -- fa is the law's own address
  exact⟨_,λs u=>.of_eq rfl,λbase kb nb=>My.law_fn T kb nb⟩ -- if «.of_eq rfl» comes too early:refine' ⟨_,?b,λbase kb nb=>My.law_fn T kb nb⟩;exact λs u=>.of_eq rfl
 case S=>exact λw H a ns hl hO hS=>..
 case C=>exact ..
(the tactic k_is has no namespace:write k_is) -/
namespace L2
open PySem PySem.Spec PyProof.Rows
noncomputable def YS(s:Stmt)(j:Nat):Stmt:=match s with
 |.ClassDef _ _ _ body _ _ _ _ _ _ _=>body.getD j (.Pass ⟨0,0,0,0⟩)
 |_=>.Pass ⟨0,0,0,0⟩
noncomputable def UC(s:Stmt):Arguments:=match s with
 |.FunctionDef _ a _ _ _ _ _ _ _ _=>a
 |_=>{posonlyargs:=[],args:=[],vararg:=none,kwonlyargs:=[],kw_defaults:=[],kwarg:=none,defaults:=[]}
noncomputable def Xi(s:Stmt):List Stmt:=match s with
 |.FunctionDef _ _ b _ _ _ _ _ _ _=>b
 |_=>[]
noncomputable def X5(s:Stmt):Scope:=match s with
 |.FunctionDef _ _ _ _ _ _ sc _ _ _=>sc
 |_=>{kind:=.function,names:=[],isGenerator:=false,isCoroutine:=false}
noncomputable abbrev CX0:CXT:=λ_ _ _ _ _ _=>False
noncomputable abbrev E0:XK:=λ_ _ _=>False
theorem CS{X:Cx}:V3 CX0 X E0:=λ_ _ _ _ _ _ _ h=>h.elim
structure Fun (K:X4)(x qual:Str)(st:Stmt)(f:Addr)(fd:Xd):Prop where
 ex:∃(oc:X0) (od:Option Addr) (kV doc pm:X0) (an:Option Addr) (cdv ct:X0) (osl:Array (Option X0)),
  fd=ZG x qual (UC st) (Xi st) (X5 st) .none kV doc pm an cdv ct/\K.lookup f=some ⟨oc,od,.func fd,osl⟩/\C9 K cdv qual=true
 kp:YQ K (.ref f)=true
section
variable{P:Xw}{w:Xn}{K:X4}{mg:Str->Option X0}{base:Heap}
theorem Fun.ok{st:Stmt}{k:Nat}(F:Fun K x qual st f fd)(S:FnScope N ps (X5 st))(len:∀vs H Q E,sp vs H Q E->vs.length=ps.length)
  (u:∀(l:X0)(A:Xz)(j:List Env)(s:X2)(H:Hp)(vs:List V)(Q:VK)(E:XK),Room k (A.deeper (envOfC qual (X5 st) s.heap.objs.size f l))->sp vs H Q E->
   ∃t,PSs (cxOf CX0 P w K mg base N qual (X5 st) f l A j s H E).nox (Xi st) t/\t {nx:=λ_ m=>Q .non m,rt:=Q} (ZJ N vs) H):FnOk P w K mg base CX0 (k+1) f fd ps sp:=by
 obtain⟨p,e,kV,g,L,O,l,R,d,rfl,c,y⟩:=F.ex;refine _sJ c y S len λA j s H vs Q E r z=>?_;obtain⟨t,h,q⟩:=u l A j s H vs Q E r z;exact⟨t,h.nox,q⟩
theorem Fun.binds{st:Stmt}(F:Fun K x qual st f fd)
  (h:∀(kV j u:X0)(y:Option Addr)(l z:X0)(us:List X0),us.length=ps.length->bindArgs (ZG x qual (UC st) (Xi st) (X5 st) .none kV j u y l z) ⟨us,[]⟩=pure (ps.zip us)):Binds K fd ps []:=by
 obtain⟨d,c,kV,j,u,y,l,z,m,rfl,q,g⟩:=F.ex;exact .all (h kV j u y l z)
theorem fun_mk{st:Stmt}{kV:X0}(l:K.lookup f=some ⟨oc,od,.func (ZG x qual (UC st) (Xi st) (X5 st) .none kV doc pm an cdv ct),osl⟩)
  (c:C9 K cdv qual=true)(k:YQ K (.ref f)=true):Fun K x qual st f (ZG x qual (UC st) (Xi st) (X5 st) .none kV doc pm an cdv ct):=⟨⟨oc,od,kV,doc,pm,an,cdv,ct,osl,rfl,l,c⟩,k⟩
end
section
variable{X:Cx}
theorem pv(i:Nat)(l:X.N[i]?=some x:=by rfl)(u:Vis X.env.scope x:=by first|exact Or.inl rfl|exact Or.inr (Or.inl rfl)|exact Or.inr (Or.inr rfl))(w:(x==("__debug__":Str))=false:=by decide)
  (j:(x==("__classdict__":Str))=false:=by decide):PE X (.Name x pos) (tVar i):=Iz l u w j
theorem _kl:YC X (.builtin "len") (fun xs H Q=>∃a j,xs=[V.ref a]/\H a=some (.dK j)/\Q (.int j.length) H):=by
 intro z s m H xs g Q I r h;obtain⟨a,j,rfl,l,q⟩:=h;obtain⟨u,rfl,w⟩:=_r r;cases w;exact _t4 I (.inl l) λt d y=>⟨.int j.length,H,y,⟨t,rfl⟩,q⟩
end
section
variable{κ:Type} [DecidableEq κ]
theorem Jl:∀{l:List κ} {k:κ},l.Nodup->¬k∈l->(l++[k]).Nodup
 |[],k,_,_=>by simp
 |a::r,k,h,hk=>by
  obtain⟨j,u⟩:=YI.mp h;show(a::(r++[k])).Nodup;refine YI.mpr ⟨λm=>?_,Jl u λm=>hk (Xl.mpr (Or.inr m))⟩;rcases Yt.mp m with q|q
  .exact j q
  .exact hk (Xl.mpr (Or.inl (Y1.mp q).symm))
end
section
variable{X:Cx}
noncomputable def WL(i j:Int):Prop:=0<j/\j<2^256
theorem _hV(h:WL i j):j.natAbs.log2<9000:=by
 have u:(0:Int)<j:=h.1;have w:j<2^256:=h.2;have l:j.natAbs≠0:=by lia
 have:j.natAbs<2^256:=by lia
 have:=(Nat.log2_lt l).mpr this;lia
theorem _lm:OpR X (Yk .FloorDiv) (rI WL λi j=>.int (i/j)):=opI λi j _ _ _ _ _ l q=>by
 have u:(0:Int)<j:=l.1;exact floordiv_int (by lia) (by rw[Int.fdiv_eq_ediv_of_nonneg i (by lia)];exact q) (.inl (PyProof.noPylong_of_log2 (_hV l)))
theorem _gC:YC X (.builtin "isinstance") (fun xs H Q=>∃x c t b,xs=[x,.ty c]/\TyOf X.K H x t/\UU X.K t (.type c)=some b/\Q (.bl b) H):=by
 intro y s z H xs m Q I r h;obtain⟨x,c,t,b,rfl,ty,e,q⟩:=h;obtain⟨u,g,rfl,l,j⟩:=VP r;cases j;exact _jr I l ty e λw=>⟨.bl b,H,I.tok w,rfl,q⟩
end
section
variable{X:Cx}{pq:List (Addr×Obj)}{σ:St}{H:Hp}{s:X2}
end
section
variable{X:Cx}
end
end L2
namespace L2
end L2
namespace L2
open PySem PySem.Spec PyProof.Rows
noncomputable def clOf(j:List (Str×Addr)):List (Str×Z8)->List (Str×Addr)->List (Str×Addr)
 |[],acc=>acc
 |(n,k)::r,acc=>if k=.free then(match j.lookup n with|some a=>clOf j r ((n,a)::acc)|none=>clOf j r acc)else clOf j r acc
theorem WM(j:List (Str×Addr)):∀(u:List (Str×Z8))(l:List (Str×Addr))(x:Str)(c:Addr),(clOf j u l).lookup x=some c->l.lookup x=some c\/j.lookup x=some c
 |[],l,x,c,h=>.inl h
 |(n,k)::r,l,x,c,h=>by
  unfold clOf at h;by_cases hk:k=.free
  .rw[if_pos hk]at h;cases w:j.lookup n with
   |none=>rw[w]at h;exact WM j r l x c h
   |some a=>
    rw[w]at h;rcases WM j r _ x c h with q|q
    .by_cases hx:x=n
     .subst hx;simp at q;subst q;exact .inr w
     .have y:(x==n)=false:=beq_eq_false_iff_ne.mpr hx;simp only[Zl,y]at q;exact .inl q
    .exact .inr q
  .rw[if_neg hk]at h;exact WM j r l x c h
theorem CT(j:List (Str×Addr)):∀(u:List (Str×Z8))(l:List (Str×Addr))(x:Str)(c:Addr),j.lookup x=some c->l.lookup x=some c->(clOf j u l).lookup x=some c
 |[],l,x,c,_,h=>h
 |(n,k)::r,l,x,c,h,ha=>by
  unfold clOf;by_cases hk:k=.free
  .rw[if_pos hk];cases w:j.lookup n with
   |none=>exact CT j r l x c h ha
   |some a=>
    refine CT j r _ x c h ?_;by_cases hx:x=n
    .subst hx;rw[h]at w;cases w;simp
    .have y:(x==n)=false:=beq_eq_false_iff_ne.mpr hx;simp only[Zl,y];exact ha
  .rw[if_neg hk];exact CT j r l x c h ha
theorem WN(j:List (Str×Addr)):∀(l:List (Str×Z8))(u:List (Str×Addr))(x:Str)(c:Addr),(x,Yo)∈l->j.lookup x=some c->(clOf j l u).lookup x=some c
 |[],u,x,c,h,_=>by cases h
 |(n,k)::r,u,x,c,h,ha=>by
  unfold clOf;rcases Xl.mp h with e|h
  .cases e;rw[if_pos rfl,ha];exact CT j r _ _ c ha (by simp)
  .by_cases hk:k=.free
   .rw[if_pos hk];cases w:j.lookup n with
    |none=>exact WN j r u x c h ha
    |some a=>exact WN j r _ x c h ha
   .rw[if_neg hk];exact WN j r u x c h ha
theorem ED(f:Str×Z8->List (Str×Addr)->Sem (ForInStep (List (Str×Addr))))
  (w:∀n k r,f (n,k) r=if(k==Yo)=true then(cellOf env n >>= λa=>pure (CG ((n,a)::r)))else pure (CG r)):
  ∀(j:List (Str×Z8))(l:List (Str×Addr)),(∀y∈j,y.2=.free->∃c,env.cells.lookup y.1=some c)->(forIn j l f:Sem (List (Str×Addr)))=pure (clOf env.cells j l)
 |[],l,_=>by rw[List.forIn_nil];rfl
 |(n,k)::r,l,h=>by
  rw[List.forIn_cons,w];have z:∀y∈r,y.2=.free->∃c,env.cells.lookup y.1=some c:=λy m=>h y (XS _ m);by_cases hk:k=.free
  .subst hk;obtain⟨c,g⟩:=h (n,.free) Yb rfl;have u:env.cells.lookup n=some c:=g;have e:cellOf env n=pure c:=by unfold cellOf;rw[u]
   rw[if_pos (by decide),e,pure_bind,pure_bind]
   show forIn r ((n,c)::l) f=_;rw[ED f w r _ z];simp only[clOf,if_pos,u]
  .have d:(k==Yo)=false:=by simpa using hk
   rw[d,if_neg XG,pure_bind];show forIn r l f=_;rw[ED f w r _ z];simp only[clOf,if_neg hk]
theorem Jn(h:∀y∈scope.names,y.2=.free->∃c,env.cells.lookup y.1=some c):closureFor scope env=pure (clOf env.cells scope.names []):=by
 unfold closureFor;simp only[bind_pure];exact ED _ (λn k r=>by
  by_cases hk:(k==Yo)=true
  .simp only[hk,if_true]
  .simp only[hk,if_false]) scope.names [] h
noncomputable def VS(j scope:Scope)(N own:List Str)(fr:List Nat):Bool:=
 decide (scope.kind=.function)&&scope.names.all (λy=>decide (y.2≠.cell))&&scope.names.all (λy=>decide (y.2=.local->scope.names.lookup y.1=some .local))&&
 scope.names.all (λy=>decide (y.2=.free->j.names.lookup y.1=some .cell\/j.names.lookup y.1=some .free))&&
 fr.all (λi=>match N[i]? with|some x=>decide ((x,Yo)∈scope.names/\scope.names.lookup x=some .free/\(j.names.lookup x=some .cell\/j.names.lookup x=some .free))|none=>false)
structure CompOk (osc scope:Scope)(N:List Str)(fr:List Nat):Prop where
 kind:scope.kind=.function
 nocell:∀y∈scope.names,y.2≠.cell
 names:∀y∈scope.names,y.2=.local->scope.names.lookup y.1=some .local
 has:∀y∈scope.names,y.2=.free->osc.names.lookup y.1=some .cell\/osc.names.lookup y.1=some .free
 frees:∀i∈fr,∃x,N[i]?=some x/\(x,Yo)∈scope.names/\scope.names.lookup x=some .free/\(osc.names.lookup x=some .cell\/osc.names.lookup x=some .free)
theorem VT{j scope:Scope}{N own:List Str}{fr:List Nat}(h:VS j scope N own fr=true):CompOk j scope N fr:=by
 unfold VS at h;simp only[XY,US,decide_eq_true_eq]at h;obtain⟨⟨⟨⟨l,u⟩,w⟩,y⟩,z⟩:=h;refine⟨l,u,w,y,λi m=>?_⟩;have q:=z i m;cases e:N[i]? with
 |none=>rw[e]at q;simp at q
 |some x=>rw[e]at q;simp only[decide_eq_true_eq]at q;exact⟨x,rfl,q⟩
noncomputable def sC(own:List Str)(fr:List Nat)(j:St):St:=own.map (λ_=>none)++fr.map (λi=>j.getD i none)
noncomputable def nC(own:List Str)(fr:List Nat)(N:List Str):List Str:=own++fr.map (λi=>N.getD i U4)
def cxC(X:Cx)(scope:Scope)(own:List Str)(fr:List Nat)(C:Addr)(u:List Addr)(j:X2)(l:Hp):Cx:=
 {X with N:=nC own fr X.N,s₀:=j,H₀:=l,env:=compEnvC scope (clOf X.env.cells scope.names []) C X.env,outer:=X.stack,ex:=u,fn:=λ_=>false,xe:=λ_ _=>False}
noncomputable def Keep(l j:St):Prop:=l.length=j.length/\∀(i:Nat)(v:V),l[i]?=some (some v)->j[i]?=some (some v)
noncomputable def tAll:TT:=λ_ H Q=>Q true H
def PTs(X:Cx)(j:List Expr)(t:TT):Prop:=(j=[]/\t=tAll)\/∃c,j=[c]/\PT X c t
section
variable{prog:Xw}{w:Xn}{A:Xz}{R:Result->X2->Prop}{s:X2}
theorem _fp(I:Nat->X2->Prop)
  (turn:∀n s,I n s->X3 (X6 prog w) A (pyNext it) (λr j=>match r with
   |none=>R (.ok .next) j
   |some v=>X3 (X6 prog w) A (BL target it v) (λ_ l=>X3 (X6 prog w) A (assign target env v) (λ_ z=>
     X3 (X6 prog w) A (forIn ifs true λc r=>if r=true then do let ok<- isTrue c env (eval c env);pure (CG ok)else pure (CG r)) (λok u=>
      if ok=true then X3 (X6 prog w) A (eval elt env) (λx g=>
       X3 (X6 prog w) A (call (.builtin "list.append") [acc,x]) (fun _ d=>∃m,m<n/\I m d) (fun _ _=>False) g) (fun _ _=>False) u
      else∃m,m<n/\I m u) (λ_ _=>False) z) (λ_ _=>False) l) (λ_ _=>False) j) (λ_ _=>False) s)
  (n:Nat)(h:I n s):
  YW (X6 prog w) A (.compLoop (.ListComp elt [⟨target,iter,ifs,0⟩] scope pos) 0 it acc env) R s:=by
 refine codeAny_loop rfl I (λn s O=>?_) n h;show X3 _ A ((compTurn (.ListComp elt [⟨target,iter,ifs,0⟩] scope pos) 0 it acc env).onRaise (λx=>do noteFrame x env;theTreesLotGoes x)) _ _ s
 refine wpAny_noted ?_;rw[compTurn_list];refine X1 (wpAny_standAt (X1 (Zx (turn n s O) (λr j f=>?_) λ_ _ y=>y.elim)));cases r with
 |none=>exact X9 f
 |some v=>
  refine X1 (Zx f (λ_ l p=>?_) λ_ _ y=>y.elim);refine X1 (Zx p (λ_ z e=>X1 (Zx e (λok u q=>?_) λ_ _ y=>y.elim)) λ_ _ y=>y.elim);cases ok with
  |false=>exact X9 ⟨rfl,q⟩
  |true=>
   exact X1 (X1 (Zx q (λx g L=>X1 (Zx L (λ_ d N=>X9 (X9 ⟨rfl,N⟩)) λ_ _ y=>y.elim)) λ_ _ y=>y.elim))
end
theorem _rj(h:Q true H):tAll σ H Q:=h
section
variable{X:Cx}{pq:List (Addr×Obj)}{σ:St}{H1:Hp}{s2:X2}{tg elt iter:Expr}{ifs:List Expr}{scope:Scope}{pos:Pos}{own:List Str}{fr:List Nat}{g:TG}{tt:TT}{te:TE}
theorem Jo{scope:Scope}{env:Env}{x:Str}:∀{j:List (Str×Z8)},j.lookup x=some .free->
  (j.map fun(n,k)=>if(k==Yo&&env.scope.kind==.function&&env.kindOf n==some .cell)then(n,VH)else(n,k)).lookup x=some .cell\/
  (j.map fun(n,k)=>if(k==Yo&&env.scope.kind==.function&&env.kindOf n==some .cell)then(n,VH)else(n,k)).lookup x=some .free
 |[],h=>by simp at h
 |(n,k)::r,h=>by
  have u:=@Jo scope env x r;show U0 x ((if(k==Yo&&env.scope.kind==.function&&env.kindOf n==some .cell)=true then(n,VH)else(n,k))::_)=_\/U0 x ((if(k==Yo&&env.scope.kind==.function&&env.kindOf n==some .cell)=true then(n,VH)else(n,k))::_)=_;cases l:x==n with
  |true=>
   simp only[Zl,l]at h;cases h;by_cases hc:(Yo==Yo&&env.scope.kind==.function&&env.kindOf n==some .cell)=true
   .rw[if_pos hc];simp only[Zl,l];exact .inl trivial
   .rw[if_neg hc];simp only[Zl,l];exact .inr trivial
  |false=>
   simp only[Zl,l]at h;by_cases hc:(k==Yo&&env.scope.kind==.function&&env.kindOf n==some .cell)=true
   .rw[if_pos hc];simp only[Zl,l];exact u h
   .rw[if_neg hc];simp only[Zl,l];exact u h
theorem Jp{scope:Scope}{env:Env}(w:∀y∈scope.names,y.2≠.cell){x:Str}:∀{j:List (Str×Z8)},(∀y∈j,y.2≠.cell)->
  ((j.map fun(n,k)=>if(k==Yo&&env.scope.kind==.function&&env.kindOf n==some .cell)then(n,VH)else(n,k)).lookup x=some .cell\/
  (j.map fun(n,k)=>if(k==Yo&&env.scope.kind==.function&&env.kindOf n==some .cell)then(n,VH)else(n,k)).lookup x=some .free)->(x,Yo)∈j
 |[],_,h=>by simp at h
 |(n,k)::r,hnc,h=>by
  have u:=@Jp scope env w x r (λy z=>hnc y (XS _ z));have m:k≠.cell:=hnc (n,k) Yb;simp only[Xx]at h;cases l:x==n with
  |true=>
   have e:x=n:=eq_of_beq l;subst e;by_cases hc:(k==Yo&&env.scope.kind==.function&&env.kindOf x==some .cell)=true
   .have:k=.free:=by
     simp only[XY,beq_iff_eq]at hc;exact hc.1.1
    subst this;exact Yb
   .rw[if_neg hc]at h;simp at h;rcases h with h|h
    .exact absurd h m
    .subst h;exact Yb
  |false=>
   by_cases hc:(k==Yo&&env.scope.kind==.function&&env.kindOf n==some .cell)=true
   .rw[if_pos hc]at h;simp only[Zl,l]at h;exact XS _ (u h)
   .rw[if_neg hc]at h;simp only[Zl,l]at h;exact XS _ (u h)
theorem _ia(ok:CompOk X.env.scope scope X.N fr)(f:Inv X pq σ H3 s3)(R:C=s3.heap.objs.size)(T:∀b∈fp,FpOk X pq H3 b)(W:∀b∈fp,∃o,s3.heap.get? b=some o)
  (F:h4.Ns C m)(O:∀b o,s3.heap.get? b=some o->h4.get? b=some o):
  Inv (cxC X scope own fr C fp s3 H3) pq (sC own fr σ) H3 {s3 with heap:=h4,toks:=tk}:=by
 have l:∀x c,(clOf X.env.cells scope.names []).lookup x=some c->X.env.cells.lookup x=some c:=λx c h=>(WM _ _ _ _ _ h).elim (λz=>by simp at z) id
 have Y:∀x c,X.env.cells.lookup x=some c->c<s3.heap.objs.size:=λx c e=>let⟨v,q⟩:=f.cell x c e;q.lt
 have P:∀b∈fp,b<s3.heap.objs.size:=λb L=>let⟨o,e⟩:=W b L;Xv e
 have r:∀x,(X.env.scope.names.lookup x=some .cell\/X.env.scope.names.lookup x=some .free)->∃c,X.env.cells.lookup x=some c:=λx h=>f.ok.has x h;refine⟨⟨f.ok.mod,ok.kind,f.ok.glob,f.ok.blt,Wr R.symm,λx y c G I=>f.ok.inj x y c (l x c G) (l y c I),λx J=>?_,λx c z=>?_,f.ok.hd,f.ok.frames,.inl rfl,λb L=>⟨?_,λx c e=>?_⟩,λb o e=>f.bs b o e,Y4 f.ok.bsz f.sz,λb o e L=>?_,λb L M=>?_,f.stack,λb L=>f.stkFree b L⟩,
  rfl,f.bare,Un.kept O,⟨m,F,λi x v Q S e3=>?_⟩,λx c e=>?_,?_,λx c e=>f.freeC x c (l x c e),λp H=>?_,f.hok.kept O,?_⟩
 . -- has
  have U:(x,Yo)∈scope.names:=Jp (scope:=scope) (env:=X.env) ok.nocell ok.nocell J;obtain⟨c,Z⟩:=r x (ok.has _ U rfl);exact⟨c,WN _ _ _ _ _ U Z⟩
 .exact absurd z XG
 .exact XB (by rw[R];exact P b L)
 .exact(T b L).2.2.2.2.1 x c (l x c e)
 .rcases(T b L).2.2.2.1 with z|z
  .exact f.ok.noex b o e z
  .exact absurd (Yz (Xv e) (Y4 f.ok.bsz z)) (Uv _)
 .rcases Xl.mp (f.stkSub b M)with z|z
  .exact(T b L).2.1 z
  .exact(T b L).2.2.1 z
 . -- a free name's value
  have w:(own.map (λ_=>(none:Option V))++fr.map (λi=>σ.getD i none))[i]?=some (some v):=S;have N:(own++fr.map (λi=>X.N.getD i U4))[i]?=some x:=Q;by_cases hi:i<own.length
  .rw[ZC (by simpa using hi),Xr]at w
   cases q:own[i]? with
   |none=>rw[q]at w;cases w
   |some z=>rw[q]at w;cases w
  .rw[Zh (by simpa using hi)]at w
   rw[Zh (by simpa using hi)]at N
   simp only[Xb]at w;rw[Xr]at N w;cases q:fr[i - own.length]? with
   |none=>rw[q]at w;cases w
   |some j=>
    rw[q]at N w;obtain⟨y,E,U,s,A⟩:=ok.frees j (Xu q);have a:x=y:=by
     have:X.N.getD j U4=y:=by rw[Ya,E];rfl
     simp only[CF,this,Cp]at N;exact N.symm
    subst a;have ev:σ[j]?=some (some v):=by
     simp only[CF,Cp]at w;rw[Ya]at w;cases z:σ[j]? with
     |none=>rw[z]at w;cases w
     |some o=>rw[z]at w;cases w;rfl
    obtain⟨m0,hn0,B⟩:=f.loc;obtain⟨u,ru,lk⟩:=B j x v E ev (.inr A);refine⟨u,ru,.inr ⟨Jo (scope:=scope) s,?_⟩⟩;rcases lk with⟨k1,_⟩|⟨_,c,Z,z⟩
    .have D:X.env.scope.names.lookup x=some .local:=k1;rw[D]at A;rcases A with z|z<;>cases z
    .exact⟨c,WN _ _ _ _ _ U Z,z.keeps O⟩
 .obtain⟨v,z⟩:=f.cell x c (l x c e);exact⟨v,z.keeps O⟩
 .show H3 C=none;exact f.hok.fresh (Wr R.symm)
 .obtain⟨e,n,ne,nf,d⟩:=f.pin p H;refine⟨O _ _ e,n,XB (by rw[R];exact Xv e),λz=>?_,d⟩
  rcases Xl.mp (f.stkSub p.1 z)with z|z
  .exact ne z
  .exact nf z
 .show(own.map (λ_=>(none:Option V))++fr.map (λi=>σ.getD i none)).length=(own++fr.map (λi=>X.N.getD i U4)).length;simp
end
section
variable{X:Cx}
end
theorem CU(j:List Int):(Xs j.length).map (λi=>j.getD i 0)=j:=by
 apply C1
 .simp
 .intro i u l;simp[l]
section
variable{X:Cx}
theorem _g6(j:z.length<=16)(y:-1000<=i)(h1:i<=1000):MulOk z i:=by
 refine⟨?_,λl _=>?_,λl _=>?_⟩
 .rw[decide_eq_false (by lia),decide_eq_false (by lia)];rfl
 .have m:1<=i:=by lia
  have:(16:Int)<=(2^63 - 1)/i:=by
   rw[Int.le_ediv_iff_mul_le (by lia)]
   lia
  lia
 .have:z.length*i.toNat<=16*1000:=Nat.mul_le_mul j (by lia)
  have u:z.length*i.toNat<2^20:=by lia
  generalize z.length*i.toNat=n at u;revert n;intro n g;have w:sizeLine=16777216:=by decide
  show decide (n>sizeLine)=false;rw[w];exact decide_eq_false (by lia)
theorem _nT:OpR X (Yk .Mult) (λx y H Q=>∃z i,x=.str z/\y=.int i/\z.length<=16/\ -1000<=i/\i<=1000/\Q (.str (Txt.mul z i)) H):=by
 intro c s f H x y v u Q I j l h;obtain⟨z,i,rfl,rfl,w,m,g,q⟩:=h;obtain⟨t,rfl⟩:=j;obtain⟨d,rfl⟩:=l;exact SB.mul (_g6 w m g) (λd k=>⟨.str (Txt.mul z i),H,I.tok _,⟨_,rfl⟩,q⟩)
theorem Jq(x:Array Nat):∀(k:Nat)(j:Array Nat),((Xj k x).foldl (·++·) j).size=j.size+k*x.size
 |0,j=>by simp
 |k+1,j=>by
  rw[Za,Vv,Jq x k,Array.size_append,Nat.succ_mul];lia
theorem _o8(z:Str)(i:Int):(Txt.mul z i).length=i.toNat*z.length:=by
 unfold Txt.mul;by_cases h:i<1
 .rw[if_pos h];have:i.toNat=0:=by lia
  rw[this,Nat.zero_mul]
  rfl
 rw[if_neg h];by_cases h2:(i==1||z.length==0)=true
 .rw[if_pos h2];rcases(Ea _ _).mp h2 with e|e
  .have:i=1:=by simpa using e
   subst this;simp
  .have:z.length=0:=by simpa using e
   rw[this,Nat.mul_zero]
 .rw[if_neg h2];have e:=Jq z.cps i.toNat #[];show((Xj i.toNat z.cps).foldl (·++·) #[]).size=_;rw[e];show 0+_=_;rw[Nat.zero_add]
  rfl
theorem CV{z:Str}{i:Int}(m:Nat)(h:i<=m)(j:z.length<=1):(Txt.mul z i).length<=m:=by
 rw[_o8];have:i.toNat*z.length<=i.toNat*1:=Nat.mul_le_mul_left _ j;lia
theorem _ln(g:X.A.units<cLine):OpR X (XZ .Eq) (λx y H Q=>∃a b xs,x=.ref a/\y=.ref b/\SqL X.K H a xs/\SqL X.K H b []/\Q (.bl xs.isEmpty) H):=by
 intro U s W H x y v u Q I p L h;obtain⟨a,b,xs,rfl,rfl,N,O,q⟩:=h;cases p;cases L;obtain⟨l,d,c,Y⟩:=I.list N;obtain⟨z,m,w,_⟩:=I.list O;have P:z=[]:=BU m.length.symm;subst P;cases xs with
 |nil=>
  have R:l=[]:=BU d.length.symm;subst R;exact SeqAt.eq_listAt (e:=λ_=>true) c.isList w.isList rfl g (λj T _=>absurd T (VB j)) (XH I q rfl)
 |cons x r=>
  have f:l.length=r.length+1:=by rw[<-d.length];rfl
  exact SeqAt.eq_list_lengthsAt c.isList w.isList (by simp;intro e;rw[e]at f;simp at f) g (XH I q rfl)
theorem _ll(g:X.A.units<cLine):OpR X (XZ .NotEq) (λx y H Q=>∃a b xs,x=.ref a/\y=.ref b/\SqL X.K H a xs/\SqL X.K H b []/\Q (.bl (!xs.isEmpty)) H):=by
 intro U s W H x y v u Q I p L h;obtain⟨a,b,xs,rfl,rfl,N,O,q⟩:=h;cases p;cases L;obtain⟨l,d,c,Y⟩:=I.list N;obtain⟨z,m,w,_⟩:=I.list O;have P:z=[]:=BU m.length.symm;subst P;cases xs with
 |nil=>
  have R:l=[]:=BU d.length.symm;subst R;exact SeqAt.RcNeAt.lists (e:=λ_=>true) c.isList w.isList rfl g (λj T _=>absurd T (VB j)) X.prog X.w _ _ (XH I q rfl)
 |cons x r=>
  have f:l.length=r.length+1:=by rw[<-d.length];rfl
  exact SeqAt.RcNeAt.lists_lengths c.isList w.isList (by simp;intro e;rw[e]at f;simp at f) g X.prog X.w _ _ (XH I q rfl)
end
open AutoSeq1 (wpAny_loadPart')
open MeetsSeq MeetsSeq2 MeetsSeq3 SeqRoads2
noncomputable def AliP(P:Xw)(w:Xn)(A:Xz)(s:X2)(y x:X0):Prop:=∀(E:X0->X2->Prop)(Q:Bool->X2->Prop),Q true s->X3 (X6 P w) A (eqBool y x) Q E s
noncomputable def RcP(P:Xw)(w:Xn)(A:Xz)(s:X2)(y x:X0):Prop:=∀(E Q:X0->X2->Prop),Q (.bool true) s->X3 (X6 P w) A (richCompare .Eq y x) Q E s
noncomputable def RnP(P:Xw)(w:Xn)(A:Xz)(s:X2)(y x:X0):Prop:=∀(E Q:X0->X2->Prop),Q (.bool false) s->X3 (X6 P w) A (richCompare .NotEq y x) Q E s
section
variable{P:Xw}{w:Xn}{A:Xz}{s:X2}{a b:Addr}{xs ys:Array X0}
theorem AliP.of_at(h:CJ A s y x true):AliP P w A s y x:=λE Q q=>h P w E Q q
theorem AliP.refs(h:RcP P w A s (.ref a) (.ref b)):AliP P w A s (.ref a) (.ref b):=by
 intro E Q q;by_cases e:a=b
 .subst e;exact SeqAt.EqAt.same _ P w E Q q
 .unfold eqBool;refine YN (wpAny_ite_split (λz=>absurd (by injection (eq_of_beq z)) e) λ_=>?_)
  exact X1 (h E _ (Zy q))
theorem _pF(T:s.heap.IsTuple a xs)(U:s.heap.IsTuple b ys)(W:xs.size=ys.size)(Y:A.units<cLine)(Z:∀p∈xs.toList.zip ys.toList,AliP P w A.in1 s p.1 p.2):RcP P w A s (.ref a) (.ref b):=by
 intro E Q q;obtain⟨⟨D,G,I,J⟩,j,g,M,d⟩:=id T;obtain⟨⟨S,X,H,v⟩,c,f,o,e⟩:=id U;dsimp only at g d f e;subst g d f e;refine Vk (op:=.Eq) ⟨_,j,rfl⟩ ⟨_,c,rfl⟩ F.slot_tuple_eq (Zf F.slot_tuple_eq ⟨_,j,rfl⟩ F.entry_tuple_eq ?_ (F.args_tuple_eq_2 _ _)) Y;obtain⟨L,N,O,R,os⟩:=s;have i:=HQ
 wp_walk using Yh j,Yh c,wpAny_forIn_list _ (λrest r l=>r.1=none/\l=⟨L,N,O,R,os⟩/\∀p∈rest,AliP P w A.in1 ⟨L,N,O,R,os⟩ p.1 p.2) _
 case turn=>
  rintro⟨y,x⟩ rest r l ⟨u,rfl,m⟩;refine X1 (m (y,x) Yb _ _ ?_)
  wp_walk
  exact⟨rfl,rfl,λp B=>m p (XS _ B)⟩
 case fin=>
  rintro⟨n,r2⟩ l ⟨u,rfl,-⟩;dsimp only at u;subst u
  wp_walk
  have C:Cr .Eq xs.size ys.size=.bool true:=by simp[Cr,W]
  rw[C];exact⟨_,rfl,(λz=>nomatch z),q⟩
 case h=>exact⟨rfl,rfl,Z⟩
theorem _lR(z:xs.size=ys.size)
  (u:s.heap.get? a=some {cls:=.type "list",dict:=d1,data:=.seq xs n1,slots:=l1})(y:s.heap.get? b=some {cls:=.type "list",dict:=d2,data:=.seq ys n2,slots:=l2})
  (m:∀j (h1:j<xs.size)(h2:j<ys.size),AliP P w A.in1 s xs[j] ys[j])(q:R (.ok (.ret (.bool true))) s):∀k i:Nat,xs.size - i=k->
  X3 (X6 P w) A.in1 (Builtin.«list.__eq__.loop» ⟨[.ref a,.ref b,Y6 i,Y6 2],[]⟩) (λfin l=>match fin with|.done f=>R (.ok f) l|.again c'=>c'.quiet=true/\YW (X6 P w) A c' R l) (λe l=>R (.error e) l) s:=by
 obtain⟨c,r,p,L,os⟩:=s;intro k
 induction k with
 |zero=>
  intro i g
  wp_walk using Yh u,Yh y
  rw[show xs[((i:Nat):Int).toNat]?=none by simp;lia,show ys[((i:Nat):Int).toNat]?=none by simp;lia]
  wp_walk using Yh u,Yh y
  show R (.ok (.ret (.bool (xs.size==ys.size)))) _
  simpa [z]using q
 |succ k d=>
  intro i g;have h1:i<xs.size:=by lia
  have h2:i<ys.size:=by lia
  wp_walk using Yh u,Yh y
  rw[show xs[((i:Nat):Int).toNat]?=some xs[i] by simp[h1],show ys[((i:Nat):Int).toNat]?=some ys[i] by simp[h2]]
  refine X1 (m i h1 h2 _ _ ?_)
  wp_walk
  rw[show((i:Int)+1)=((i+1:Nat):Int) by push_cast;rfl]
  refine⟨Zg plain_eq_loop _,Z9 entry_eq_loop ?_⟩;rw[Zq plain_eq_loop _];exact d (i+1) (by lia)
theorem _pG(r:s.heap.IsList a xs)(p:s.heap.IsList b ys)(m:xs.size=ys.size)(e:A.units<cLine)(L:∀j (h1:j<xs.size)(h2:j<ys.size),AliP P w A.in1 s xs[j] ys[j]):RcP P w A s (.ref a) (.ref b):=by
 intro E Q q;obtain⟨⟨O,T,l,U⟩,u,g,W,d⟩:=id r;obtain⟨⟨Y,Z,B,C⟩,y,c,D,f⟩:=id p;dsimp only at g d c f;subst g d c f;have l:s.TypeIs (.ref a) "list":=⟨_,u,rfl⟩;refine Vk (op:=.Eq) l ⟨_,y,rfl⟩ Eh (wpAny_call (Wg Eh.plain F.entry_list_eq (Eh.check _ _ _ _ _ _ _ _ l (F.args_list_eq_2 _ _) ?_))) e;obtain⟨G,I,J,M,os⟩:=s;have S:=HR;have X:¬(xs.size != ys.size)=true:=by simp[m]
 wp_walk using Yh u,Yh y
 refine⟨Zg plain_eq_loop _,Z9 entry_eq_loop ?_⟩;rw[Zq plain_eq_loop _];exact _lR (R:=wants (λv N=>v≠.notImplemented/\Q v N) E) m u y L (show Yc true≠.notImplemented/\Q (.bool true) _ from⟨(λz=>nomatch z),q⟩) _ 0 rfl
theorem _o4(T:s.heap.IsTuple a xs)(U:s.heap.IsTuple b ys)(W:xs.size=ys.size)(Y:A.units<cLine)(Z:∀p∈xs.toList.zip ys.toList,AliP P w A.in1 s p.1 p.2):RnP P w A s (.ref a) (.ref b):=by
 intro E Q q;obtain⟨⟨D,G,I,J⟩,j,g,M,d⟩:=id T;obtain⟨⟨S,X,H,v⟩,c,f,o,e⟩:=id U;dsimp only at g d f e;subst g d f e;refine Vk (op:=.NotEq) ⟨_,j,rfl⟩ ⟨_,c,rfl⟩ F.slot_tuple_ne (Zf F.slot_tuple_ne ⟨_,j,rfl⟩ F.entry_tuple_ne ?_ (F.args_tuple_ne_2 _ _)) Y;obtain⟨L,N,O,R,os⟩:=s;have i:=HQ
 wp_walk using Yh j,Yh c,wpAny_forIn_list _ (λrest r l=>r.1=none/\l=⟨L,N,O,R,os⟩/\∀p∈rest,AliP P w A.in1 ⟨L,N,O,R,os⟩ p.1 p.2) _
 case turn=>
  rintro⟨y,x⟩ rest r l ⟨u,rfl,m⟩;refine X1 (m (y,x) Yb _ _ ?_)
  wp_walk
  exact⟨rfl,rfl,λp B=>m p (XS _ B)⟩
 case fin=>
  rintro⟨n,r2⟩ l ⟨u,rfl,-⟩;dsimp only at u;subst u
  wp_walk
  have C:Cr .NotEq xs.size ys.size=.bool false:=by simp[Cr,W]
  rw[C];exact⟨_,rfl,(λz=>nomatch z),q⟩
 case h=>exact⟨rfl,rfl,Z⟩
theorem _ls(z:xs.size=ys.size)
  (u:s.heap.get? a=some {cls:=.type "list",dict:=d1,data:=.seq xs n1,slots:=l1})(y:s.heap.get? b=some {cls:=.type "list",dict:=d2,data:=.seq ys n2,slots:=l2})
  (m:∀j (h1:j<xs.size)(h2:j<ys.size),AliP P w A.in1 s xs[j] ys[j])(q:R (.ok (.ret (.bool false))) s):∀k i:Nat,xs.size - i=k->
  X3 (X6 P w) A.in1 (Builtin.«list.__eq__.loop» ⟨[.ref a,.ref b,Y6 i,Y6 3],[]⟩) (λfin l=>match fin with|.done f=>R (.ok f) l|.again c'=>c'.quiet=true/\YW (X6 P w) A c' R l) (λe l=>R (.error e) l) s:=by
 obtain⟨c,r,p,L,os⟩:=s;intro k
 induction k with
 |zero=>
  intro i g
  wp_walk using Yh u,Yh y
  rw[show xs[((i:Nat):Int).toNat]?=none by simp;lia,show ys[((i:Nat):Int).toNat]?=none by simp;lia]
  wp_walk using Yh u,Yh y
  show R (.ok (.ret (.bool (xs.size != ys.size)))) _
  simpa [z]using q
 |succ k d=>
  intro i g;have h1:i<xs.size:=by lia
  have h2:i<ys.size:=by lia
  wp_walk using Yh u,Yh y
  rw[show xs[((i:Nat):Int).toNat]?=some xs[i] by simp[h1],show ys[((i:Nat):Int).toNat]?=some ys[i] by simp[h2]]
  refine X1 (m i h1 h2 _ _ ?_)
  wp_walk
  rw[show((i:Int)+1)=((i+1:Nat):Int) by push_cast;rfl]
  refine⟨Zg plain_eq_loop _,Z9 entry_eq_loop ?_⟩;rw[Zq plain_eq_loop _];exact d (i+1) (by lia)
theorem _o5(r:s.heap.IsList a xs)(p:s.heap.IsList b ys)(m:xs.size=ys.size)(e:A.units<cLine)(L:∀j (h1:j<xs.size)(h2:j<ys.size),AliP P w A.in1 s xs[j] ys[j]):RnP P w A s (.ref a) (.ref b):=by
 intro E Q q;obtain⟨⟨O,T,l,U⟩,u,g,W,d⟩:=id r;obtain⟨⟨Y,Z,B,C⟩,y,c,D,f⟩:=id p;dsimp only at g d c f;subst g d c f;have l:s.TypeIs (.ref a) "list":=⟨_,u,rfl⟩;refine Vk (op:=.NotEq) l ⟨_,y,rfl⟩ Ei (wpAny_call (Wg Ei.plain F.entry_list_ne (Ei.check _ _ _ _ _ _ _ _ l (F.args_list_ne_2 _ _) ?_))) e;obtain⟨G,I,J,M,os⟩:=s;have S:=HR;have X:¬(xs.size != ys.size)=true:=by simp[m]
 wp_walk using Yh u,Yh y
 refine⟨Zg plain_eq_loop _,Z9 entry_eq_loop ?_⟩;rw[Zq plain_eq_loop _];exact _ls (R:=wants (λv N=>v≠.notImplemented/\Q v N) E) m u y L (show Yc false≠.notImplemented/\Q (.bool false) _ from⟨(λz=>nomatch z),q⟩) _ 0 rfl
theorem Jr{K:Type} [DecidableEq K] {knd:KeyKind P w K}{nm:String}{g f:List (K×X0)}{E:X0->X2->Prop}{Q:Bool->X2->Prop}(G:(a==YM)=false)(I:(b==YM)=false)
  (J:s.heap.DictOf knd a g)(M:s.heap.DictOf knd b f)(Z:g.length=f.length)(S:∀p∈g,∃y,Z2 f p.1=some y/\AliP P w A s p.2 y)(q:Q true s):
  X3 (X6 P w) A (HW nm a b) Q E s:=by
 obtain⟨oa,d,pa,N,_,O,X,B,_⟩:=J;obtain⟨ob,c,pb,R,_,T,C,U,_⟩:=M;have za:g.length=d.size:=B.length.symm.trans Yv;have H:f.length=c.size:=U.length.symm.trans Yv;have o:∀k,findBy knd.is c k=Z2 f k:=by
  intro k;rw[<-U.find k];clear H U C T R;obtain⟨l⟩:=c;simp[findBy]
 have n:d.size=c.size:=by lia
 unfold HW Builtin.Dict.showsAll;rw[G,I];refine X1 (X9 (X1 (X9 (X1 (BP N O ?_)))));dsimp only;refine X1 (BP R T ?_);rw[if_neg (by simp[n])]
 refine X1 (wpAny_dictEpoch N O (X1 ?_));rw[Std.Legacy.Range.forIn_eq_forIn_range'];simp only[Std.Legacy.Range.size,Nat.sub_zero,Nat.add_sub_cancel,Nat.div_one];refine wpAny_forIn_list _ (λrest r W=>W=s/\r=(none,())/\∀i∈rest,i<d.size) _ ?_ ?_ _ _ ⟨rfl,rfl,λi x=>by simpa using x⟩
 .rintro i rest r W ⟨rfl,rfl,m⟩;have lt:i<d.size:=m i Yb;have lt':i<g.length:=by lia
  refine X1 (BP N O ?_);rw[UY lt];obtain⟨L,val⟩:=B.get? (i:=i) (e:=d[i]) (k:=g[i].1) (v:=g[i].2) (by rw[HJ];exact UY lt) (X7 lt')
  obtain⟨h,i',hh⟩:=X d[i] (Array.getElem_mem lt);obtain rfl:h=g[i].1:=knd.inj _ _ _ i' L;obtain⟨y,fy,D⟩:=S g[i] (XQ lt');show X3 _ _ (Z6 [d[i].key,d[i].val] _ >>= _) _ _ _;rw[hh];refine X1 (YN (X1 (wpAny_dictFind_of L R T C ?_)));have u:=fy;rw[<-o,findBy_of_findIdx?]at u;cases Y:c.findIdx? λe=>knd.is g[i].1 e.key with
  |none=>rw[Y]at u;cases u
  |some j=>
   rw[Y]at u;obtain⟨F,_,_⟩:=Array.findIdx?_eq_some_iff_getElem.mp Y;refine X1 (BP R T ?_);rw[UY F];have ey:c[j].val=y:=by simpa [UY F]using u
   rw[<-ey,<-val]at D;refine YN (D _ _ ?_);show X3 _ _ (if(!true)=true then _ else _) _ _ _;rw[if_neg (show¬(!true)=true from XG)];refine X1 (wpAny_dictEpoch N O ?_);rw[if_neg (by simp)]
   exact X9 ⟨rfl,rfl,λz Z=>m z (XS _ Z)⟩
 .rintro r W ⟨rfl,rfl,-⟩;exact X9 q
theorem _pH{K:Type} [DecidableEq K] {knd:KeyKind P w K}{l u:List (K×X0)}(g:(a==YM)=false)(d:(b==YM)=false)
  (j:s.heap.DictOf knd a l)(m:s.heap.DictOf knd b u)(c:A.units<cLine)(f:l.length=u.length)(r:∀p∈l,∃y,Z2 u p.1=some y/\AliP P w A.in1 s p.2 y):RcP P w A s (.ref a) (.ref b):=by
 intro E Q q;refine Vk (op:=.Eq) j.typeIs m.typeIs Ig (Zf Ig j.typeIs PySem.F.entry_dict_eq ?_ (PySem.F.args_dict_eq_2 _ _)) c;show X3 _ _ (Cv "__eq__" ⟨[.ref a,.ref b],[]⟩>>= _) _ _ s;refine X1 ?_;unfold Cv;refine X1 (BQ j.typeIs (X9 (X1 (Uo (T:="dict") m.typeIs Ic ?_))));rw[if_neg (by decide)]
 refine X1 (X9 (X1 (X9 (X1 (Jr g d j m f r ?_)))));exact X9 ⟨_,rfl,(λz=>nomatch z),q⟩
theorem _o6{K:Type} [DecidableEq K] {knd:KeyKind P w K}{l u:List (K×X0)}(g:(a==YM)=false)(d:(b==YM)=false)
  (j:s.heap.DictOf knd a l)(m:s.heap.DictOf knd b u)(c:A.units<cLine)(f:l.length=u.length)(r:∀p∈l,∃y,Z2 u p.1=some y/\AliP P w A.in1 s p.2 y):RnP P w A s (.ref a) (.ref b):=by
 intro E Q q;refine Vk (op:=.NotEq) j.typeIs m.typeIs Ih (Zf Ih j.typeIs PySem.F.entry_dict_ne ?_ (PySem.F.args_dict_ne_2 _ _)) c;show X3 _ _ (Cv "__ne__" ⟨[.ref a,.ref b],[]⟩>>= _) _ _ s;refine X1 ?_;unfold Cv;refine X1 (BQ j.typeIs (X9 (X1 (Uo (T:="dict") m.typeIs Ic ?_))));rw[if_neg (by decide)]
 refine X1 (X9 (X1 (X9 (X1 (Jr g d j m f r ?_)))));exact X9 ⟨_,rfl,(λz=>nomatch z),q⟩
end
section
variable{X:Cx}
end
end L2
namespace L2
open PySem PySem.Spec PyProof.Rows
theorem _aN:fillsNumberSlot (.type "tuple") "mul"=pure false:=
 PySem.fillsNumberSlot_seq (id:="tuple.__mul__") (r:=some (.builtin "tuple.__rmul__")) CA.lookup (by decide+kernel) I0.lookup (by decide+kernel)
theorem _eO:seqRepeat? (.type "tuple")=pure (some (.builtin "tuple.__mul__")):=by
 unfold seqRepeat?;rw[PySem.seqSlot_of (T:="tuple") (name:="__mul__") (id:="tuple.__mul__") CA.lookup (by decide+kernel),PySem.seqSlot_of (T:="tuple") (name:="__rmul__") (id:="tuple.__rmul__") I0.lookup (by decide+kernel)]
 rfl
theorem _fh(a:Int)(t:Tok)(l:Addr)(items:Array X0)(n:Nat)(u:Option Addr)(y:Array (Option X0)):
  Meets (Builtin.«int.__rmul__» ⟨[.int a t,.ref l],[]⟩) (fun _ R s=>s.heap.get? l=some {cls:=.type "tuple",dict:=u,data:=.seq items n,slots:=y}/\R (.ok (.ret Value.notImplemented)) s):=
 .of_wp λj w A R s h=>by obtain⟨z,g,d,m,os⟩:=s;obtain⟨c,h⟩:=h;wp_walk;exact⟨_,rfl,h⟩
theorem _kN(l:Addr)(items:Array X0)(n:Nat)(y:Option Addr)(z:Array (Option X0))(u:Tok):
  Meets (Builtin.«tuple.__mul__» ⟨[.ref l,.int 1 u],[]⟩) (fun _ R s=>s.heap.get? l=some {cls:=.type "tuple",dict:=y,data:=.seq items n,slots:=z}/\R (.ok (.ret (Xo l))) s):=
 .of_wp λj w A R s h=>by
  obtain⟨f,g,d,q,os⟩:=s;obtain⟨m,h⟩:=h;have r:=HS;have c:(items.isEmpty||(1:Int)==1)=true:=by simp
  wp_walk using Ct m;exact⟨_,rfl,h⟩
theorem _kM(l:Addr)(items:Array X0)(n:Nat)(r:Option Addr)(p:Array (Option X0))(k:Int)(u:Tok)(h2:2<=k)(f:items.size≠0)(P:items.size*k.toNat<=1000000):
  Meets (Builtin.«tuple.__mul__» ⟨[.ref l,.int k u],[]⟩) (fun _ R s=>s.heap.get? l=some {cls:=.type "tuple",dict:=r,data:=.seq items n,slots:=p}/\
   R (.ok (.ret (Xo s.heap.objs.size))) {s with heap:=s.heap.push {cls:=XD "tuple",data:=YY (Vx (fun j y=>j++y) #[] (Xj k.toNat items))},toks:=s.toks}):=
 .of_wp λq w A R s h=>by
  obtain⟨T,g,d,U,os⟩:=s;obtain⟨m,h⟩:=h;have W:=HS;have Y:k<=1000000:=by
   have:1*k.toNat<=items.size*k.toNat:=Nat.mul_le_mul_right _ (by lia)
   lia
  have Z:(items.size:Int)*k<=1000000:=by
   have e:(items.size:Int)*k=((items.size*k.toNat:Nat):Int):=by rw[Int.natCast_mul,Ux (by lia)]
   rw[e];lia
  have L:¬(decide (k< -(2^63))||decide (k >= 2^63))=true:=by simp;lia
  have B:¬(items.isEmpty||k==1)=true:=by
   simp;exact⟨λz=>f (by rw[z];rfl),by lia⟩
  have C:¬(decide (k<=0)||items.isEmpty)=true:=by
   simp;exact⟨by lia,λz=>f (by rw[z];rfl)⟩
  have N:¬((items.size:Int)*k>(2^63 - 1)/8):=by lia
  have D:¬(HN ((items.size:Int)*k)=true):=by
   unfold HN;have c:sizeLine=16777216:=by decide
   rw[c];simp;lia
  have O:(Vx (λj y=>j++y) #[] (Xj k.toNat items)).size<=sizeLine:=by
   have c:sizeLine=16777216:=by decide
   rw[PySem.AutoListH.size_joined,c,Nat.mul_comm];simp;lia
  wp_walk using Ct m
  refine wpAny_ite_false (decide_eq_false L) ?_
  wp_walk using Ct m
  refine wpAny_ite_false (decide_eq_false N) ?_
  wp_walk using Ct m
  exact⟨_,rfl,h⟩
section
variable{X:Cx}
theorem _nS:OpR X (Yk .Mult) (λx y H Q=>∃a k xs,x=.ref a/\y=.int k/\SqT X.K H a xs/\xs≠ []/\1<=k/\xs.length*k.toNat<=1000000/\(k=1->Q (.ref a) H)/\
  (k≠1->∀p,H p=none->Q (.ref p) (upd H p (.tup (Xj k.toNat xs).flatten)))):=by
 intro G s J H x y v u Q I L N h;obtain⟨a,k,xs,rfl,rfl,O,P,M,R,W,Y⟩:=h;obtain rfl:v=Xo a:=L;obtain⟨w,rfl⟩:=N;obtain⟨j,r,Z,_⟩:=I.tuple O;obtain⟨⟨A,m,d,g⟩,l,c,n,f⟩:=id Z;simp only at c f;subst c f;have e:j.toArray.size=xs.length:=by rw[XO,<-r.length]
 refine wpAny_binaryOp_repeat_ref (T:="tuple") (U:="int") (by decide) ⟨_,l,rfl⟩ (fun B=>typeIs_int B k w) _aN PySem.F.fills_int_mul Ie _eO PySem.F.slot_int_index.lookup
  (UP Ie (typeIs_int s k w) PySem.F.entry_int_rmul (PySem.F.args_int_rmul_2 _ _) (_fh k w a j.toArray n m g) ⟨l,rfl,⟨_,l,rfl⟩,?_⟩)
 by_cases e1:k=1
 .subst e1;exact UP CA ⟨_,l,rfl⟩ Ia (HY _ _) (_kN a j.toArray n m g w) ⟨l,.ref a,H,I,rfl,W rfl⟩
 .refine UP CA ⟨_,l,rfl⟩ Ia (HY _ _) (_kM a j.toArray n m g k w (by lia) (by rw[e];exact λz=>P (DR.mp z)) (by rw[e];exact R)) ⟨l,?_⟩
  have C:Vx (λD E=>D++E) #[] (Xj k.toNat j.toArray)=(Xj k.toNat j).flatten.toArray:=by
   have:=EA j k.toNat [];rw[Y7]at this;exact this
  rw[C];refine⟨.ref s.heap.objs.size,_,I.laid (t':=s.toks) (o:=.tup (Xj k.toNat xs).flatten) (λb S q=>Xq _ q) (Xf _) ?_,rfl,Y e1 _ (I.hok.fresh (Xf _))⟩;refine⟨?_,_,r.rep k.toNat,IsTup.new _ _,_,XR _ rfl,rfl⟩;have F:sizeLine=16777216:=by decide
  rw[Jd,F,Nat.mul_comm];lia
end
section
variable{X:Cx}{pq:List (Addr×Obj)}{σ:St}{H:Hp}{s:X2}
def Thw(X:Cx)(H j:Hp):Prop:=j=H\/∃a o u,H a=some (.frz o u)/\Mut (some u)/\(∀l w,X.H₀ a≠some (.frz l w))/\j=upd H a u
theorem Inv.thaw(I:Inv X pq σ H s)(t:Thw X H H'):Inv X pq σ H' s:=by
 rcases t with rfl|⟨a,o,u,e,U,r,rfl⟩
 .exact I
 have j:∀{b:Addr} {y:HO},H b=some y->y≠.frz o u->b≠a:=fun{b y} q n z=>by subst z;rw[e]at q;cases q;exact n rfl
 have l:∀b,H b=none->b≠a:=λb n z=>by subst z;rw[e]at n;cases n
 have st:∀{c:Addr} {y:HO},ObjOk X.prog X.w H s.heap c y->ObjOk X.prog X.w (upd H a u) s.heap c y:=λx=>
  x.stay (λc v _ q=>q) (λc q=>by rw[XN (j q (λz=>by cases z))];exact q) λc w q=>by rw[XN (j q (λz=>by cases z))];exact q
 refine⟨I.ok,I.os,I.bare,⟨I.base.keep,I.base.slot,λb L q n N=>?_,I.base.there,λb w q=>?_,λb g d q=>?_,λb O q=>?_⟩,I.loc,I.cell,?_,λx c q=>?_,λp P=>?_,λb v q=>?_,I.len⟩
 .have:=I.base.free b L q n N;rw[XN (l b this)];exact this
 .have:=I.base.tups b w q;rw[XN (j this (λz=>by cases z))];exact this
 .rw[XN (λz=>by subst z;exact r g d q)]
  exact I.base.frzs b g d q
 .obtain⟨m,h⟩:=I.base.tbls b O q;exact⟨m,by rw[XN (j h (λz=>by cases z))];exact h⟩
 .rw[XN (l _ I.free)];exact I.free
 .rw[XN (l _ (I.freeC x c q))];exact I.freeC x c q
 .obtain⟨R,f,T⟩:=I.pin p P;exact⟨R,by rw[XN (l _ f)];exact f,T⟩
 .by_cases hb:b=a
  .subst hb;rw[_I]at q;cases q;exact st (I.hok b _ e).2
  .rw[XN hb]at q;exact st (I.hok b v q)
def thwD(X:Cx)(D:Ends):Ends where
 nx:=λσ H=>∃j,Thw X H j/\D.nx σ j
 rt:=λv H=>∃j,Thw X H j/\D.rt v j
 bk:=λσ H=>∃j,Thw X H j/\D.bk σ j
 ct:=λσ H=>∃j,Thw X H j/\D.ct σ j
theorem PS.thaw{st:Stmt}{t:TS}(h:PS X st t):PS X st (λD σ H=>t (thwD X D) σ H):=by
 intro pq s σ H D I q;refine thn (h pq s σ H _ I q) λf g z=>?_;cases f with
 |next=>obtain⟨j,m,l,w,y,d⟩:=z;exact⟨j,w,l.thaw y,d⟩
 |brk=>obtain⟨j,m,l,w,y,d⟩:=z;exact⟨j,w,l.thaw y,d⟩
 |cont=>obtain⟨j,m,l,w,y,d⟩:=z;exact⟨j,w,l.thaw y,d⟩
 |ret u=>obtain⟨v,j,m,l,r,w,y,d⟩:=z;exact⟨v,j,w,l.thaw y,r,d⟩
theorem PE.thaw{e:Expr}{t:TE}(h:PE X e t):PE X e (λσ H Q=>t σ H λv l=>∃j,Thw X l j/\Q v j):=by
 intro pq s σ H Q I q;refine thn (h pq s σ H _ I q) λu z ⟨v,l,w,r,j,y,d⟩=>⟨v,j,w.thaw y,r,d⟩
end
section
variable{prog:Xw}{w:Xn}{A:Xz}{E:X0->X2->Prop}{s:X2}{a₀:Array Keyed}
end
section
variable{X:Cx}
end
structure Mrk (t t':Yx):Prop where
 led:t'.led=t.led
 plain:t.plain=false->t'.plain=false
theorem Mrk.refl(t:Yx):Mrk t t:=⟨rfl,id⟩
theorem Mrk.trans(x:Mrk a b)(y:Mrk b c):Mrk a c:=⟨y.led.trans x.led,λh=>y.plain (x.plain h)⟩
theorem Mrk.standIn(t:Yx)(n:Nat):Mrk t (t.standIn n):=⟨rfl,λ_=>rfl⟩
theorem Mrk.orStandIn(t:Yx)(n:Nat):Mrk t (t.orStandIn n):=by
 unfold SetTable.orStandIn;split
 .exact .refl t
 .exact .standIn t n
theorem Mrk.lay(t:Yx)(es:Array (Int×X0))(k:Int)(x:X0):Mrk t (layNew t es k x).2.1:=by
 unfold layNew;split
 .exact Mrk.trans (b:=(t.put _).1) ⟨rfl,id⟩ (.orStandIn _ _)
 .exact .standIn t _
theorem Mrk.relaid{t:Yx}(h:t.relaid hs n=some (t',od)):Mrk t t':=by
 unfold SetTable.relaid SetTable.laid at h;cases j:SetTable.layClean (SetTable.sizeAbove n - 1) hs with
 |none=>rw[j]at h;simp at h
 |some l=>
  rw[j]at h;simp only[Option.bind_eq_bind,Option.bind_some,Option.pure_def,Cp,Prod.mk.injEq]at h;obtain⟨rfl,_⟩:=h;exact⟨rfl,id⟩
set_option tactic.hygienic true in
theorem Mrk.relay(t:Yx)(es:Array (Int×X0))(n:Nat):Mrk t (relayAll t es n).2.1:=by
 unfold relayAll;split
 .rename_i j
  dsimp only;split
  .exact .relaid j
  .exact .standIn t _
 .exact .standIn t _
noncomputable def txt:X0->Str
 |.str x _=>x
 |_=>⟨#[]⟩
noncomputable def met1(zs:List Str)(x:Str):List Str:=if x∈zs then zs else zs++[x]
def met(f:Nat->Str):Nat->List Str
 |0=>[]
 |i+1=>met1 (met f i) (f i)
set_option tactic.hygienic true in
theorem _hR(h:zs.Nodup)(x:Str):(met1 zs x).Nodup:=by
 unfold met1;split
 .exact h
 .rename_i n
  rw[Zj];exact⟨h,by simp,λa l b j=>by rw[Y1]at j;subst j;exact λe=>n (e▸l)⟩
theorem Js(f:Nat->Str):∀i,(met f i).Nodup
 |0=>.nil
 |i+1=>_hR (Js f i) _
set_option tactic.hygienic true in
theorem _lt:y∈met1 zs x↔y∈zs\/y=x:=by
 unfold met1;split
 .rename_i h
  exact⟨.inl,λz=>z.elim id λe=>e▸h⟩
 .simp
theorem Jt:∀i,y∈met f i↔∃j,j<i/\f j=y
 |0=>by simp[met]
 |i+1=>by
  unfold met;rw[_lt,Jt i];constructor
  .rintro(⟨j,l,e⟩|e)
   .exact⟨j,by lia,e⟩
   .exact⟨i,by lia,e.symm⟩
  .rintro⟨j,l,e⟩;by_cases z:j=i
   .subst z;exact .inr e.symm
   .exact .inl ⟨j,by lia,e⟩
theorem Ju(f:Nat->Str):∀i,(met f i).length<=i
 |0=>Xf _
 |i+1=>by
  have:=Ju f i;unfold met met1;split
  .lia
  .rw[Ye];simp;lia
section
variable{prog:Xw}{w:Xn}{A:Xz}{E:X0->X2->Prop}{s:X2}
def WSet(prog:Xw)(w:Xn)(o:Obj)(zs:List Str):Prop:=
 o.ExactSet/\∃j l t,o.data=.set j l t/\ElemsOf (strKind prog w) j.toList/\(j.toList.map λe=>txt e.2).Perm zs/\j.size<scanBound/\t.fits j.size=true
  /\t.led=(!w.params.followText "set-order")/\(zs≠ []->t.plain=false)
theorem WSet.fresh:WSet prog w {cls:=.type "set",dict:=none,data:=.set #[] 0 (.fresh 0 0 (!w.params.followText "set-order"))} []:=
 ⟨⟨rfl,rfl,rfl⟩,#[],0,_,rfl,λe j=>by simp at j,by simp,by decide,by rfl,rfl,λh=>absurd rfl h⟩
theorem isT{k:Str}:(strKind prog w).is k v=true↔∃t,v=.str k t:=by
 constructor
 .exact λh=>Value.isStrOf_shape h
 .rintro⟨t,rfl⟩;exact strKind_is prog w k t
theorem WSet.mem{es:Array (Int×X0)}{zs:List Str}(u:ElemsOf (strKind prog w) es.toList)(y:(es.toList.map λe=>txt e.2).Perm zs)(k:Str):
  k∈zs↔∃e∈es.toList,(strKind prog w).is k e.2=true:=by
 rw[<-y.mem_iff,XT];constructor
 .rintro⟨e,j,q⟩;refine⟨e,j,isT.mpr ?_⟩;obtain⟨⟨m,z,_⟩,_⟩:=u e j;obtain⟨t,l⟩:=isT.mp z;rw[l]at q ⊢;exact⟨t,by rw[<-q];rfl⟩
 .rintro⟨e,j,q⟩;obtain⟨t,l⟩:=isT.mp q;exact⟨e,j,by rw[l];rfl⟩
theorem Jv{h:Heap}{a:Addr}{o:Obj}{es:Array (Int×X0)}{l:Nat}{t:Yx}(y:h.get? a=some o)(u:o.data=.set es l t)(j:Array (Int×X0))(t':Yx):
  (h.update a (Obj.putSet j t')).get? a=some {o with data:=.set j (l+1) t'}:=by
 have z:=UV (Obj.putSet j t') y (by rw[putSet_of j t' u];rfl)
 rwa [putSet_of j t' u]at z
theorem Jw{g:Bool->Sem Unit}(Y:∀(b:Bool)(u:X2)(L:Unit->X2->Prop),L () u->X3 (X6 prog w) A (g b) L E u)
  {a:Addr} {o:Obj} {es:Array (Int×X0)} {Z:Nat} {t:Yx} (N:s.heap.get? a=some o)(c:o.ExactSet)(O:o.data=.set es Z t)
  {j:Array (Int×X0)} {t2:Yx} {zs:List Str} (f:ElemsOf (strKind prog w) j.toList)(P:(j.toList.map λe=>txt e.2).Perm zs)(T:j.size<scanBound)
  (B:t2.fits j.size=true)(y:t2.led=(!w.params.followText "set-order"))(q:t2.plain=false){p:Bool} {R:Option Bool->X2->Prop}
  (h:∀h' U,U2 a s.heap h'->h'.get? a=some U->WSet prog w U zs->R (some true) {s with heap:=h'}):
  X3 (X6 prog w) A (do
    storeSet a j t2
    if(!p&&t2.tooFull)=true then do
      g (relayAll t2 j (V0 j.size)).2.2
      storeSet a (relayAll t2 j (V0 j.size)).1 (relayAll t2 j (V0 j.size)).2.1
      pure (some true)
     else pure (some true)) R E s:=by
 refine X1 (wpAny_storeSet_of N O ?_ (fits_of_scanBound T));have z:=Jv N O j t2;split
 .have l:=relayAll_perm t2 j (V0 j.size);have m:=relayAll_fits t2 j (V0 j.size);have r:=Mrk.relay t2 j (V0 j.size);generalize relayAll t2 j (V0 j.size)=Rl at l m r ⊢;obtain⟨d,W,C⟩:=Rl;dsimp only at l m r ⊢;have D:d.size=j.size:=by rw[<-Yv,l.length_eq,Yv]
  refine X1 (Y _ _ _ ?_);refine X1 (wpAny_storeSet_of z rfl ?_ (fits_of_scanBound (by lia)))
  exact X9 (h _ _ ((U5 _ a _).trans (U5 _ a _)) (Jv z rfl d W)
   ⟨c,d,_,W,rfl,f.perm l,(l.map _).trans P,by lia,m,r.led.trans y,λ_=>r.plain q⟩)
 .exact X9 (h _ _ (U5 _ a _) z ⟨c,j,_,t2,rfl,f,P,T,B,y,λ_=>q⟩)
set_option tactic.hygienic true in
theorem _kP{a:Addr}{o:Obj}{zs:List Str}{x:Str}{tk:Tok}{Q:Bool->X2->Prop}(O:s.heap.get? a=some o)(S:WSet prog w o zs)(D:zs.length+1<scanBound)
  (h:∀b h' l,U2 a s.heap h'->h'.get? a=some l->WSet prog w l (met1 zs x)->Q b {s with heap:=h'}):
  X3 (X6 prog w) A (setAddHashed a (.str x tk) ((strKind prog w).hash x)) Q E s:=by
 obtain⟨P,p,ep,t,B,y,F,hb,X,g,hpl⟩:=id S;have d:(strKind prog w).is x (.str x tk)=true:=strKind_is prog w x tk;have H:p.size=zs.length:=by rw[<-F.length_eq,Xb,Yv]
 unfold setAddHashed setAddHashedIn;refine YN (X1 (Wh O B X ?_));dsimp only;rw[byScan_of (x:=.str x tk) rfl hb y];simp only[↓reduceIte];unfold setAddByScan;refine X1 (X1 (Up (X1 (wpAny_setScan_of d O B X y ?_))));have c:=WSet.mem y F x;cases v:List.findIdx? (λe=>(strKind prog w).is x e.2) p.toList with
 |some j=>
  dsimp only;obtain⟨hj,G,_⟩:=List.findIdx?_eq_some_iff_getElem.mp v;have I:x∈zs:=c.mpr ⟨_,XQ hj,G⟩;refine X9 (X9 ?_);have:=h false s.heap o (Heap.SameBut.refl a s.heap) O (by unfold met1;rw[if_pos I];exact S)
  cases s;exact this
 |none=>
  dsimp only;have I:x∉zs:=λz=>by
   obtain⟨e,he,q⟩:=c.mp z;have:=List.findIdx?_eq_none_iff.mp v e he;rw[q]at this;exact Bool.noConfusion this
  have hz:met1 zs x=zs++[x]:=by unfold met1;rw[if_neg I]
  have N:=layNew_perm t p ((strKind prog w).hash x) (.str x tk);have m:=layNew_fits t p ((strKind prog w).hash x) (.str x tk);have C:=Mrk.lay t p ((strKind prog w).hash x) (.str x tk);generalize layNew t p ((strKind prog w).hash x) (.str x tk)=L at N m C ⊢;obtain⟨r,t1,was,i⟩:=L;dsimp only at N m C ⊢;rw[Array.toList_push]at N;have f:ElemsOf (strKind prog w) r.toList:=(y.push d rfl).perm N;have R:(r.toList.map λe=>txt e.2).Perm (met1 zs x):=by
   rw[hz];refine(N.map _).trans ?_;rw[XX];exact F.append (.refl _)
  have T:r.size<scanBound:=by rw[<-Yv,N.length_eq,Ye,Yv];simp;lia
  have J:∀(b:Bool)(u:X2)(M:Unit->X2->Prop),M () u->X3 (X6 prog w) A (match b with|true=>rule "set.scan.the-table-gave-way"|false=>pure ()) M E u:=
   λb u M n=>by cases b<;>first|exact X9 n|exact Up n
  refine X1 (J _ _ _ ?_);have U:∀h' l,U2 a s.heap h'->h'.get? a=some l->WSet prog w l (met1 zs x)->Q true {s with heap:=h'}:=λh' l W Y Z=>h true h' l W Y Z;split
  .rw[hashByValue_scannable 8 (x:=.str x tk) rfl];refine X1 (X9 ?_);refine Jw J O P B f R T (t2:={t1 with plain:=false}) (SetTable.fits_plain_off m) (C.led.trans g) rfl ?_;intro h' l W Y Z;exact X9 (U h' l W Y Z)
  .rename_i np
   refine X1 (X9 ?_);simp only[↓reduceIte];refine Jw J O P B f R T m (C.led.trans g) (by simpa using np) ?_
   intro h' l W Y Z;exact X9 (U h' l W Y Z)
theorem _it{St:Nat->X2->Prop}
  (W:WalksS prog w A.in1 I fp wr G n P St)(S:Addr)(m:S∉fp)(f:Nat->Str)(g:∀i v,P i v->∃t,v=.str (f i) t)(y:n+1<scanBound):
  ∀(k i:Nat)(s:X2)(o:Obj),n - i=k->i<=n->St i s->s.heap.get? S=some o->WSet prog w o (met f i)->
   (∀j T,Moved (S::wr) G s j->j.heap.get? S=some T->WSet prog w T (met f n)->R (.ok (.ret .none)) j)->
   YW (X6 prog w) A (.builtin "set.update.loop" ⟨[.ref S,.ref I],[]⟩) R s:=by
 have d:S∉wr:=λh=>m (W.sub _ h);have l:∀b∈wr,b∈S::wr:=λb y=>XS _ y;intro k
 induction k with
 |zero=>
  intro i s o X H u U Y Z;have B:i=n:=by lia
  subst B;refine Z9 F.entry_set_update_loop ?_;rw[Zq F.plain_set_update_loop _];show X3 _ A.in1 (pyNext (.ref I)>>= _) _ _ s;refine X1 (W.done s _ _ u λj c=>?_);exact X9 (Z j o (c.mono l) (c.heap S _ d U) Y)
 |succ k x=>
  intro i s o X H u U Y Z;have q:i<n:=by lia
  refine Z9 F.entry_set_update_loop ?_;rw[Zq F.plain_set_update_loop _];show X3 _ A.in1 (pyNext (.ref I)>>= _) _ _ s;refine X1 (W.item i s _ _ q u λv j a r c=>?_);obtain⟨t,rfl⟩:=g i v a;have C:=c.heap S _ d U;show X3 _ A.in1 (Z6 [XF (f i) t] (setAdd S (.str (f i) t))>>= _) _ _ j;refine X1 (YN ?_);unfold setAdd;refine YN (X1 ((strKind prog w).pyHash (k:=f i) (strKind_is prog w _ _) ?_));refine _kP (s:={j with toks:=j.toks+1}) C Y (by have:=Ju f i;lia) λb h' T p D J=>?_
  refine X9 ⟨Zg F.plain_set_update_loop _,x (i+1) _ T (by lia) q (W.frame _ j _ _ r (Uw _) λb y o e=>?_) D J λM Q L N O=>?_⟩
  .rw[p.2 b (λz:b=S=>m (by rw[<-z];exact y))];exact e
  .refine Z M Q (Moved.trans W.gtrans ((c.mono l).then_heap (Uw _) λb o y e=>?_) L) N O;rw[p.2 b (λz:b=S=>y (by rw[z];exact Yb))];exact e
noncomputable def ZK(w:Xn):Obj:={cls:=.type "set",dict:=none,data:=.set #[] 0 (.fresh 0 0 (!w.params.followText "set-order"))}
theorem _kO(a:X0)(h:Q₁ (.ref s.heap.objs.size) {s with heap:=s.heap.push (ZK w)}):
  YW (X6 prog w) A (.call (.builtin "set.__new__") ⟨[.type "set",a],[]⟩) (wants Q₁ E) s:=by
 refine codeAny_of_tree ?_;show X3 _ A.in1 (do checkBuiltinCall "set.__new__" ⟨[.type "set",a],[]⟩;again (.builtin "set.__new__" ⟨[.type "set",a],[]⟩)) _ _ s
 refine X1 (wpAny_of_eq (F.newCall_set_1 a) (X9 ⟨Zg F.plain_set_new _,Z9 F.entry_set_new ?_⟩));rw[Zq F.plain_set_new _];unfold Builtin.«set.__new__» Builtin.Frozenset.newClass;have j:=sub_set_self;obtain⟨l,g,d,u,os⟩:=s;dsimp only
 wp_walk
 refine Wi (X9 ?_);dsimp only;simp only[newObj];refine X1 (wpAny_alloc (X9 ?_));exact X9 h
theorem _kh{items:Array X0}
  (hh:A.handled=none)(hl:s.heap.IsList l items)(hi:∀(i:Nat)(v:X0),items[i]?=some v->∃t,v=XF (f i) t)(Z:items.size+1<scanBound)
  (h:∀(h':Heap)(tk:Nat)(o:Obj),h'.get? s.heap.objs.size=some o->WSet prog w o (met f items.size)->
   (∀b o,b<s.heap.objs.size->s.heap.get? b=some o->h'.get? b=some o)->Q (.ref s.heap.objs.size) {s with heap:=h',toks:=tk}):
  X3 (X6 prog w) A (call (.type "set") [.ref l]) Q E s:=by
 obtain⟨c,tl,X⟩:=Uz.mro;have C:=Uz.made;have H:=Uz.sub;refine wpAny_call (codeAny_of_tree ?_);show X3 _ _ (callAny (.type "set") _) _ _ _;refine X9 ⟨Code.quiet_builtin _ (by decide+kernel),Z9 F.entry_type_call ?_⟩
 rw[Around.under_plain (weight_type_call_type "set" [.ref l] []) rfl];have h1:=Uz.notType;have h2:=Uz.canCreate;have hct:=F.typeCall_set_1 (.ref l)
 repeat (any_goals (first|assumption|wp_step))
 refine Vi (_kO (.ref l) (E:=E) (Q₁:=λp y=>p=.ref s.heap.objs.size/\y={s with heap:=s.heap.push (ZK w)}) ⟨rfl,rfl⟩) λr y D=>?_;cases r with
 |error e=>exact D
 |ok fl=>
  cases fl with
  |ret p=>
   obtain⟨rfl,rfl⟩:=D;have n:(s.heap.push (ZK w)).get? s.heap.objs.size=some (ZK w):=XR _ rfl;have hT:WB {s with heap:=s.heap.push (ZK w)} (.ref s.heap.objs.size) "set":=⟨_,n,rfl⟩;have hli:=Uz.init.lookup;have hbi:=Uz.init.bind (.ref s.heap.objs.size)
   repeat (any_goals (first|assumption|wp_step))
   refine Vi (Wg (R:=wants (λr z=>r=.none/\∃h' tk o,z={s with heap:=h',toks:=tk}/\
     h'.get? s.heap.objs.size=some o/\WSet prog w o (met f items.size)/\
     (∀b o,b<s.heap.objs.size->s.heap.get? b=some o->h'.get? b=some o)) E) Uz.init.plain F.entry_set_init (check_set_init_1 hT ?_)) λL z j=>?_
   .obtain⟨ol,N,O,x,P⟩:=hl;obtain⟨a,m,G,u⟩:=ol;simp only at O P;subst O;subst P;have T:(s.heap.push (ZK w)).get? l=some {cls:=.type "list",dict:=m,data:=.seq items x,slots:=u}:=Xq _ N;have hsls:=F.sub_list_set;have hslf:=F.sub_list_frozenset;have hne:(XD "list"==XD "dict")=false:=by decide
    have U:(s.heap.push (ZK w)).IsList l items:=⟨_,T,rfl,x,rfl⟩;unfold Builtin.«set.__init__» noKeywords Builtin.Frozenset.updateFrom;generalize hPI:pyIter=PI
    wp_walk
    subst hPI;refine BR U ?_;refine X1 (wpAny_runValue ?_);have W:l<s.heap.objs.size:=Xv N;have Y:l≠(s.heap.push (ZK w)).objs.size:=by
     rw[Zo];exact XB (Uu W)
    have I:s.heap.objs.size∉ [(s.heap.push (ZK w)).objs.size,l]:=by
     rw[Zo];simp only[Xl,XI,or_false,not_or];exact⟨XB (VA _),UW W⟩
    refine _it ((Walks.list (A:=A.in1.in1.in1) (by simp[hh]) _ l Y items).toS) s.heap.objs.size
     I f hi Z (items.size - 0) 0 _ (ZK w) (by lia) (YA _)
     ⟨⟨_,XR _ rfl,rfl,rfl⟩,(U.push _)⟩ (Xq _ n) WSet.fresh ?_
    intro s' o' B g d;obtain⟨h',g',d',J,M⟩:=s';have eg:g'=s.gens:=B.gens;have ed:d'=s.drawn:=B.drawn;have eo:M=s.os:=B.os;subst eg;subst ed;subst eo;refine X9 (X9 ⟨rfl,h',J,o',rfl,g,d,λb o Z e=>?_⟩);refine B.heap b o ?_ (Xq _ (Xq _ e));simp only[Xl,XI,or_false,not_or];exact⟨XB Z,by rw[Zo];exact XB (Uu Z)⟩
   .cases L with
    |error e=>exact j
    |ok q=>
     cases q with
     |ret r=>
      obtain⟨rfl,h',tk,o',rfl,g,d,S⟩:=j
      repeat (any_goals (first|assumption|wp_step))
      exact h _ _ _ g d S
     |_=>exact j.elim
  |_=>exact D.elim
end
theorem slot_setiter_next:Slot "set_iterator" "__next__" "set_iterator.__next__":=
 .of (owner:="set_iterator") (n:="__next__") (by rw[Vl,Vm];kernel_rfl) (by decide+kernel) (by decide+kernel) (by decide+kernel)
  (by first|exact .inl (by decide+kernel)|exact .inr (by decide+kernel)) (by rw[isSubtype_type];kernel_rfl)
theorem Jx:Slot "set_iterator" "__iter__" "set_iterator.__iter__":=
 .of (owner:="set_iterator") (n:="__iter__") (by rw[Vl,Vm];kernel_rfl) (by decide+kernel) (by decide+kernel) (by decide+kernel)
  (by first|exact .inl (by decide+kernel)|exact .inr (by decide+kernel)) (by rw[isSubtype_type];kernel_rfl)
theorem Jy:entryFor table "set_iterator.__next__"=some Builtin.«set_iterator.__next__»:=entryFor_of_fast (by kernel_rfl)
theorem _92:entryFor table "set_iterator.__iter__"=some Builtin.«dict_keyiterator.__iter__»:=
 entryFor_alias (id':="dict_keyiterator.__iter__") (by kernel_rfl) rfl (by decide+kernel) (by kernel_rfl)
theorem _cJ:entryFor table "set.__iter__"=some Builtin.«frozenset.__iter__»:=
 entryFor_alias (id':="frozenset.__iter__") (by kernel_rfl) rfl (by decide+kernel) (by kernel_rfl)
theorem Jz(a:X0):argsOk "set_iterator.__next__" ⟨[a],[]⟩:=by unfold argsOk;kernel_rfl
theorem _9F(a:X0):argsOk "set_iterator.__iter__" ⟨[a],[]⟩:=by unfold argsOk;kernel_rfl
theorem ers{j:Type}:∀(l:List j)(i:Nat)(h:i<l.length),(l[i]::l.eraseIdx i).Perm l
 |[],_,h=>absurd h (by simp)
 |x::xs,0,_=>.refl _
 |x::xs,i+1,h=>(List.Perm.swap x _ _).trans ((ers xs i (by simpa using h)).cons x)
section
variable{prog:Xw}{w:Xn}{A:Xz}{E:X0->X2->Prop}{s:X2}
theorem _pk(j:n≠0)(h:∀i d,i<n->Q i {s with drawn:=d}):X3 M A (choose src n) Q E s:=λu p l=>by
 unfold choose;rw[Sem.wp_choose];exact⟨j,by rw[Sem.wp_pure];exact h _ _ (VC _ (Nat.pos_of_ne_zero j))⟩
theorem _n6{u:Type}:∀(n:Nat)(xs:List u)(s:X2)(Q:List u->X2->Prop),xs.length=n->(∀ys d,ys.Perm xs->Q ys {s with drawn:=d})->X3 M A (drawOrder n xs) Q E s:=by
 intro n
 induction n with
 |zero=>
  intro xs s Q j h;unfold drawOrder;have:xs=[]:=DR.mp j;subst this;exact X9 (h [] s.drawn (.refl _))
 |succ n y=>
  intro xs s Q j h;cases xs with
  |nil=>simp at j
  |cons x xs=>
   unfold drawOrder;refine X1 (_pk (by simp) λi d l=>?_)
   rw[X7 l];dsimp only;refine X1 (y _ _ _ (by rw[HE l];lia) λys z m=>X9 ?_)
   have:(((x::xs)[i])::ys).Perm (x::xs):=((List.Perm.cons _ m).trans (ers _ _ l));exact h _ z this
theorem _nF{u:Type}(next:Nat->Nat):∀(n k:Nat)(j:List u)(out:Array u),j.length=n->(pickOrder.go next n k j out).toList.Perm (out.toList++j):=by
 intro n
 induction n with
 |zero=>
  intro k j out y;have:j=[]:=DR.mp y;subst this;unfold pickOrder.go;simp
 |succ n z=>
  intro k j out y;unfold pickOrder.go;have l:next k%j.length<j.length:=VC _ (by lia)
  rw[X7 l];dsimp only;refine(z _ _ _ (by rw[HE l];lia)).trans ?_
  rw[Array.toList_push,Vo];exact(List.Perm.refl _).append (by simpa using ers _ _ l)
theorem _iY{j:Type}(next:Nat->Nat)(xs:Array j):(pickOrder next xs).toList.Perm xs.toList:=by
 unfold pickOrder
 simpa using _nF next xs.size 0 xs.toList #[] (by simp)
noncomputable def SIt(h:Heap)(it S:Addr)(first:X0)(i n j:Nat):Prop:=
 ∃o,h.get? it=some o/\o.cls=.type "set_iterator"/\o.data=.fields #[first,.int i 0,.ref S,.int n 0,.int j 0]
theorem SIt.typeIs{first:X0}(x:SIt s.heap it S first i n ep):s.TypeIs (.ref it) "set_iterator":=let⟨o,ho,hc,_⟩:=x;⟨o,ho,hc⟩
theorem CW{h:Heap}{it:Addr}{o:Obj}{vs:Array X0}(y:h.get? it=some o)(u:o.data=.fields vs)(j:Nat)(v:X0):
  ∃l,(h.update it (El (·.setIfInBounds j v))).get? it=some l/\l.cls=o.cls/\l.data=.fields (vs.setIfInBounds j v):=
 ⟨_,UV _ y (Ej (CD u _)),Ek ..,CD u _⟩
noncomputable def Nx(w:Xn)(S:Addr)(es:Array (Int×X0))(u:Nat)(t:Yx)(l i:Nat):Option (X0×Nat):=
 if w.params.followText "set-order"=true then(pickOrder (w.params.setOrder S u) es)[i]?.map fun e=>(e.2,l)
 else match es[CC t.place l]?,t.place[CC t.place l]? with
  |some (_,x),some j=>some (x,j+1)
  |_,_=>none
theorem _kW{t:Yx}
  (j:s.heap.get? S=some o)(l:o.data=.set es ep t)(y:t.fits es.size=true)(hw:w.params.followText "set-order"=true\/(es.size<=1/\t.led=true))
  (h:Q (Nx w S es ep t slot i) s):X3 (X6 prog w) A (setNext S slot i ep) Q E s:=by
 unfold setNext;refine X1 (Wh j l y ?_);refine X1 (m:=setsByText) (X1 (Wi (X9 ?_)));show X3 _ _ (if w.params.followText "set-order"=true then _ else _) _ _ _;unfold Nx at h;by_cases hb:w.params.followText "set-order"=true
 .rw[if_pos hb];rw[if_pos hb]at h;simp only[bne_self_eq_false,Yn,if_false];refine X1 ?_;unfold setWalk;refine X1 (Wh j l y ?_);refine X1 (m:=setsByText) (X1 (Wi (X9 ?_)));show X3 _ _ (if w.params.followText "set-order"=true then _ else _) _ _ _;rw[if_pos hb];refine X1 (Wi (X9 (X9 ?_)));exact h
 .rw[if_neg hb];rw[if_neg hb]at h;obtain⟨g,z⟩:=hw.resolve_left hb;have u:(!t.plain&&decide (es.size>1))=false:=by
   rw[decide_eq_false (by lia),Wt]
  show X3 _ _ (if(!t.plain&&decide (es.size>1))=true then _ else _) _ _ _;rw[u,if_neg XG];refine X1 ?_;show X3 _ _ (if(!t.led&& !es.isEmpty)=true then _ else _) _ _ _;rw[z];simp only[VD,Ws,Yn,if_false];exact X9 (X9 h)
theorem JA(l:A.handled=none)(u:Cc it s.heap h₁)
  (y:∀h',Cc it s.heap h'->Q none {s with heap:=h'}):
  X3 (X6 prog w) A.in1 (do let x<- newExc (.type "StopIteration") [];(raiseNew x:Sem Fin)) (fun fin j=>∃v,fin=Fin.done (Flow.ret v)/\X3 (X6 prog w) A (pure (some v)) Q E j)
   (fun e j=>X3 (X6 prog w) A (do let b<- isInstance e (.type "StopIteration");if b=true then pure none else throw e) Q E j) {s with heap:=h₁}:=by
 refine X1 ?_;simp only[newExc,newTuple];refine X1 (ZZ ?_ (by size_fits))
 refine X1 (m:=firstArgMember _ _) (wpAny_of_eq (a:=Xt) (by first|rfl|(simp only[firstArgMember];rfl)) ?_)
 refine ZZ ?_ (by size_fits)
 simp only[raiseNew];refine X1 (wpAny_handled ?_);rw[show A.in1.handled=none from l];refine X1 (X9 (wpAny_throw ?_));refine X1 (Uo (T:="StopIteration") (b:=true) ⟨_,XR _ rfl,rfl⟩ isSubtype_stop ?_);exact X9 (y _ ((u.push _).push _))
theorem JB{it S:Addr}{i n z j:Nat}{o:Obj}{es:Array (Int×X0)}{t:Yx}{Q:Option X0->X2->Prop}(P:A.handled=none)
  (y:SIt s.heap it S (.int j 0) i n z)(g:s.heap.get? S=some o)(d:o.data=.set es z t)(N:t.fits es.size=true)(R:es.size=n)
  (hw:w.params.followText "set-order"=true\/(es.size<=1/\t.led=true))
  (h1:∀x c,Nx w S es z t j i=some (x,c)->∀h',SIt h' it S (.int c 0) (i+1) n z->U2 it s.heap h'->Q (some x) {s with heap:=h'})
  (h2:Nx w S es z t j i=none->∀h',Cc it s.heap h'->Q none {s with heap:=h'}):
  X3 (X6 prog w) A (pyNext (.ref it)) Q E s:=by
 obtain⟨U,l,q,u⟩:=id y;unfold pyNext;refine X1 (wpAny_attempt (BN (name:=Yi "__next__") y.typeIs slot_setiter_next
  (Zf slot_setiter_next y.typeIs Jy ?_ (Jz _))))
 show X3 _ _ (fieldsOf (.ref it)>>= _) _ _ s;refine X1 (wpAny_fieldsOf l u ?_);show X3 _ _ (setEntries S >>= _) _ _ s;refine X1 (wpAny_setEntries_of g d N ?_);simp only[R,bne_self_eq_false,Yn,if_false];refine X1 (m:=setNext _ _ _ _) ?_;simp only[YR];refine _kW g d N hw ?_;cases O:Nx w S es z t j i with
 |none=>
  dsimp only;refine X1 (Vn l u (by simp) ?_)
  exact JA P (U5 ..).extBut (h2 O)
 |some p=>
  obtain⟨x,c⟩:=p;dsimp only;obtain⟨W,f,r,hd1⟩:=CW l u 0 (Y6 c);refine X1 (Vn l u (by simp) ?_)
  refine X1 (Vn f hd1 (by simp) ?_)
  obtain⟨T,e,L,hd2⟩:=CW f hd1 1 (Y6 ((i:Int)+1));refine X9 ⟨x,rfl,X9 (h1 x c O _ ⟨T,e,L.trans (r.trans q),?_⟩ ((U5 ..).trans (U5 ..)))⟩;rw[hd2];simp[Y6]
theorem JC{it S P:Addr}{i n c:Nat}{o op:Obj}{es:Array (Int×X0)}{t:Yx}{ps:Array X0}{R:Nat}{Q:Option X0->X2->Prop}(T:A.handled=none)
  (u:SIt s.heap it S (.ref P) i n c)(z:s.heap.get? S=some o)(g:o.data=.set es c t)(L:t.fits es.size=true)(U:es.size=n)
  (f:s.heap.get? P=some op)(q:op.data=.seq ps R)
  (h1:∀v,ps[i]?=some v->∃(p:Nat) (e:Int×X0),v=.int p 0/\es[p]?=some e/\∀h',SIt h' it S (.ref P) (i+1) n c->U2 it s.heap h'->Q (some e.2) {s with heap:=h'})
  (h2:ps[i]?=none->∀h',Cc it s.heap h'->Q none {s with heap:=h'}):
  X3 (X6 prog w) A (pyNext (.ref it)) Q E s:=by
 obtain⟨Z,j,r,l⟩:=id u;unfold pyNext;refine X1 (wpAny_attempt (BN (name:=Yi "__next__") u.typeIs slot_setiter_next
  (Zf slot_setiter_next u.typeIs Jy ?_ (Jz _))))
 show X3 _ _ (fieldsOf (.ref it)>>= _) _ _ s;refine X1 (wpAny_fieldsOf j l ?_);show X3 _ _ (setEntries S >>= _) _ _ s;refine X1 (wpAny_setEntries_of z g L ?_);simp only[U,bne_self_eq_false,Yn,if_false];refine X1 (m:=seqItems? _) (wpAny_seqItems f q ?_);simp only[YR];cases N:ps[i]? with
 |none=>
  dsimp only;obtain⟨O,y,d,hd1⟩:=CW j l 0 (Y6 0);refine X1 (Vn j l (by simp) ?_)
  refine X1 (Vn y hd1 (by simp) ?_)
  refine JA (s:=s) (it:=it) T ?_ (h2 N);exact Heap.SameBut.extBut (Heap.SameBut.trans (U5 _ _ _) (U5 _ _ _))
 |some v=>
  obtain⟨p,e,rfl,W,Y⟩:=h1 v N;dsimp only;refine X1 ?_;unfold setNextDrawn;refine X1 (Wh z g L ?_);simp only[YR,bne_self_eq_false,Yn,if_false,W];obtain⟨k,x⟩:=e;refine X9 ?_;obtain⟨O,y,d,hd1⟩:=CW j l 1 (Y6 ((i:Int)+1));refine X1 (Vn j l (by simp) ?_)
  refine X9 ⟨x,rfl,X9 (Y _ ⟨O,y,d.trans r,?_⟩ (U5 ..))⟩;rw[hd1];simp[Y6]
theorem JD{first:X0}(j:SIt s.heap it S first i n ep)(h:Q (.ref it) s):
  X3 (X6 prog w) A (pyIter (.ref it)) Q E s:=by
 refine wpAny_pyIter_slot j.typeIs Jx (Zf Jx j.typeIs _92 ?_ (_9F _));show X3 _ _ (ret (.ref it)) _ _ s;exact X9 ⟨_,rfl,"set_iterator",_,j.typeIs,slot_setiter_next.lookup,h⟩
theorem SIt.at{first:X0}(x:SIt h it S first i n ep)(e:∀o,h.get? it=some o->h'.get? it=some o):SIt h' it S first i n ep:=
 let⟨o,ho,r⟩:=x;⟨o,e _ ho,r⟩
theorem _pm(P:A.handled=none){I S:Addr}{n c:Nat}{o:Obj}{es:Array (Int×X0)}{t:Yx}{vs:List X0}{Good:Nat->Nat->Prop}(p:S≠I)
  (m:o.data=.set es c t)(R:t.fits es.size=true)(T:es.size=n)(hw:w.params.followText "set-order"=true\/(es.size<=1/\t.led=true))
  (U:∀i u,Good i u->(i<n->∃x L,Nx w S es c t u i=some (x,L)/\vs[i]?=some x/\Good (i+1) L)/\(i=n->Nx w S es c t u i=none)):
  Walks prog w A I [I,S] [I] n (λi v=>vs[i]?=some v) (λi h=>∃u,Good i u/\SIt h I S (.int (u:Nat) 0) i n c/\h.get? S=some o)where
 sub:=λb y=>by simp at y;simp[y]
 frame:=λ_ _ _ st W=>let⟨u,g,j,l⟩:=st;⟨u,g,j.at λo e=>W I (by simp) o e,W S (by simp) _ l⟩
 item:=λi s Q E Z st d=>by
  obtain⟨u,g,j,l⟩:=st;obtain⟨x,L,f,B,C⟩:=(U i u g).1 Z;refine JB P j l m R T hw (λD N q r Y O=>?_) (λq=>by rw[f]at q;simp at q)
  rw[f]at q;simp only[Cp,Prod.mk.injEq]at q;obtain⟨rfl,rfl⟩:=q;exact d _ r s.toks B ⟨_,C,Y,(O.2 S p).trans l⟩ λb o y e=>(O.2 b (λz=>y (by simp[z]))).trans e
 done:=λs Q E st d=>by
  obtain⟨u,g,j,l⟩:=st;have f:=(U n u g).2 rfl;refine JB P j l m R T hw (λD N q r Y O=>by rw[f]at q;simp at q) (λ_ r a=>d r s.toks λb o y e=>a b o (λz=>y (by simp[z])) e)
 self:=λ_ _ _ _ st d=>let⟨_,_,j,_⟩:=st;JD j d
theorem _pl(N:A.handled=none){I S P:Addr}{n O U:Nat}{o op:Obj}{es:Array (Int×X0)}{t:Yx}{js:List Nat}{vs:List X0}(c:S≠I)(f:P≠I)
  (m:o.data=.set es O t)(R:t.fits es.size=true)(T:es.size=n)(g:op.data=.seq (js.map λi:Nat=>Y6 i).toArray U)
  (B:js.length=n)(W:∀(i:Nat)(j:Nat),js[i]?=some j->∃e,es[j]?=some e/\vs[i]?=some e.2):
  Walks prog w A I [I,S,P] [I] n (λi v=>vs[i]?=some v) (λi h=>SIt h I S (.ref P) i n O/\h.get? S=some o/\h.get? P=some op)where
 sub:=λb y=>by simp at y;simp[y]
 frame:=λ_ _ _ st r=>⟨st.1.at λo e=>r I (by simp) o e,r S (by simp) _ st.2.1,r P (by simp) _ st.2.2⟩
 item:=λi s Q E C st d=>by
  refine JC N st.1 st.2.1 m R T st.2.2 g (λv u=>?_) (λq=>?_)
  .simp only[List.getElem?_toArray,Xr,Em]at u;obtain⟨j,l,rfl⟩:=u;obtain⟨e,Y,u⟩:=W i j l;exact⟨j,e,rfl,Y,λp Z L=>d _ p s.toks u ⟨Z,(L.2 S c).trans st.2.1,(L.2 P f).trans st.2.2⟩ λb o y e=>(L.2 b (λz=>y (by simp[z]))).trans e⟩
  .simp at q;lia
 done:=λs Q E st d=>by
  refine JC N st.1 st.2.1 m R T st.2.2 g (λv u=>?_) (λ_ p a=>d p s.toks λb o y e=>a b o (λz=>y (by simp[z])) e)
  simp only[List.getElem?_toArray,Xr,Em]at u;obtain⟨j,l,rfl⟩:=u;rw[Zi (by lia)]at l
  simp at l
 self:=λ_ _ _ _ st d=>JD st.1 d
theorem _ko{z:Type}(es:Array z){js:List Nat}(y:js.Perm (Xs es.size)):
  ∃ys:List z,ys.Perm es.toList/\ys.length=js.length/\∀(i:Nat)(j:Nat),js[i]?=some j->∃e,es[j]?=some e/\ys[i]?=some e:=by
 have l:∀j∈js,j<es.size:=λj u=>Z3.mp (y.mem_iff.mp u);refine⟨js.filterMap λj=>es[j]?,(y.filterMap _).trans (by rw[filterMap_getElem?_range]),?_⟩
 clear y
 induction js with
 |nil=>exact⟨rfl,λi j h=>by simp at h⟩
 |cons j js m=>
  have u:=l j Yb;obtain⟨g,d⟩:=m λk c=>l k (XS _ c);rw[List.filterMap_cons_some (b:=es[j]) (by simp[u])]
  refine⟨by simp[g],λi k h=>?_⟩
  cases i with
  |zero=>
   simp at h;subst h;exact⟨es[j],by simp[u],rfl⟩
  |succ i=>
   simp at h;obtain⟨e,f,q⟩:=d i k h;exact⟨e,f,by simpa using q⟩
def Zt7(prog:Xw)(w:Xn)(zs:List Str)(j:Heap)(S I:Addr)(h':Heap):Prop:=
 ∃(u:List Addr) (n:Nat) (l:List X0) (St:Nat->Heap->Prop),
  (∀y:Xz,y.handled=none->Walks prog w y I u [I] n (λi v=>l[i]?=some v) St)/\St 0 h'/\l.length=n/\(l.map txt).Perm zs/\(∀v∈l,∃t,v=XF (txt v) t)/\
  (∀b∈u,b=S\/j.objs.size<=b)/\j.objs.size<=I
theorem JE(h:p.size=1)(j:Nat):CC p j=if p[0]'(by lia)<j then 1 else 0:=by
 obtain⟨l⟩:=p
 match l,h with
 |[a],_=>
  show(if 0<1 then(if(#[a]:Array Nat).getD ((0+1)/2) j<j then Iu #[a] j 0 ((0+1)/2+1) 1 else Iu #[a] j 0 0 ((0+1)/2))else 0)=if a<j then 1 else 0;rw[if_pos (by lia)]
  rfl
theorem _iu{S:Addr}{o:Obj}{zs:List Str}{Q:X0->X2->Prop}(q:s.heap.get? S=some o)(hS:WSet prog w o zs)
  (hQ:∀(I:Addr)(h':Heap)d,Zt7 prog w zs s.heap S I h'->(∀b o,s.heap.get? b=some o->h'.get? b=some o)->Q (.ref I) {s with heap:=h',drawn:=d}):
  X3 (X6 prog w) A (pyIter (.ref S)) Q E s:=by
 obtain⟨hex,u,U,t,B,hel,hp,W,L,C,hpl⟩:=id hS;have hT:s.TypeIs (.ref S) "set":=⟨o,q,hex.1⟩;have D:S<s.heap.objs.size:=Xv q;have hsz:u.size=zs.length:=by rw[<-hp.length_eq,Xb,Yv]
 have N:∀e∈u.toList,∃t,e.2=XF (txt e.2) t:=λe g=>by
  obtain⟨⟨k,hk,_⟩,_⟩:=hel e g;obtain⟨t,ht⟩:=isT.mp hk;exact⟨t,by rw[ht];rfl⟩
 have hsl:sizeLine=16777216:=by decide
 have hsb:scanBound=4096:=rfl;refine wpAny_pyIter_slot hT F.slot_set_iter (Zf F.slot_set_iter hT _cJ ?_ (F.args_set_iter_1 _));show X3 _ _ (Im S >>= _) _ _ s;refine X1 (m:=Im S) (X1 (wpAny_setEntries_of q B L (X9 ?_)));refine X1 (m:=setDrawn S) ?_;unfold setDrawn;refine X1 (Wh q B L ?_);refine X1 (m:=setsByText) (X1 (Wi (X9 (X9 ?_))));show X3 _ _ (if(!w.params.followText "set-order"&&(!t.plain&&decide (u.size>1)))=true then _ else _) _ _ _;have rest:∀(first:X0)(l:X2)(R:Fin->X2->Prop),l.heap.get? S=some o->
   R (.done (.ret (.ref l.heap.objs.size))) {l with heap:=l.heap.push {cls:=.type "set_iterator",data:=.fields #[first,.int 0 0,.ref S,.int (u.size:Nat) 0,.int U 0]} }->
   X3 (X6 prog w) A.in1 (do let e<- setEpoch S;let v<- newFields "set_iterator" [first,Y6 0,.ref S,Y6 (u.size:Nat),Y6 e];ret v) R E l:=by
  intro first l R O h
  refine X1 (wpAny_setEpoch_of O B L ?_);exact X1 (ZZ (X9 h))
 have y:∀(Good:Nat->Nat->Prop)(Y:List X0),Good 0 0->Y.length=u.size->(Y.map txt).Perm zs->(∀v∈Y,∃t,v=XF (txt v) t)->
   (w.params.followText "set-order"=true\/(u.size<=1/\t.led=true))->
   (∀i c,Good i c->(i<u.size->∃x nx,Nx w S u U t c i=some (x,nx)/\Y[i]?=some x/\Good (i+1) nx)/\(i=u.size->Nx w S u U t c i=none))->
   ∀(l:X2),l=s->X3 (X6 prog w) A.in1 (do let e<- setEpoch S;let v<- newFields "set_iterator" [Y6 0,Y6 0,.ref S,Y6 (u.size:Nat),Y6 e];ret v)
    (fun fin s'=>∃v,fin=Fin.done (Flow.ret v)/\∃T' r,s'.TypeIs v T'/\Vj (.type T') "__next__"=pure (some r)/\Q v s') E l:=by
  intro Good Y g0 hlv hpv hsv hw hg l G;subst G;refine rest _ _ _ q ⟨_,rfl,"set_iterator",_,⟨_,XR _ rfl,rfl⟩,slot_setiter_next.lookup,?_⟩;refine hQ _ _ l.drawn ⟨[l.heap.objs.size,S],u.size,Y,_,λA' hh=>_pm hh (XB D) B L rfl hw hg,⟨0,g0,⟨_,XR _ rfl,rfl,rfl⟩,Xq _ q⟩,hlv,hpv,hsv,λb W=>?_,Xf _⟩ λb o e=>Xq _ e;simp only[Xl,XI,or_false]at W;rcases W with rfl|rfl
  .exact .inr (Xf _)
  .exact .inl rfl
 by_cases hbt:w.params.followText "set-order"=true
 .rw[hbt];simp only[VD,Ws,Yn,if_false];refine X1 (X9 ?_);have f:=_iY (w.params.setOrder S U) u;refine y (λ_ _=>True) ((pickOrder (w.params.setOrder S U) u).toList.map (·.2)) trivial ?_ ?_ ?_ (.inl hbt) ?_ s rfl
  .rw[Xb,f.length_eq,Yv]
  .rw[Yu];exact(f.map _).trans hp
  .intro v J;obtain⟨e,g,rfl⟩:=XT.mp J;exact N e (f.mem_iff.mp g)
  .intro i c _;have hps:(pickOrder (w.params.setOrder S U) u).size=u.size:=by rw[<-Yv,f.length_eq,Yv]
   unfold Nx;rw[if_pos hbt];refine⟨λhi=>?_,λhi=>?_⟩
   .rw[UY (by lia)]
    exact⟨_,_,rfl,by simp[hps,hi],trivial⟩
   .rw[Ec (by lia)]
    rfl
 .have M:w.params.followText "set-order"=false:=by simpa using hbt
  have hlt:t.led=true:=by rw[C,M];rfl
  rw[M];simp only[Cm,Cn];by_cases h1:u.size>1
  .have hz:zs≠ []:=λz=>by rw[z,E2]at hsz;lia
   rw[hpl hz,decide_eq_true h1];simp only[Cm,Bool.and_self,if_true];refine X1 (_n6 _ _ _ _ (by simp) λZ d hj=>?_)
   obtain⟨ys,X,hy2,hy3⟩:=_ko u hj;have H:Z.length=u.size:=by rw[hj.length_eq,Uq]
   refine X1 (wpAny_newTuple ?_ (by rw[Xb];lia))
   refine rest _ _ _ (Xq _ q) ⟨_,rfl,"set_iterator",_,⟨_,XR _ rfl,rfl⟩,slot_setiter_next.lookup,?_⟩;have n:s.heap.objs.size≠(s.heap.push {cls:=.type "tuple",data:=.seq (Z.map fun i:Nat=>Y6 i).toArray}).objs.size:=by rw[Zo];lia
   have a:S≠(s.heap.push {cls:=.type "tuple",data:=.seq (Z.map fun i:Nat=>Y6 i).toArray}).objs.size:=by rw[Zo];exact XB (Uu D)
   have p:s.heap.objs.size<=(s.heap.push {cls:=.type "tuple",data:=.seq (Z.map fun i:Nat=>Y6 i).toArray}).objs.size:=by rw[Zo];lia
   refine hQ _ _ d ⟨[_,S,s.heap.objs.size],u.size,ys.map (·.2),_,λA' hh=>_pl hh (S:=S) (P:=s.heap.objs.size) (o:=o) (js:=Z)
    (op:={cls:=.type "tuple",data:=.seq (Z.map fun i:Nat=>Y6 i).toArray}) a n B L rfl rfl H ?_,
    ⟨⟨_,XR _ rfl,rfl,rfl⟩,Xq _ (Xq _ q),Xq _ (XR _ rfl)⟩,?_,?_,?_,λb W=>?_,?_⟩
    λb o e=>Xq _ (Xq _ e)
   .intro i j hij;obtain⟨e,g,hy⟩:=hy3 i j hij;exact⟨e,g,by rw[Xr,hy];rfl⟩
   .rw[Xb,hy2,H]
   .rw[Yu];exact(X.map _).trans hp
   .intro v J;obtain⟨e,g,rfl⟩:=XT.mp J;exact N e (X.mem_iff.mp g)
   .simp only[Xl,XI,or_false]at W;rcases W with rfl|rfl|rfl
    .exact .inr p
    .exact .inl rfl
    .exact .inr (Xf _)
   .exact p
  .rw[decide_eq_false h1];simp only[Wt,Yn,if_false];refine X1 (X9 ?_);have hfp:t.place.size=u.size:=by
    simp only[SetTable.fits,XY,beq_iff_eq,decide_eq_true_eq]at L;exact L.1
   refine y (λi c=>(i=0->c=0)/\(i=1->∃h:0<t.place.size,c=t.place[0]+1)) (u.toList.map (·.2)) ⟨λ_=>rfl,λz=>absurd z (by lia)⟩ (by simp) ?_ ?_ (.inr ⟨by lia,hlt⟩) ?_ s rfl
   .rw[Yu];exact hp
   .intro v J;obtain⟨e,g,rfl⟩:=XT.mp J;exact N e g
   .intro i c ⟨g0,g1⟩;unfold Nx;rw[if_neg hbt];refine⟨λhi=>?_,λhi=>?_⟩
    .have hs1:u.size=1:=by lia
     have hi0:i=0:=by lia
     subst hi0;have hpz:t.place.size=1:=by lia
     rw[g0 rfl,JE hpz,if_neg (by lia),UY (by lia),UY (by lia)]
     refine⟨_,_,rfl,?_,λz=>absurd z (by lia),λ_=>⟨by lia,rfl⟩⟩
     simp[hs1]
    .have T:u[CC t.place c]?=none:=by
      by_cases h0:u.size=0
      .exact Ec (by lia)
      .have hs1:u.size=1:=by lia
       obtain⟨hq,e⟩:=g1 (by lia)
       rw[e,JE (by lia),if_pos (by lia)]
       exact Ec (by lia)
     rw[T]
theorem _fq(hh:A.handled=none)(ho:s.heap.get? S=some o)(hS:WSet prog w o zs)
  (hQ:∀(vs:List X0)(h':Heap)(d:Drawn)(g:Array GenState)tk,(vs.map txt).Perm zs->(∀v∈vs,∃t,v=XF (txt v) t)->(∀b o,s.heap.get? b=some o->h'.get? b=some o)->g=s.gens->s.heap.objs.size<=h'.objs.size->
   Q vs {s with heap:=h',drawn:=d,gens:=g,toks:=tk}):X3 (X6 prog w) A (collect (.ref S)) Q E s:=by
 obtain⟨R,es,ep,t,hd,hel,hp,T,hf,hled,hpl⟩:=id hS;have J:S<s.heap.objs.size:=Xv ho;have hsl:sizeLine=16777216:=by decide
 have hsb:scanBound=4096:=rfl;have hsz:es.size=zs.length:=by rw[<-hp.length_eq,Xb,Yv]
 unfold collect;refine X1 (wpAny_runValue (Z9 F.entry_proto_collect ?_));rw[Zq F.plain_proto_collect _];show X3 _ A.in1 (newList [] >>= fun l=>again (.builtin "list.__iadd__" ⟨[l,.ref S],[]⟩)) _ _ s;refine X1 (ZZ ?_);refine X9 ⟨Zg F.plain_list_iadd _,Z9 F.entry_list_iadd ?_⟩;rw[Zq F.plain_list_iadd _];show X3 _ A.in1 (Ii (.ref s.heap.objs.size) (.ref S) (.ref s.heap.objs.size)) _ _ _;have U:s.heap.objs.size≠S:=(XB J).symm;generalize hL:s.heap.objs.size=L at*;have M:(s.heap.push {cls:=.type "list",data:=.seq ([]:List X0).toArray}).get? L=some {cls:=.type "list",data:=.seq ([]:List X0).toArray}:=by
  rw[<-hL];exact XR _ rfl
 have r:(s.heap.push {cls:=.type "list",data:=.seq ([]:List X0).toArray}).get? S=some o:=Xq _ ho;have f:(s.heap.push {cls:=.type "list",data:=.seq ([]:List X0).toArray}).objs.size=L+1:=by rw[Zo,hL]
 have Y:∀b u,s.heap.get? b=some u->b≠L/\(s.heap.push {cls:=.type "list",data:=.seq ([]:List X0).toArray}).get? b=some u:=fun b u e=>
  ⟨by rw[<-hL];exact XB (Xv e),Xq _ e⟩
 generalize s.heap.push {cls:=.type "list",data:=.seq ([]:List X0).toArray}=h₁ at*;have hT:WB {s with heap:=h₁} (.ref S) "set":=⟨o,r,R.1⟩;unfold Ii;refine X1 (ZB hT ?_);have e1:Ij (.ref L) (.ref S)=false:=by simp[Ij,U]
 have e2:(XD "set"==XD "list")=false:=by decide
 have e3:(XD "set"==XD "tuple")=false:=by decide
 simp only[e1,e2,e3,Bool.or_false,Yn,if_false];refine X1 (_iu (s:={s with heap:=h₁}) r hS λI j d hW hk=>?_);obtain⟨fp,n,vs,St,X,H,x,Z,h,a,hI⟩:=hW;have p:∀b u,h₁.get? b=some u->j.get? b=some u:=hk;have N:WB {s with heap:=j,drawn:=d} (.ref S) "set":=⟨o,p _ _ r,R.1⟩;refine X1 (YN ?_);unfold Builtin.List.listLengthHint;refine X1 (wpAny_specialOf N F.slot_set_len.lookup ?_);have hsp:splitId "set.__len__"=some ("set","__len__"):=by decide+kernel
 extract_lets j1 j2
 dsimp -zeta only;rw[hsp];dsimp -zeta only;refine X1 (Uo N sub_set_self ?_);simp only[VD,Yn,if_false];show X3 _ _ (ite (_=true) _ _) _ _ _;split
 case isFalse hs=>exact absurd (by rfl) hs
 refine X1 (ZB N ?_);refine X9 ?_;split
 case isFalse hs=>exact absurd (by rfl) hs
 refine X1 (Up ?_);refine X1 ?_;have m:j.get? L=some {cls:=.type "list",data:=.seq ([]:List X0).toArray}:=p _ _ M;show X3 _ A.in1 (updateSeq L (·.push .none)>>= λ_=>updateSeq L (·.pop)) _ _ _;refine X1 (wpAny_updateSeq m rfl ?_);have c:=UV (U7 (·.push Xt)) m rfl;refine wpAny_updateSeq c rfl ?_;have O:=UV (U7 (·.pop)) c rfl;have B:∀b o,b≠L->j.get? b=some o->((j.update L (U7 (·.push Xt))).update L (U7 (·.pop))).get? b=some o:=
  λb o T e=>(Vz _ _ (XM T)).trans ((Vz _ _ (XM T)).trans e)
 have C:L∉fp:=λz=>by
  rcases a L z with e|e
  .exact U e
  .have:L+1<=L:=f▸e;lia
 have hin:A.in1.handled=none:=by simp[hh]
 have W:=(X A.in1 hin).toS;have hn:n<=sizeLine:=by
  have:n=zs.length:=by rw[<-x,<-Z.length_eq,Xb]
  lia
 refine X9 ⟨Zg F.plain_extend_loop _,codeAny_extend_loopS W hn L C _ n 0 _ _ _ rfl (YA _)
  (W.frame 0 ({s with heap:=j,drawn:=d}:X2) _ s.toks H (Xf _) λb T o e=>B b o (λz=>C (z▸T)) e) O (ItemsOf.nil _) λs' y c' G D q=>?_⟩
 show X3 _ A (load L >>= _) _ _ s';refine X1 (Vh D ?_);have hav:y.toList=vs:=by
  refine BY λi=>?_;by_cases hi:i<y.size
  .have e:=q.2 i y[i] (by simp[hi])
   rw[e];simp[hi]
  .rw[Zi (by simp;lia),Zi (by have:=q.1;lia)]
 obtain⟨h',g',d',tk',os'⟩:=s';have eg:g'=s.gens:=G.gens;have ed:d'=d:=G.drawn;have eo:os'=s.os:=G.os;subst ed;subst eo;refine X9 ?_;show Q y.toList _;rw[hav];refine hQ vs h' _ g' tk' Z h (λb u e=>?_) eg (Cg (Xv D));have P:=Y b u e;refine G.heap b u ?_ (B b u P.1 (p b u P.2));simp only[Xl,XI,or_false,not_or];refine⟨P.1,λz=>?_⟩;have h1:L+1<=I:=Y4 (Wr f.symm) hI;have h2:b<L:=by rw[<-hL];exact Xv e
 rw[z]at h2;exact absurd h1 (Nat.not_le_of_lt (Uu h2))
theorem _fY(Y:A.handled=none)(Z:s.heap.get? S=some o)(B:WSet prog w o zs)(h64:zs.length<64)
  (h:∀(p:Addr)(h':Heap)(d:Drawn)tk (out:List X0)(q:List Str)(e:Nat),s.heap.objs.size<=p->(∀b o,s.heap.get? b=some o->h'.get? b=some o)->h'.get? p=some (seqObj "list" out.toArray e)->
   StrsAre out q->q.Perm zs->sortedS q=true->Q (.ref p) {s with heap:=h',drawn:=d,toks:=tk}):
  X3 (X6 prog w) A (call (.builtin "sorted") [.ref S]) Q E s:=by
 refine Calls.call_function_entry kind_sorted plain_sorted entry_sorted (args_sorted1 _) ?_;unfold Builtin.«sorted»;refine X1 (m:=checkCount "sorted" 1 1 _) (X9 ?_);have C:sizeLine=16777216:=by decide
 refine X1 (_fq (by simp[Y]) Z B λl j d g tk P R D F r=>?_)
 subst F;have i:l.length=zs.length:=by rw[<-P.length_eq,Xb]
 refine X1 (wpAny_newList ?_ (by lia))
 have u:(j.push (seqObj "list" l.toArray 0)).get? j.objs.size=some (seqObj "list" l.toArray 0):=XR _ rfl;have y:StrsAre l (l.map strOf):=strsAre_map l λv L=>by obtain⟨t,e⟩:=R v L;exact⟨_,t,e⟩
 have N:l.map strOf=l.map txt:=List.map_congr_left λv L=>by obtain⟨t,e⟩:=R v L;rw[e];rfl
 show X3 _ _ _ _ _ {s with heap:=j.push (seqObj "list" l.toArray 0),drawn:=d,toks:=tk};refine X1 (YN (Zf slot_list_sort ⟨_,u,rfl⟩ entry_list_sort (list_sort_treeK strKind_oneLt u y.keysOf (λT U rest e=>keyKind_strs (by rw[<-e];exact y)) (by lia) λz G I=>⟨_,rfl,?_⟩) (args_list_sort _)))
 obtain⟨O,J,W,M⟩:=sorted_out_str y G I;refine X9 ⟨_,rfl,?_⟩;obtain⟨e,X⟩:=sortedHeap_at (out:=(arrOf z).map (·.2)) u;refine h j.objs.size _ d tk ((arrOf z).map (·.2)).toList O e r (λb o H=>?_) (by rw[Array.toArray_toList];exact X) J (by rw[N]at W;exact W.trans P) M
 have c:=D b o H;have f:b<j.objs.size:=Xv c;rw[sortedHeap_old (XB f) (by rw[size_push'];exact Uu f)]
 exact Xq _ c
end
theorem Inv.drew(I:Inv X pq σ H s)(d:Drawn):Inv X pq σ H {s with drawn:=d}:=
 ⟨I.ok,I.os,I.bare,I.base,I.loc,I.cell,I.free,I.freeC,I.pin,I.hok,I.len⟩
theorem few{zs:List Str}(j:zs.Nodup):∀(N:List Str),(∀z∈zs,z∈N)->zs.length<=N.length:=by
 induction zs with
 |nil=>intro N _;exact YA _
 |cons z zs w=>
  intro N h;rw[YI]at j;have m:=h z Yb;have l:=List.perm_cons_erase m;have:=w j.2 (N.erase z) λy u=>by
   have:=l.mem_iff.mp (h y (XS _ u));rcases Xl.mp this with e|e
   .exact absurd (e▸u) j.1
   .exact e
  have g:=l.length_eq;simp only[Yl]at g ⊢;lia
theorem JF:∀{vs:List X0} {j:List Str},StrsAre vs j->Vals (j.map V.str) vs
 |_,_,.nil=>.nil
 |_,_,.cons x t h=>.cons ⟨t,rfl⟩ (JF h)
def WO(X:Cx)(f g:X0)(r:V->Hp->VK->Prop):Prop:=
 ∀(j:List (Addr×Obj))(s:X2)(l:St)(H:Hp)(x:V)(u:X0)(Q:VK),Inv X j l H s->RelV x u->r x H Q->
  X3 (X6 X.prog X.w) X.A (call g [u]) (λv w=>X3 (X6 X.prog X.w) X.A (call f [v]) (EP X j l Q) X.xe w) X.xe s
section
variable{X:Cx}
theorem EE{x y:Str}{id T:String}{r:V->Hp->VK->Prop}{e:Expr}{t:TE}{p p' pos pos':Pos}(L:WO X (.builtin id) (.type T) r)
  (N:Gl X x)(O:X.mg x=none)(P:YH x=some (.builtin id))(w:Gl X y)(z:X.mg y=none)(m:YH y=some (.type T))(R:PE X e t)
  (U:x≠"__name__")(g:(x==("__debug__":Str))=false)(d:y≠"__name__")(j:(y==("__debug__":Str))=false)
  (f:XC [e] X.env=(false,eval e X.env)::XC [] X.env):
  PE X (.Call (.Name x p) [.Call (.Name y p') [e] [] pos'] [] pos) (λl H Q=>t l H λv c=>r v c Q):=by
 intro q s l H Q I h;refine Um (UA I N O P ?_ U g);refine HK ?_ rfl rfl;show X3 _ _ (spliced ((false,eval (.Call (.Name y p') [e] [] pos') X.env)::Y2 pos (XC [] X.env))) _ _ s;refine Wy ?_;refine Um (UA I w z m ?_ d j);refine Wx ?_ f rfl;rw[f];show X3 _ _ (spliced ((false,eval e X.env)::Y2 pos' (XC [] X.env))) _ _ s;refine Wy (thn (R q s l H _ I h) λu W ⟨v,c,Y,Z,A⟩=>?_);refine Wz ?_;exact thn (L q W l c v u Q Y Z A) λC D B=>Wz B
theorem _kg(g:X.calm=true):WO X (.builtin "sorted") (.type "set") (fun x H Q=>∃(a:Addr) (xs N:List Str),x=.ref a/\SqL X.K H a (xs.map V.str)/\xs.length+1<scanBound/\(∀z∈xs,z∈N)/\N.length<64/\
  ∀p (ys:List Str),H p=none->ys.Nodup->(∀y,y∈ys↔y∈xs)->sortedS ys=true->Q (.ref p) (upd H p (.lst (ys.map V.str)))):=by
 intro pq s σ H x u Q I rx h;obtain⟨a,xs,N,rfl,ha,L,J,O,q⟩:=h;cases rx;obtain⟨m,M,p,Z⟩:=I.list ha;have S:=I.ok.hd g;have P:m.length=xs.length:=by rw[<-M.length,Xb]
 have R:m.toArray.size=xs.length:=by simp[P]
 have hi:∀(i:Nat)(v:X0),m.toArray[i]?=some v->∃t,v=XF (xs.getD i ⟨#[]⟩) t:=λi v hv=>by
  have T:m[i]?=some v:=by simpa using hv
  have U:i<xs.length:=by rw[<-P];exact(XE.mp T).1
  obtain⟨u,n,ru⟩:=M.get (i:=i) (x:=V.str xs[i]) (by simp[U])
  rw[T]at n;cases n;obtain⟨t,rfl⟩:=ru;exact⟨t,by simp[Wo,U]⟩
 have w:∀y,y∈met (λi=>xs.getD i ⟨#[]⟩) xs.length↔y∈xs:=λy=>by
  rw[Jt,List.mem_iff_getElem];constructor
  .rintro⟨j,W,rfl⟩;exact⟨j,W,by simp[Wo,W]⟩
  .rintro⟨j,W,rfl⟩;exact⟨j,W,by simp[Wo,W]⟩
 refine _kh (f:=λi=>xs.getD i ⟨#[]⟩) S p.isList hi (by rw[R];exact L) λh1 Y o ho hS hk=>?_
 rw[R]at hS;have I1:Inv X pq σ H {s with heap:=h1,toks:=Y}:=I.kept λb u e=>hk b u (Xv e) e;have A:=Js (λi=>xs.getD i ⟨#[]⟩) xs.length;refine _fY (s:={s with heap:=h1,toks:=Y}) S ho hS (Ce (few A N λz Z=>J z ((w z).mp Z)) O) λB h2 d C out D e hp E F G l c=>?_;have r:D.length<=sizeLine:=by
  have hsl:sizeLine=16777216:=by decide
  have:=few A N λz Z=>J z ((w z).mp Z);rw[l.length_eq];lia
 have I2:=(I1.laid (a:=B) (t':=C) (h':=h2) (o:=.lst (D.map V.str)) (λb u e=>E b u e) hp
  ⟨by rw[Xb];exact r,out,e,JF G,F⟩).drew d
 exact⟨.ref B,_,I2,rfl,q B D (I1.hok.fresh hp) (l.nodup_iff.mpr A) (λy=>(l.mem_iff).trans (w y)) c⟩
end
theorem _f7:Vj (.type "list") "keys"=pure none:=by rw[Vl,Vm];kernel_rfl
theorem _f8:Vj (.type "list") "__getattr__"=pure none:=by rw[Vl,Vm];kernel_rfl
theorem VU:isSubtype (.type "AttributeError") (.type "AttributeError")=pure true:=by rw[isSubtype_type];kernel_rfl
section
variable{prog:Xw}{w:Xn}{A:Xz}{E:X0->X2->Prop}{h:Heap}{g:Array GenState}{d:Drawn}{t:Nat}{os:OsState}{a:Addr}{its:Array X0}{n:Nat}
theorem _hW(c:h.get? a=some (seqObj "list" its n))(f:A.handled=none)
  (q:∀e h' t',(∀b o,h.get? b=some o->h'.get? b=some o)->(∃o,h'.get? e=some o/\o.cls=.type "AttributeError")->E (.ref e) ⟨h',g,d,t',os⟩):
  X3 (X6 prog w) A (Builtin.«object.__getattribute__» ⟨[.ref a,.str "keys" tk],[]⟩) Q E ⟨h,g,d,t,os⟩:=by
 have L:(⟨h,g,d,t,os⟩:X2).TypeIs (.ref a) "list":=⟨_,c,rfl⟩;have N:=_f7;unfold Builtin.«object.__getattribute__»
 repeat (any_goals (first|assumption|wp_step))
 have l:¬(Yi (toString "'"++toString ((VL "list").elim "list" fun x=>x.tpName)++toString "' object has no attribute '")++Yi "keys"++Yi "'").length>sizeLine:=by decide+kernel
 generalize(Yi (toString "'"++toString ((VL "list").elim "list" fun x=>x.tpName)++toString "' object has no attribute '")++Yi "keys"++Yi "'")=msg at l ⊢;unfold raiseAttrError;refine X1 ?_;unfold mkStr;rw[if_neg l]
 repeat (any_goals (first|assumption|wp_step))
 show X3 _ _ (isSubtype (.type "AttributeError") (.type "AttributeError")) _ _ _;rw[VU];generalize(if((VL "AttributeError").elim false fun t=>t.mro.contains "StopIteration"||t.mro.contains "SystemExit")=true then [XF msg t].headD Xt else Xt)=fm;refine X9 ?_;simp only[VD,Yn,if_false];have j:((h.push {cls:=XD "tuple",data:=YY #[XF msg t]}).push {cls:=XD "AttributeError",data:=U6 (#[Xo h.objs.size,Xt,Xt,Xt,Yc false,fm]++YX (XD "AttributeError") [XF msg t])}).get? (h.push {cls:=XD "tuple",data:=YY #[XF msg t]}).objs.size=some {cls:=XD "AttributeError",data:=U6 (#[Xo h.objs.size,Xt,Xt,Xt,Yc false,fm]++YX (XD "AttributeError") [XF msg t])}:=XR _ rfl;have r:(#[Xo h.objs.size,Xt,Xt,Xt,Yc false,fm]++YX (XD "AttributeError") [XF msg t])[6]?=some (.int 0 0):=rfl;have p:(#[Xo h.objs.size,Xt,Xt,Xt,Yc false,fm]++YX (XD "AttributeError") [XF msg t])[7]?=some (.int 0 0):=rfl;have u:∀b o,h.get? b=some o->((h.push {cls:=XD "tuple",data:=YY #[XF msg t]}).push {cls:=XD "AttributeError",data:=U6 (#[Xo h.objs.size,Xt,Xt,Xt,Yc false,fm]++YX (XD "AttributeError") [XF msg t])}).get? b=some o/\b<(h.push {cls:=XD "tuple",data:=YY #[XF msg t]}).objs.size:=fun b o e=>
  ⟨Xq _ (Xq _ e),by rw[Zo];exact Uu (Xv e)⟩
 generalize(h.push {cls:=XD "tuple",data:=YY #[XF msg t]}).objs.size=ea at*;generalize((h.push {cls:=XD "tuple",data:=YY #[XF msg t]}).push {cls:=XD "AttributeError",data:=U6 (#[Xo h.objs.size,Xt,Xt,Xt,Yc false,fm]++YX (XD "AttributeError") [XF msg t])})=h2 at*;generalize hvs:#[Xo h.objs.size,Xt,Xt,Xt,Yc false,fm]++YX (XD "AttributeError") [XF msg t]=m at*;refine X1 (Vh j ?_);dsimp only;rw[r,p];simp only[VE,Yn,if_false];rw[if_neg (by decide)]
 refine X9 ?_;simp only[if_true];have y:(⟨h2,g,d,t+1+1,os⟩:X2).TypeIs (.ref ea) "AttributeError":=⟨_,j,rfl⟩;refine X1 (Up ?_);refine X1 (ZB y ?_);dsimp only;unfold layMembers;refine X1 (Vh j ?_);dsimp only;refine wpAny_update j ?_;unfold raiseNew;refine X1 (wpAny_handled ?_);rw[f];show X3 _ _ (throw (Xo ea)) _ _ _;have z:=UV (El fun m=>m.extract 0 6++#[XF (Yi "keys") (t+1),Xo a]) j (Ej (CD rfl _));refine wpAny_throw (q ea _ _ (λb o e=>?_) ⟨_,z,Ek ..⟩);have:=u b o e;exact(Vz _ _ (UW this.2)).trans this.1
theorem _ol(l:h.get? a=some (seqObj "list" its n))(y:A.handled=none)
  (z:∀e h' t',(∀b o,h.get? b=some o->h'.get? b=some o)->(∃o,h'.get? e=some o/\o.cls=.type "AttributeError")->E (.ref e) ⟨h',g,d,t',os⟩):
  X3 (X6 prog w) A (getAttrBy (.ref a) (.str "keys" tk) false) Q E ⟨h,g,d,t,os⟩:=by
 have m:(⟨h,g,d,t,os⟩:X2).TypeIs (.ref a) "list":=⟨_,l,rfl⟩;have c:=Cz.lookup;have f:=Cz.bind (.ref a)
 repeat (any_goals (first|assumption|wp_step))
 refine Wg Cz.plain F.entry_list_ga (Cz.check _ _ _ _ _ _ _ _ m (F.args_list_getattribute_2 _ _) (_hW l (by simp[y]) λe h' t' k u=>?_))
 have j:(⟨h',g,d,t',os⟩:X2).TypeIs (.ref e) "AttributeError":=u;show X3 _ _ (BS _ _ _ _ _ _ _) _ _ _;unfold BS;refine X1 (Uo j VU ?_);simp only[if_true];unfold hookBehind onTheHeap;simp only[Yn,if_false];rw[_f8];refine X1 (X9 ?_);unfold hookOrError attributeErrorLeaves;simp only[Cm,if_true];exact X1 (wpAny_throw (z e h' t' k u))
theorem _jh(l:s.heap.get? a=some (seqObj "list" its n))(u:A.handled=none)
  (y:∀h' t',(∀b o,s.heap.get? b=some o->h'.get? b=some o)->Q none {s with heap:=h',toks:=t'}):X3 (X6 prog w) A (getAttr? (.ref a) "keys") Q E s:=by
 obtain⟨h,g,d,t,os⟩:=s;unfold getAttr? getAttrBy? mkText;refine X1 (X1 (wpAny_fresh (X9 ?_)));refine X1 (wpAny_attempt (_ol l u λe h' t' k z=>?_));have j:(⟨h',g,d,t',os⟩:X2).TypeIs (.ref e) "AttributeError":=z;refine X1 (Uo j VU ?_);simp only[if_true];exact X9 (y h' t' k)
end
theorem JG:entryFor table "dict.update.loop"=some Builtin.«dict.update.loop»:=entryFor_of_tree (by kernel_rfl)
theorem WP:plainId "dict.update.loop"=true:=by decide+kernel
section
variable{prog:Xw}{w:Xn}{A:Xz}{E:X0->X2->Prop}{s:X2}{K:Type} [DecidableEq K] {knd:KeyKind prog w K}
noncomputable def stTo(ks:Nat->K)(vs:Nat->X0):Nat->List (K×X0)
 |0=>[]
 |i+1=>stored (stTo ks vs i) (ks i) (vs i)
theorem _fR(j:List (K×X0))(k:K)(v:X0):(stored j k v).length<=j.length+1:=by
 unfold stored;split<;>simp
theorem CY(ks:Nat->K)(vs:Nat->X0):∀i,(stTo ks vs i).length<=i
 |0=>Xf _
 |i+1=>Y4 (_fR _ _ _) (E9 (CY ks vs i))
theorem JH{St:Nat->X2->Prop}
  (W:WalksS prog w A.in1 I fp wr G n P St)(D:Addr)(L:D∉fp)(ks:Nat->K)(vs:Nat->X0)(f:n<=sizeLine):
  ∀(k i:Nat)(s:X2),n - i=k->i<=n->St i s->s.heap.DictOf knd D (stTo ks vs i)->
   (∀j v,P j v->∃q y C p,v=.ref q/\q≠D/\q∉wr/\s.heap.get? q=some p/\p.cls=.type "tuple"/\p.data=.seq #[y,vs j] C/\knd.is (ks j) y=true)->
   (∀l,Moved (D::wr) G s l->l.heap.DictOf knd D (stTo ks vs n)->R (.ok (.ret .none)) l)->
   YW (X6 prog w) A (.builtin "dict.update.loop" ⟨[.ref D,.ref I,Y6 (i:Nat),.none],[]⟩) R s:=by
 have N:D∉wr:=λh=>L (W.sub _ h);have u:∀b∈wr,b∈D::wr:=λb f=>XS _ f;intro k
 induction k with
 |zero=>
  intro i s hk hi g F J M;have Q:i=n:=by lia
  subst Q;refine Z9 JG ?_;rw[Zq WP _];show X3 _ A.in1 (pyNext (.ref I)>>= _) _ _ s;refine X1 (W.done s _ _ g λl d=>?_);refine X1 (m:=Builtin.Dict.addKeywords D []) (X9 ?_);refine X9 (M l (d.mono u) ?_);obtain⟨o,S,X,H,r⟩:=F;exact⟨o,S,X,d.heap D _ N H,r⟩
 |succ k ih=>
  intro i s hk hi g F J M;have O:i<n:=by lia
  refine Z9 JG ?_;rw[Zq WP _];show X3 _ A.in1 (pyNext (.ref I)>>= _) _ _ s;refine X1 (W.item i s _ _ O g λv l hP T d=>?_);obtain⟨q,y,C,p,rfl,hqD,x,hq,a,hqd,U⟩:=J i v hP;have Y:=d.heap q _ x hq;have hd':l.heap.DictOf knd D (stTo ks vs i):=by
   obtain⟨o,S,X,H,r⟩:=F;exact⟨o,S,X,d.heap D _ N H,r⟩
  have hT:l.TypeIs (.ref q) "tuple":=⟨_,Y,a⟩;show X3 _ A.in1 (Z6 [Xo q] _ >>= _) _ _ l;refine X1 (YN ?_);refine X1 (wpAny_tryCatch ?_);unfold Builtin.Dict.pairItems;refine X1 (ZB hT ?_);have e2:(XD "tuple"==XD "tuple")=true:=rfl;rw[e2,Bool.or_true,if_pos rfl];refine X1 (wpAny_seqItems Y hqd (X9 ?_));show X3 _ A.in1 (Z6 [y,vs i] (dictSet D y (vs i))) _ _ l;refine YN ?_;have hl:=CY ks vs i;refine wpAny_dictSet_pairs (knd:=knd) U hd' (λh' hd2 c=>?_) (by lia)
  refine X9 ⟨Zg WP _,?_⟩;have:=ih (i+1) {l with heap:=h',toks:=l.toks+1} (by lia) O (W.frame _ l _ _ T (Uw _) λb f o e=>?_) hd2 (λj v hPj=>?_) λs'' Z B=>?_
  .exact this
  .rw[c.2 b (λz:b=D=>L (by rw[<-z];exact f))];exact e
  .obtain⟨q,y,C,p,rfl,a1,a2,a3,a4⟩:=J j v hPj;exact⟨q,y,C,p,rfl,a1,a2,(c.2 q a1).trans (d.heap q _ a2 a3),a4⟩
  .refine M s'' (Moved.trans W.gtrans ((d.mono u).then_heap (Uw _) λb o f e=>?_) Z) B;rw[c.2 b (λz:b=D=>f (by rw[z];exact Yb))];exact e
theorem _ij{items:Array X0}(B:A.handled=none)(C:s.heap.get? l=some (seqObj "list" items nl))(M:items.size<=sizeLine)
  (S:∀(j:Nat)v,items[j]?=some v->∃q P T c,v=.ref q/\s.heap.get? q=some c/\c.cls=.type "tuple"/\c.data=.seq #[P,vs j] T/\knd.is (ks j) P=true)
  (h:∀h' tk,h'.DictOf knd s.heap.objs.size (stTo ks vs items.size)->(∀b o,b<s.heap.objs.size->s.heap.get? b=some o->h'.get? b=some o)->Q (.ref s.heap.objs.size) {s with heap:=h',toks:=tk}):
  X3 (X6 prog w) A (call (.type "dict") [.ref l]) Q E s:=by
 refine callType_codes (Q₁:=fun f m=>f=.ref s.heap.objs.size/\m={s with heap:=s.heap.push {cls:=.type "dict",data:=.dict #[]} }) F.kt_called_dict (F.kt_typeCall_dict_1 _) F.entry_dict_init (kt_code_dict_new _ ⟨rfl,rfl⟩) ?_;rintro f m ⟨rfl,rfl⟩;have u:(s.heap.push {cls:=.type "dict",data:=.dict #[]}).DictOf knd s.heap.objs.size []:=Ep s.heap;have g:(s.heap.push {cls:=.type "dict",data:=.dict #[]}).get? l=some (seqObj "list" items nl):=Xq _ C;have X:WB {s with heap:=s.heap.push {cls:=.type "dict",data:=.dict #[]} } (.ref l) "list":=⟨_,g,rfl⟩;refine⟨u.typeIs,F.args_dict_init_2 _ _,?_⟩;unfold Builtin.«dict.__init__»;refine X1 ?_;unfold HV;refine X1 (BQ u.typeIs ?_);show X3 _ _ (pure (s.heap.objs.size,[Xo l])) _ _ _;refine X9 ?_;show X3 _ _ (Cw "dict.__init__" s.heap.objs.size (.ref l) [] .none) _ _ _;unfold Cw;refine X1 (ZB X ?_);rw[if_pos (by decide)]
 refine X1 (_jh (s:={s with heap:=s.heap.push {cls:=.type "dict",data:=.dict #[]} }) g (by simp[B]) fun d H z=>?_)
 simp only[Option.isNone_none,if_true];refine X1 (Up ?_);have U:d.get? l=some (seqObj "list" items nl):=z _ _ g;have p:d.IsList l items:=⟨_,U,rfl,nl,rfl⟩;have L:l<s.heap.objs.size:=Xv C;have y:s.heap.objs.size<d.objs.size:=by
  obtain⟨o,D,G,W,_⟩:=u;exact Xv (z _ _ W)
 refine X1 (BR (s:={s with heap:=d,toks:=H}) p ?_);have N:l≠d.objs.size:=XB (UX L y);refine X9 ⟨Zg WP _,?_⟩;refine JH (knd:=knd) (n:=items.size) ((Walks.list (A:=A.in1.in1) (by simp[B]) d.objs.size l N items).toS) s.heap.objs.size ?_ ks vs M items.size 0 _ rfl (YA _)
  ⟨⟨_,XR _ rfl,rfl,rfl⟩,p.push _⟩ ?_ ?_ ?_
 .simp only[Xl,XI,or_false,not_or];exact⟨XB y,UW L⟩
 .obtain⟨o,D,G,W,r⟩:=u;exact⟨o,D,G,Xq _ (z _ _ W),r⟩
 .intro j v i;obtain⟨q,P,T,c,rfl,I,x⟩:=S j v i;have O:q<s.heap.objs.size:=Xv I;refine⟨q,P,T,c,rfl,XB O,?_,Xq _ (z _ _ (Xq _ I)),x⟩;simp only[Y1];exact XB (UX O y)
 .intro a R hd;obtain⟨h',g',d',Y,Z⟩:=a;have eg:g'=s.gens:=R.gens;have ed:d'=s.drawn:=R.drawn;have eo:Z=s.os:=R.os;subst eg;subst ed;subst eo;refine⟨rfl,h h' Y hd λb o J e=>?_⟩;refine R.heap b o ?_ (Xq _ (z _ _ (Xq _ e)));simp only[Xl,XI,or_false,not_or];exact⟨XB J,XB (UX J y)⟩
end
def EF(H:Hp):List (Key×V)->List V->Prop:=Paired fun(p:Key×V) (v:V)=>∃q,v=.ref q/\H q=some (.tup [kV p.1,p.2])
def ZL(ps:List (Key×V)):List (Key×V):=ps.foldl (λc z=>putK c z.1 z.2) []
theorem Paired.at{l j:Type}{R:l->j->Prop}:∀{xs:List l} {ys:List j},Paired R xs ys->∀(i:Nat)(y:j),ys[i]?=some y->∃x,xs[i]?=some x/\R x y
 |_,_,.nil,i,y,h=>by simp at h
 |_,_,.cons r _,0,y,h=>by simp at h;subst h;exact⟨_,rfl,r⟩
 |_,_,.cons _ t,i+1,y,h=>by simp at h;obtain⟨x,u,r⟩:=Paired.at t i y h;exact⟨x,by simpa using u,r⟩
section
variable{X:Cx}
theorem _ii(f:X.calm=true):YC X (.type "dict") (fun xs H Q=>∃(a:Addr) (ps:List (Key×V)) (W:List V),xs=[.ref a]/\H a=some (.lst W)/\EF H ps W/\∀p,H p=none->Q (.ref p) (upd H p (.dK (ZL ps)))):=by
 intro pq s σ H xs us Q I r h;obtain⟨a,ps,W,rfl,ha,C,q⟩:=h;obtain⟨u,rfl,ru⟩:=_r r;cases ru;obtain⟨G,l,nl,D,hl⟩:=(show ObjOk X.prog X.w H s.heap a (.lst W)from I.hok a _ ha);have hh:=I.ok.hd f;have R:l.length=ps.length:=by rw[<-D.length,C.length]
 have g:∀(j:Nat)v,l.toArray[j]?=some v->∃q d Y O m,v=.ref q/\s.heap.get? q=some m/\m.cls=.type "tuple"/\m.data=.seq #[d,Y] O/\∃p,ps[j]?=some p/\RelV (kV p.1) d/\RelV p.2 Y:=fun j v T=>by
  have L:l[j]?=some v:=by simpa using T
  obtain⟨y,hy,ry⟩:=Paired.at D j v L;obtain⟨p,w,q,rfl,hq⟩:=Paired.at C j y hy;cases ry;obtain⟨_,ts,rt,ht⟩:=(show ObjOk X.prog X.w H s.heap q (.tup [kV p.1,p.2])from I.hok q _ hq);obtain⟨d,Y,rfl,Z,A⟩:=VP rt;obtain⟨m,ho,hc,n,B⟩:=ht.1;exact⟨q,d,Y,n,m,rfl,ho,hc,B,p,w,Z,A⟩
 obtain⟨P,U⟩:∃P:Nat->X0,∀(j:Nat)v,l.toArray[j]?=some v->∃q d O m,v=.ref q/\s.heap.get? q=some m/\m.cls=.type "tuple"/\m.data=.seq #[d,P j] O/\∃p,ps[j]?=some p/\RelV (kV p.1) d/\RelV p.2 (P j):=by
  refine⟨λj=>if h:j<l.length then(g j l[j] (by simp[h])).choose_spec.choose_spec.choose else .none,λj v T=>?_⟩
  have L:l[j]?=some v:=by simpa using T
  obtain⟨J,rfl⟩:=XE.mp L;dsimp only;rw[dif_pos J];have z:=(g j l[j] (by simp[J]))
  exact⟨z.choose,z.choose_spec.choose,z.choose_spec.choose_spec.choose_spec⟩
 refine _ij (knd:=YB X.prog X.w) (ks:=λj=>(ps.getD j (.inl 0,.non)).1) (vs:=P) hh hl (by simpa [<-D.length]using G) (λj v T=>?_) λh' tk B hk=>?_
 .obtain⟨q,d,O,m,M,S,x,e4,p,w,Z,A⟩:=U j v T;refine⟨q,d,O,m,M,S,x,e4,UB ?_⟩;rw[Ya,w];exact Z
 have kv:∀i,i<=ps.length->KV ((ps.take i).foldl (λc z=>putK c z.1 z.2) []) (stTo (λj=>(ps.getD j (.inl 0,.non)).1) P i):=by
  intro i
  induction i with
  |zero=>intro _;exact .nil
  |succ i ih=>
   intro hi;have E:i<l.length:=by lia
   obtain⟨q,d,O,m,M,S,x,e4,p,w,Z,A⟩:=U i l[i] (by simp[E])
   rw[Zk,w,En,DW];show KV (putK _ p.1 p.2) (stored _ (ps.getD i (.inl 0,.non)).1 _);have ek:(ps.getD i (.inl 0,.non)).1=p.1:=by rw[Ya,w];rfl
   rw[ek];exact(ih (by lia)).put p.1 A
 have N:=kv ps.length (Xf _);rw[C2]at N;have F:l.toArray.size=ps.length:=by simp[R]
 rw[F]at B;have hpl:ps.length<=sizeLine:=by rw[C.length];exact G
 have zl:(ZL ps).length<=sizeLine:=by
  have:=N.length;have l2:=CY (λj=>(ps.getD j (.inl 0,.non)).1) P ps.length;unfold ZL;lia
 exact⟨.ref s.heap.objs.size,_,I.laid (a:=s.heap.objs.size) (o:=.dK (ZL ps)) (t':=tk) (λb u e=>hk b u (Xv e) e) (Xf _) (WK zl (beq_eq_false_iff_ne.mpr (XM (XB I.big))) N B),rfl,q _ (I.hok.fresh (Xf _))⟩
theorem _kp:∀(bs:List Bool),((Xs bs.length).all λi=>bs.getD i true)=bs.all id:=by
 intro bs;have e:(Xs bs.length).map (λi=>bs.getD i true)=bs:=by
  refine C1 (by simp) λi l j=>?_
  simp[Wo,j]
 conv=>rhs;rw[<-e]
 rw[List.all_map]
 rfl
theorem _kn(l:X.calm=true):YC X (.builtin "all") (fun xs H Q=>∃(a:Addr) (bs:List Bool),xs=[.ref a]/\SqL X.K H a (bs.map V.bl)/\Q (.bl (bs.all id)) H):=by
 intro Y s Z H xs A Q I r h;obtain⟨a,bs,rfl,N,q⟩:=h;obtain⟨u,rfl,m⟩:=_r r;cases m;obtain⟨j,f,p,B⟩:=I.list N;have O:=I.ok.hd l;have w:j.length=bs.length:=by rw[<-f.length,Xb]
 have g:∀(i:Nat)(v:X0),j.toArray[i]?=some v->v=.bool (bs.getD i true):=λi v P=>by
  have y:j[i]?=some v:=by simpa using P
  have z:i<bs.length:=by rw[<-w];exact(XE.mp y).1
  obtain⟨u,L,m⟩:=f.get (i:=i) (x:=V.bl bs[i]) (by simp[z])
  rw[y]at L;cases L;rw[show v=.bool bs[i]from m];simp[Wo,z]
 have d:a<s.heap.objs.size:=by obtain⟨o,n,e,_⟩:=p;exact Xv e
 refine PySem.call_all_walk (BR p.isList ⟨_,_,_,_,_,_,λi=>bs.getD i true,rfl,Walks.list (by simp[O]) _ a (XB d) j.toArray,⟨⟨_,XR _ rfl,rfl,rfl⟩,p.isList.push _⟩,?_,λC R T=>?_⟩)
 .intro i v s Q E U W;rw[g i v U];exact Zy W
 .have c:j.toArray.size=bs.length:=by simp[w]
  rw[c,_kp];refine⟨.bl _,H,I.kept (t':=R) λb o e=>?_,rfl,q⟩;exact T b o (by simp only[Y1];exact XB (Xv e)) (Xq _ e)
end
noncomputable def Its(x:Str):It:=⟨λi _=>i<x.cps.size,λi H v j=>j=H/\∃c,x.cps[i]?=some c/\v=.str ⟨#[c]⟩,λi _=>x.cps.size<=i⟩
theorem _iq{K:X4}(it:Addr)(x:Str)(t:Tok):Turn P w K tg (Its x) [it] it (fun i h=>h.IsStrIter it "str_ascii_iterator" x t i)where
 mem:=by simp
 obj:=λi h st b l=>by
  have e:b=it:=by simpa using l
  subst e;obtain⟨o,e,c,d⟩:=st;exact⟨o,e,λv z=>by rw[d]at z;cases z⟩
 keep:=λi h y st k=>by
  obtain⟨o,e,c,d⟩:=st;exact⟨o,k it (by simp) o e,c,d⟩
 item:=by
  intro X g f q R i T s U H E I m st j;subst g f q;have j:i<x.cps.size:=j;obtain⟨r,p,W,L,N,O⟩:=m it (by simp)
  refine wpAny_pyNext_ascii_item st (c:=x.cps[i]) (by simp[j]) λy u Y=>?_
  have Z:Inv X T U H {s with heap:=y,toks:=s.toks+1}:=I.turned (λb o l e=>(Y.2 b l).trans e) r p L N O;obtain⟨o,e,c,d⟩:=id u;exact⟨_,rfl,WD (s:={s with heap:=y,toks:=s.toks+1}) e c d (by decide) ⟨.str ⟨#[x.cps[i]]⟩,H,Z,⟨_,rfl⟩,⟨rfl,_,by simp[j],rfl⟩,u,λb l=>(m b l).1⟩⟩
 done:=by
  intro X g f q R i T s U H E I m st j;subst g f q;have j:x.cps.size<=i:=j;obtain⟨r,p,W,L,N,O⟩:=m it (by simp)
  exact wpAny_pyNext_ascii_end (I.ok.hd R) st (by simp[j]) λy A=>⟨rfl,I.turned (t':=s.toks) (λb o l e=>A b o l e) r p L N O⟩
 self:=λ_ _ _ _ _ st h=>wpAny_pyIter_striter_ascii st h
theorem _ip{K:X4}(it:Addr)(x:Str)(t:Tok):Turn P w K tg (Its x) [it] it (fun i h=>h.IsStrIter it "str_iterator" x t i)where
 mem:=by simp
 obj:=λi h st b l=>by
  have e:b=it:=by simpa using l
  subst e;obtain⟨o,e,c,d⟩:=st;exact⟨o,e,λv z=>by rw[d]at z;cases z⟩
 keep:=λi h y st k=>by
  obtain⟨o,e,c,d⟩:=st;exact⟨o,k it (by simp) o e,c,d⟩
 item:=by
  intro X g f q R i T s U H E I m st j;subst g f q;have j:i<x.cps.size:=j;obtain⟨r,p,W,L,N,O⟩:=m it (by simp)
  refine wpAny_pyNext_wide_item st (c:=x.cps[i]) (by simp[j]) λy u Y=>?_
  have Z:Inv X T U H {s with heap:=y,toks:=s.toks+1}:=I.turned (λb o l e=>(Y.2 b l).trans e) r p L N O;obtain⟨o,e,c,d⟩:=id u;exact⟨_,rfl,WD (s:={s with heap:=y,toks:=s.toks+1}) e c d (by decide) ⟨.str ⟨#[x.cps[i]]⟩,H,Z,⟨_,rfl⟩,⟨rfl,_,by simp[j],rfl⟩,u,λb l=>(m b l).1⟩⟩
 done:=by
  intro X g f q R i T s U H E I m st j;subst g f q;have j:x.cps.size<=i:=j;obtain⟨r,p,W,L,N,O⟩:=m it (by simp)
  exact wpAny_pyNext_wide_end (I.ok.hd R) st (by simp[j]) λy A=>⟨rfl,I.turned (t':=s.toks) (λb o l e=>A b o l e) r p L N O⟩
 self:=λ_ _ _ _ _ st h=>wpAny_pyIter_striter_wide st h
section
variable{X:Cx}{pq:List (Addr×Obj)}{σ:St}{H:Hp}{s:X2}
theorem _nG{t:Tok}(I:Inv X pq σ H s)(q:R (Its x) H):X3 (X6 X.prog X.w) X.A (pyIter (.str x t)) (PIE X pq σ tg R) E s:=by
 have j:∀b∈ [s.heap.objs.size],FpOk X pq H b:=λb u=>by
  have e:b=s.heap.objs.size:=by simpa using u
  subst e;exact I.fpOk (Xf _) (I.hok.fresh (Xf _))
 cases l:x.cps.all (·<128)
 .exact wpAny_pyIter_wide l ⟨s.heap.objs.size,[s.heap.objs.size],_,_,H,rfl,I.kept (t':=s.toks) λb o e=>Xq _ e,_ip _ x t,⟨_,XR _ rfl,rfl,rfl⟩,j,q⟩
 .exact wpAny_pyIter_ascii l ⟨s.heap.objs.size,[s.heap.objs.size],_,_,H,rfl,I.kept (t':=s.toks) λb o e=>Xq _ e,_iq _ x t,⟨_,XR _ rfl,rfl,rfl⟩,j,q⟩
def ZsH(X:Cx)(u:TE):TI:=λσ H R=>u σ H λx j=>(∃a,x=.ref a/\((∃l,SqL X.K j a l/\R (Itl X.K a) j)\/(∃l,SqT X.K j a l/\R (Itt X.K a) j)\/False))\/
 ∃z,x=.str z/\R (Its z) j
theorem _nH{tg l:Expr}{g:TE}(f:PE X l g):PI X tg l (ZsH X g):=by
 intro pq s σ H R I h;refine thn (f pq s σ H _ I h) λv j ⟨x,d,u,c,r⟩=>?_;rcases r with⟨a,e,q⟩|⟨z,e,q⟩
 .subst e;cases c;rcases q with⟨L,y,q⟩|⟨L,y,q⟩|q
  .obtain⟨w,N,p,O⟩:=u.list y;refine BR p.isList ?_;refine⟨j.heap.objs.size,[j.heap.objs.size],_,_,d,rfl,u.kept (t':=j.toks) λb o e=>Xq _ e,TL a _,⟨_,XR _ rfl,rfl,rfl⟩,λb m=>?_,q⟩;have e:b=j.heap.objs.size:=by simpa using m
   subst e;exact u.fpOk (Xf _) (u.hok.fresh (Xf _))
  .obtain⟨w,N,p,O⟩:=u.tuple y;refine wpAny_pyIter_tuple (show j.heap.IsTuple a w.toArray from p) ?_;refine⟨j.heap.objs.size,[j.heap.objs.size],_,_,d,rfl,u.kept (t':=j.toks) λb o e=>Xq _ e,TM a _,⟨_,XR _ rfl,rfl,rfl⟩,λb m=>?_,q⟩;have e:b=j.heap.objs.size:=by simpa using m
   subst e;exact u.fpOk (Xf _) (u.hok.fresh (Xf _))
  .exact q.elim
 .subst e;obtain⟨t,rfl⟩:=c;exact _nG u q
theorem _gl(j:∀i,v≠.builtin i)(h:Q (.bool (v==.bool b)) s):X3 M A (XZ .Is v (.bool b)) Q E s:=by
 cases v<;>first|exact X9 h|exact absurd rfl (j _)
theorem _cD(j:∀i,v≠.builtin i)(h:Q (.bool (!(v==.bool b))) s):X3 M A (XZ .IsNot v (.bool b)) Q E s:=by
 cases v<;>first|exact X9 h|exact absurd rfl (j _)
theorem JI(r:RelV x v):∀i,v≠.builtin i:=λi e=>by
 subst e;cases x<;>first|(cases r;done)|(obtain⟨t,e⟩:=r;cases e)
set_option tactic.hygienic true in
theorem JJ(r:RelV x v):decide (x=.bl b)=(v==Yc b):=by
 cases x<;>first
  |(cases r;rename_i c;cases b<;>cases c<;>rfl)
  |(cases r;rfl)
  |(obtain⟨t,rfl⟩:=r;rfl)
theorem _nV:OpR X (XZ .Is) (λx y H Q=>∃b,y=.bl b/\Q (.bl (decide (x=.bl b))) H):=by
 intro pq s σ H x y v u Q I j l h;obtain⟨b,rfl,q⟩:=h;cases l;exact _gl (JI j) (XH I q (JJ j))
theorem _lk:OpR X (XZ .IsNot) (λx y H Q=>∃b,y=.bl b/\Q (.bl (!decide (x=.bl b))) H):=by
 intro pq s σ H x y v u Q I j l h;obtain⟨b,rfl,q⟩:=h;cases l;exact _cD (JI j) (XH I q (by rw[JJ j]))
theorem _hZ{t:X0}(I:Inv X pq σ H s)(w:RelV x u)(ty:TyOf X.K H x t)(e:UU X.K t c=some b)(R:UU X.K t d=some b')
  (j:s.heap.get? tp=some ⟨.type "tuple",dd,.seq [c,d].toArray n,sl⟩)(h:∀tk,Q (.bool (b||b')) {s with toks:=tk}):X3 (X6 X.prog X.w) A (call (.builtin "isinstance") [u,.ref tp]) Q E s:=by
 have m:Ca X.K t [c,d]=some (b||b'):=by
  unfold Ca;rw[e];cases b with
  |true=>rfl
  |false=>
   show Ca X.K t [d]=some b';unfold Ca;rw[R];cases b'<;>rfl
 cases ty with
 |non=>cases(show u=Xt from w);exact Zn PySem.W.kitx_none I.kIn Yw j m (λz=>nomatch z) h
 |bl y=>cases(show u=Yc y from w);exact Zn PySem.W.kitx_bool I.kIn Yw j m (λz=>nomatch z) h
 |int i=>obtain⟨t,q⟩:=(show∃t,u=VF i t from w);cases q;exact Zn PySem.W.kitx_int I.kIn Yw j m (λz=>nomatch z) h
 |str y=>obtain⟨t,q⟩:=(show∃t,u=XF y t from w);cases q;exact Zn PySem.W.kitx_str I.kIn Yw j m (λz=>nomatch z) h
 |flt y=>obtain⟨t,q⟩:=(show∃t,u=Co y t from w);cases q;exact Zn PySem.W.kitx_float I.kIn Yw j m (λz=>nomatch z) h
 | @lst a r l=>
  cases(show u=Xo a from w);obtain⟨_,_,n,_,g⟩:=(show ObjOk X.prog X.w H s.heap a (.lst r)from I.hok a _ l);exact Zn C6 I.kIn ⟨_,g,rfl⟩ j m (λz=>nomatch z) h
 | @frz a T r l=>
  cases(show u=Xo a from w);obtain⟨_,_,_,n,_,g⟩:=(show ObjOk X.prog X.w H s.heap a (.frz T (.lst r))from I.hok a _ l);exact Zn C6 I.kIn ⟨_,g,rfl⟩ j m (λz=>nomatch z) h
 | @tup a r l=>
  cases(show u=Xo a from w);obtain⟨_,_,_,p⟩:=(show ObjOk X.prog X.w H s.heap a (.tup r)from I.hok a _ l);obtain⟨o,g,L,_⟩:=p.1;exact Zn PySem.W.kitx_tuple I.kIn ⟨o,g,L⟩ j m (λz=>nomatch z) h
 | @dK a f l=>
  cases(show u=Xo a from w);obtain⟨_,_,D,_,p⟩:=(show ObjOk X.prog X.w H s.heap a (.dK f)from I.hok a _ l);obtain⟨o,U,W,g,L,_⟩:=p;exact Zn C7 I.kIn ⟨o,g,L.1⟩ j m (λz=>nomatch z) h
 | @dT a f l=>
  cases(show u=Xo a from w);obtain⟨_,_,r,_,o,U,W,g,L,_⟩:=(show ObjOk X.prog X.w H s.heap a (.dT f)from I.hok a _ l);exact Zn C7 I.kIn ⟨o,g,L.1⟩ j m (λz=>nomatch z) h
 | @ins a C F fs l P Y Z N B=>
  cases(show u=Xo a from w);obtain⟨G,O,_⟩:=WE I.hok l;obtain⟨M,J,_⟩:=O.look;exact Zn (PySem.W.kitx_own (P.get _) P.hd Y Z N B) I.kIn J j m (λz=>nomatch z) h
theorem _fE:YC X (.builtin "isinstance") (fun xs H Q=>∃x a c d t b j,xs=[x,.ref a]/\H a=some (.tup [.ty c,.ty d])/\TyOf X.K H x t/\UU X.K t (.type c)=some b/\UU X.K t (.type d)=some j/\Q (.bl (b||j)) H):=by
 intro pq s σ H xs Z Q I r h;obtain⟨x,a,c,d,t,b,j,rfl,m,ty,e,g,q⟩:=h;obtain⟨u,A,rfl,f,l⟩:=VP r;cases l;obtain⟨L,N,p,_⟩:=I.tuple (SqT.of (K:=X.K) m);obtain⟨⟨O,B,w,C⟩,P,y,n,z⟩:=id p;simp only at y z;subst y z;cases N with
 |cons R T=>
  cases T with
  |cons U W=>
   cases W;cases R;cases U;exact _hZ I f ty e g P λY=>⟨.bl (b||j),H,I.tok Y,rfl,q⟩
end
section
variable{X:Cx}
end
theorem _dS:Vj (.type "tuple") "keys"=pure none:=by rw[Vl,Vm];kernel_rfl
theorem _dT:Vj (.type "tuple") "__getattr__"=pure none:=by rw[Vl,Vm];kernel_rfl
section
variable{prog:Xw}{w:Xn}{A:Xz}{E:X0->X2->Prop}{h:Heap}{g:Array GenState}{d:Drawn}{t:Nat}{os:OsState}{a:Addr}{its:Array X0}{n:Nat}{sl:Array (Option X0)}
theorem _gf(c:h.get? a=some (⟨.type "tuple",none,.seq its n,sl⟩))(f:A.handled=none)
  (q:∀e h' t',(∀b o,h.get? b=some o->h'.get? b=some o)->(∃o,h'.get? e=some o/\o.cls=.type "AttributeError")->E (.ref e) ⟨h',g,d,t',os⟩):
  X3 (X6 prog w) A (Builtin.«object.__getattribute__» ⟨[.ref a,.str "keys" tk],[]⟩) Q E ⟨h,g,d,t,os⟩:=by
 have L:(⟨h,g,d,t,os⟩:X2).TypeIs (.ref a) "tuple":=⟨_,c,rfl⟩;have N:=_dS;unfold Builtin.«object.__getattribute__»
 repeat (any_goals (first|assumption|wp_step))
 have l:¬(Yi (toString "'"++toString ((VL "tuple").elim "tuple" fun x=>x.tpName)++toString "' object has no attribute '")++Yi "keys"++Yi "'").length>sizeLine:=by decide+kernel
 generalize(Yi (toString "'"++toString ((VL "tuple").elim "tuple" fun x=>x.tpName)++toString "' object has no attribute '")++Yi "keys"++Yi "'")=msg at l ⊢;unfold raiseAttrError;refine X1 ?_;unfold mkStr;rw[if_neg l]
 repeat (any_goals (first|assumption|wp_step))
 show X3 _ _ (isSubtype (.type "AttributeError") (.type "AttributeError")) _ _ _;rw[VU];generalize(if((VL "AttributeError").elim false fun t=>t.mro.contains "StopIteration"||t.mro.contains "SystemExit")=true then [XF msg t].headD Xt else Xt)=fm;refine X9 ?_;simp only[VD,Yn,if_false];have j:((h.push {cls:=XD "tuple",data:=YY #[XF msg t]}).push {cls:=XD "AttributeError",data:=U6 (#[Xo h.objs.size,Xt,Xt,Xt,Yc false,fm]++YX (XD "AttributeError") [XF msg t])}).get? (h.push {cls:=XD "tuple",data:=YY #[XF msg t]}).objs.size=some {cls:=XD "AttributeError",data:=U6 (#[Xo h.objs.size,Xt,Xt,Xt,Yc false,fm]++YX (XD "AttributeError") [XF msg t])}:=XR _ rfl;have r:(#[Xo h.objs.size,Xt,Xt,Xt,Yc false,fm]++YX (XD "AttributeError") [XF msg t])[6]?=some (.int 0 0):=rfl;have p:(#[Xo h.objs.size,Xt,Xt,Xt,Yc false,fm]++YX (XD "AttributeError") [XF msg t])[7]?=some (.int 0 0):=rfl;have u:∀b o,h.get? b=some o->((h.push {cls:=XD "tuple",data:=YY #[XF msg t]}).push {cls:=XD "AttributeError",data:=U6 (#[Xo h.objs.size,Xt,Xt,Xt,Yc false,fm]++YX (XD "AttributeError") [XF msg t])}).get? b=some o/\b<(h.push {cls:=XD "tuple",data:=YY #[XF msg t]}).objs.size:=fun b o e=>
  ⟨Xq _ (Xq _ e),by rw[Zo];exact Uu (Xv e)⟩
 generalize(h.push {cls:=XD "tuple",data:=YY #[XF msg t]}).objs.size=ea at*;generalize((h.push {cls:=XD "tuple",data:=YY #[XF msg t]}).push {cls:=XD "AttributeError",data:=U6 (#[Xo h.objs.size,Xt,Xt,Xt,Yc false,fm]++YX (XD "AttributeError") [XF msg t])})=h2 at*;generalize hvs:#[Xo h.objs.size,Xt,Xt,Xt,Yc false,fm]++YX (XD "AttributeError") [XF msg t]=m at*;refine X1 (Vh j ?_);dsimp only;rw[r,p];simp only[VE,Yn,if_false];rw[if_neg (by decide)]
 refine X9 ?_;simp only[if_true];have y:(⟨h2,g,d,t+1+1,os⟩:X2).TypeIs (.ref ea) "AttributeError":=⟨_,j,rfl⟩;refine X1 (Up ?_);refine X1 (ZB y ?_);dsimp only;unfold layMembers;refine X1 (Vh j ?_);dsimp only;refine wpAny_update j ?_;unfold raiseNew;refine X1 (wpAny_handled ?_);rw[f];show X3 _ _ (throw (Xo ea)) _ _ _;have z:=UV (El fun m=>m.extract 0 6++#[XF (Yi "keys") (t+1),Xo a]) j (Ej (CD rfl _));refine wpAny_throw (q ea _ _ (λb o e=>?_) ⟨_,z,Ek ..⟩);have:=u b o e;exact(Vz _ _ (UW this.2)).trans this.1
theorem _ly(l:h.get? a=some (⟨.type "tuple",none,.seq its n,sl⟩))(y:A.handled=none)
  (z:∀e h' t',(∀b o,h.get? b=some o->h'.get? b=some o)->(∃o,h'.get? e=some o/\o.cls=.type "AttributeError")->E (.ref e) ⟨h',g,d,t',os⟩):
  X3 (X6 prog w) A (getAttrBy (.ref a) (.str "keys" tk) false) Q E ⟨h,g,d,t,os⟩:=by
 have m:(⟨h,g,d,t,os⟩:X2).TypeIs (.ref a) "tuple":=⟨_,l,rfl⟩;have c:=Cy.lookup;have f:=Cy.bind (.ref a)
 repeat (any_goals (first|assumption|wp_step))
 refine Wg Cy.plain F.entry_tuple_ga (Cy.check _ _ _ _ _ _ _ _ m (F.args_tuple_getattribute_2 _ _) (_gf l (by simp[y]) λe h' t' k u=>?_))
 have j:(⟨h',g,d,t',os⟩:X2).TypeIs (.ref e) "AttributeError":=u;show X3 _ _ (BS _ _ _ _ _ _ _) _ _ _;unfold BS;refine X1 (Uo j VU ?_);simp only[if_true];unfold hookBehind onTheHeap;simp only[Yn,if_false];rw[_dT];refine X1 (X9 ?_);unfold hookOrError attributeErrorLeaves;simp only[Cm,if_true];exact X1 (wpAny_throw (z e h' t' k u))
theorem _hX(l:s.heap.get? a=some (⟨.type "tuple",none,.seq its n,sl⟩))(u:A.handled=none)
  (y:∀h' t',(∀b o,s.heap.get? b=some o->h'.get? b=some o)->Q none {s with heap:=h',toks:=t'}):X3 (X6 prog w) A (getAttr? (.ref a) "keys") Q E s:=by
 obtain⟨h,g,d,t,os⟩:=s;unfold getAttr? getAttrBy? mkText;refine X1 (X1 (wpAny_fresh (X9 ?_)));refine X1 (wpAny_attempt (_ly l u λe h' t' k z=>?_));have j:(⟨h',g,d,t',os⟩:X2).TypeIs (.ref e) "AttributeError":=z;refine X1 (Uo j VU ?_);simp only[if_true];exact X9 (y h' t' k)
end
section
variable{prog:Xw}{w:Xn}{A:Xz}{E:X0->X2->Prop}{s:X2}{K:Type} [DecidableEq K] {knd:KeyKind prog w K}
theorem _ih{items:Array X0}(B:A.handled=none)(C:s.heap.get? l=some (⟨.type "tuple",none,.seq items nl,sl⟩))(M:items.size<=sizeLine)
  (S:∀(j:Nat)v,items[j]?=some v->∃q P T c,v=.ref q/\s.heap.get? q=some c/\c.cls=.type "tuple"/\c.data=.seq #[P,vs j] T/\knd.is (ks j) P=true)
  (h:∀h' tk,h'.DictOf knd s.heap.objs.size (stTo ks vs items.size)->(∀b o,b<s.heap.objs.size->s.heap.get? b=some o->h'.get? b=some o)->Q (.ref s.heap.objs.size) {s with heap:=h',toks:=tk}):
  X3 (X6 prog w) A (call (.type "dict") [.ref l]) Q E s:=by
 refine callType_codes (Q₁:=fun f m=>f=.ref s.heap.objs.size/\m={s with heap:=s.heap.push {cls:=.type "dict",data:=.dict #[]} }) F.kt_called_dict (F.kt_typeCall_dict_1 _) F.entry_dict_init (kt_code_dict_new _ ⟨rfl,rfl⟩) ?_;rintro f m ⟨rfl,rfl⟩;have u:(s.heap.push {cls:=.type "dict",data:=.dict #[]}).DictOf knd s.heap.objs.size []:=Ep s.heap;have g:(s.heap.push {cls:=.type "dict",data:=.dict #[]}).get? l=some (⟨.type "tuple",none,.seq items nl,sl⟩):=Xq _ C;have X:WB {s with heap:=s.heap.push {cls:=.type "dict",data:=.dict #[]} } (.ref l) "tuple":=⟨_,g,rfl⟩;refine⟨u.typeIs,F.args_dict_init_2 _ _,?_⟩;unfold Builtin.«dict.__init__»;refine X1 ?_;unfold HV;refine X1 (BQ u.typeIs ?_);show X3 _ _ (pure (s.heap.objs.size,[Xo l])) _ _ _;refine X9 ?_;show X3 _ _ (Cw "dict.__init__" s.heap.objs.size (.ref l) [] .none) _ _ _;unfold Cw;refine X1 (ZB X ?_);rw[if_pos (by decide)]
 refine X1 (_hX (s:={s with heap:=s.heap.push {cls:=.type "dict",data:=.dict #[]} }) g (by simp[B]) fun d H z=>?_)
 simp only[Option.isNone_none,if_true];refine X1 (Up ?_);have U:d.get? l=some (⟨.type "tuple",none,.seq items nl,sl⟩):=z _ _ g;have p:d.IsTuple l items:=⟨_,U,rfl,nl,rfl⟩;have L:l<s.heap.objs.size:=Xv C;have y:s.heap.objs.size<d.objs.size:=by
  obtain⟨o,D,G,W,_⟩:=u;exact Xv (z _ _ W)
 refine X1 (wpAny_pyIter_tuple (s:={s with heap:=d,toks:=H}) p ?_);have N:l≠d.objs.size:=XB (UX L y);refine X9 ⟨Zg WP _,?_⟩;refine JH (knd:=knd) (n:=items.size) ((Walks.tuple (A:=A.in1.in1) (by simp[B]) d.objs.size l N items).toS) s.heap.objs.size ?_ ks vs M items.size 0 _ rfl (YA _)
  ⟨⟨_,XR _ rfl,rfl,rfl⟩,p.push _⟩ ?_ ?_ ?_
 .simp only[Xl,XI,or_false,not_or];exact⟨XB y,UW L⟩
 .obtain⟨o,D,G,W,r⟩:=u;exact⟨o,D,G,Xq _ (z _ _ W),r⟩
 .intro j v i;obtain⟨q,P,T,c,rfl,I,x⟩:=S j v i;have O:q<s.heap.objs.size:=Xv I;refine⟨q,P,T,c,rfl,XB O,?_,Xq _ (z _ _ (Xq _ I)),x⟩;simp only[Y1];exact XB (UX O y)
 .intro a R hd;obtain⟨h',g',d',Y,Z⟩:=a;have eg:g'=s.gens:=R.gens;have ed:d'=s.drawn:=R.drawn;have eo:Z=s.os:=R.os;subst eg;subst ed;subst eo;refine⟨rfl,h h' Y hd λb o J e=>?_⟩;refine R.heap b o ?_ (Xq _ (z _ _ (Xq _ e)));simp only[Xl,XI,or_false,not_or];exact⟨XB J,XB (UX J y)⟩
end
section
variable{X:Cx}
theorem _gD(f:X.calm=true):YC X (.type "dict") (fun xs H Q=>∃(a:Addr) (ps:List (Key×V)) (Y:List V),xs=[.ref a]/\H a=some (.tup Y)/\EF H ps Y/\∀p,H p=none->Q (.ref p) (upd H p (.dK (ZL ps)))):=by
 intro pq s σ H xs us Q I r h;obtain⟨a,ps,Y,rfl,ha,D,q⟩:=h;obtain⟨u,rfl,ru⟩:=_r r;cases ru;obtain⟨x,l,E,⟨ol,hl,F,nl,G⟩,ol2,R,J⟩:=(show ObjOk X.prog X.w H s.heap a (.tup Y)from I.hok a _ ha);have hh:=I.ok.hd f;rw[hl]at R;cases R;obtain⟨lc,ldc,ld,lsl⟩:=ol;cases F;cases G;cases J;have T:l.length=ps.length:=by rw[<-E.length,D.length]
 have g:∀(j:Nat)v,l.toArray[j]?=some v->∃q d Z O m,v=.ref q/\s.heap.get? q=some m/\m.cls=.type "tuple"/\m.data=.seq #[d,Z] O/\∃p,ps[j]?=some p/\RelV (kV p.1) d/\RelV p.2 Z:=fun j v U=>by
  have L:l[j]?=some v:=by simpa using U
  obtain⟨y,hy,ry⟩:=Paired.at E j v L;obtain⟨p,w,q,rfl,hq⟩:=Paired.at D j y hy;cases ry;obtain⟨_,ts,rt,ht⟩:=(show ObjOk X.prog X.w H s.heap q (.tup [kV p.1,p.2])from I.hok q _ hq);obtain⟨d,Z,rfl,A,B⟩:=VP rt;obtain⟨m,ho,hc,n,C⟩:=ht.1;exact⟨q,d,Z,n,m,rfl,ho,hc,C,p,w,A,B⟩
 obtain⟨P,W⟩:∃P:Nat->X0,∀(j:Nat)v,l.toArray[j]?=some v->∃q d O m,v=.ref q/\s.heap.get? q=some m/\m.cls=.type "tuple"/\m.data=.seq #[d,P j] O/\∃p,ps[j]?=some p/\RelV (kV p.1) d/\RelV p.2 (P j):=by
  refine⟨λj=>if h:j<l.length then(g j l[j] (by simp[h])).choose_spec.choose_spec.choose else .none,λj v U=>?_⟩
  have L:l[j]?=some v:=by simpa using U
  obtain⟨hj,rfl⟩:=XE.mp L;dsimp only;rw[dif_pos hj];have z:=(g j l[j] (by simp[hj]))
  exact⟨z.choose,z.choose_spec.choose,z.choose_spec.choose_spec.choose_spec⟩
 refine _ih (knd:=YB X.prog X.w) (ks:=λj=>(ps.getD j (.inl 0,.non)).1) (vs:=P) hh hl (by simpa [<-E.length]using x) (λj v U=>?_) λh' tk C hk=>?_
 .obtain⟨q,d,O,m,e1,e2,e3,e4,p,w,A,B⟩:=W j v U;refine⟨q,d,O,m,e1,e2,e3,e4,UB ?_⟩;rw[Ya,w];exact A
 have kv:∀i,i<=ps.length->KV ((ps.take i).foldl (λc z=>putK c z.1 z.2) []) (stTo (λj=>(ps.getD j (.inl 0,.non)).1) P i):=by
  intro i
  induction i with
  |zero=>intro _;exact .nil
  |succ i ih=>
   intro hi;have M:i<l.length:=by lia
   obtain⟨q,d,O,m,e1,e2,e3,e4,p,w,A,B⟩:=W i l[i] (by simp[M])
   rw[Zk,w,En,DW];show KV (putK _ p.1 p.2) (stored _ (ps.getD i (.inl 0,.non)).1 _);have ek:(ps.getD i (.inl 0,.non)).1=p.1:=by rw[Ya,w];rfl
   rw[ek];exact(ih (by lia)).put p.1 B
 have N:=kv ps.length (Xf _);rw[C2]at N;have S:l.toArray.size=ps.length:=by simp[T]
 rw[S]at C;have hpl:ps.length<=sizeLine:=by rw[D.length];exact x
 have zl:(ZL ps).length<=sizeLine:=by
  have:=N.length;have l2:=CY (λj=>(ps.getD j (.inl 0,.non)).1) P ps.length;unfold ZL;lia
 exact⟨.ref s.heap.objs.size,_,I.laid (a:=s.heap.objs.size) (o:=.dK (ZL ps)) (t':=tk) (λb u e=>hk b u (Xv e) e) (Xf _) (WK zl (beq_eq_false_iff_ne.mpr (XM (XB I.big))) N C),rfl,q _ (I.hok.fresh (Xf _))⟩
end
theorem JK:∀{xs:List V} {vs:List X0},xs.length=vs.length->(∀(j:Nat)x v,xs[j]?=some x->vs[j]?=some v->RelV x v)->Vals xs vs
 |[],[],_,_=>.nil
 |[],_::_,h,_=>by cases h
 |_::_,[],h,_=>by cases h
 |x::xs,v::vs,h,r=>.cons (r 0 x v rfl rfl) (JK (by simpa using h) λj a b l u=>r (j+1) a b (by simpa using l) (by simpa using u))
theorem _gk(h:ItemsOf (λi v=>∃t,v=.int (0+i*1) t) acc n):Vals ((Xs n).map λi=>V.int (i:Nat)) acc.toList:=by
 refine JK (by rw[Xb,Uq,Yv];exact h.1.symm) λj x v l u=>?_
 obtain⟨t,rfl⟩:=h.2 j v (by simpa using u)
 rw[Xr]at l;cases e:(Xs n)[j]? with
 |none=>rw[e]at l;cases l
 |some k=>
  rw[e]at l;have w:k=j:=by
   have:=XE.mp e;obtain⟨_,z⟩:=this
   simpa using z.symm
  subst w;cases l;exact⟨t,by rw[Ww,Int.mul_one]⟩
section
variable{X:Cx}{tg:Expr}
theorem _kk(j:X.calm=true):WO X (.type "list") (.type "range") (fun x H Q=>∃n:Nat,x=.int n/\n<=1000000/\∀p,H p=none->Q (.ref p) (upd H p (.lst ((Xs n).map fun i=>V.int (i:Nat))))):=by
 intro N s O H x u Q I y h;obtain⟨n,rfl,z,q⟩:=h;obtain⟨t,rfl⟩:=y;refine call_range_1 ?_;have m:((Xs n).map λi=>V.int (i:Nat)).length<=sizeLine:=by rw[Xb,Uq];exact Y4 z (by decide)
 have g:=I.ok.hd j;refine call_list_range (n:=n) g (IsRange.new ..) ?_ ?_ (by lia) λd c l f r e L=>?_
 .exact small_one (by decide) (by decide) (by lia) (by lia)
 .rw[rangeSize_one];split<;>lia
 have w:=I.kept (h':=s.heap.push {cls:=.type "range",data:=.fields #[.int 0 s.toks,.int (n:Int) t,.int 1 (s.toks+1)]}) (t':=s.toks+1+1) fun b o e=>Xq _ e;exact⟨.ref _,_,w.laid (t':=c) r (Xf _) (show ObjOk X.prog X.w _ d _ (.lst ((Xs n).map λi=>V.int (i:Nat)))from⟨m,l.toList,f,_gk L,by simpa using e⟩),rfl,q _ (w.hok.fresh (Xf _))⟩
theorem _j2{x y:Str}{id T:String}{r:V->Hp->VK->Prop}{e:Expr}{t:TE}{p p' pos pos':Pos}(L:WO X (.type id) (.type T) r)
  (N:Gl X x)(O:X.mg x=none)(P:YH x=some (.type id))(w:Gl X y)(z:X.mg y=none)(m:YH y=some (.type T))(R:PE X e t)
  (U:x≠"__name__")(g:(x==("__debug__":Str))=false)(d:y≠"__name__")(j:(y==("__debug__":Str))=false)
  (f:XC [e] X.env=(false,eval e X.env)::XC [] X.env):
  PE X (.Call (.Name x p) [.Call (.Name y p') [e] [] pos'] [] pos) (λl H Q=>t l H λv c=>r v c Q):=by
 intro q s l H Q I h;refine Um (UA I N O P ?_ U g);refine Wx ?_ rfl rfl;show X3 _ _ (spliced ((false,eval (.Call (.Name y p') [e] [] pos') X.env)::Y2 pos (XC [] X.env))) _ _ s;refine Wy ?_;refine Um (UA I w z m ?_ d j);refine Wx ?_ f rfl;rw[f];show X3 _ _ (spliced ((false,eval e X.env)::Y2 pos' (XC [] X.env))) _ _ s;refine Wy (thn (R q s l H _ I h) λu W ⟨v,c,Y,Z,A⟩=>?_);refine Wz ?_;exact thn (L q W l c v u Q Y Z A) λC D B=>Wz B
end
section
variable{prog:Xw}{w:Xn}{A:Xz}{R:Result->X2->Prop}{I:Addr}{fp wr:List Addr}{n:Nat}{P:Nat->X0->Prop}{St:Nat->Heap->Prop}
end
section
variable{prog:Xw}{w:Xn}{A:Xz}{E:X0->X2->Prop}{s:X2}
end
section
variable{X:Cx}{x k:Str}{p pos kp:Pos}{e e0:Expr}{te:TE}
end
end L2
namespace HT
open PySem PySem.Spec PyProof.Rows
section
variable{prog:Xw}{w:Xn}{A:Xz}{E:X0->X2->Prop}{s:X2}
theorem tup_whole{t:Addr}{items:Array X0}{lo:Option Int}(z:IsTup s.heap t items)(m:s.heap.IsSliceOf sl vl vu .none)(pl:IsPart vl lo)(g:IsPart vu hi)
  (d:sIx items.size 0 lo=0)(h1:sIx items.size items.size hi=items.size)(h:Q (.ref t) s):X3 (X6 prog w) A (getItem (.ref t) (.ref sl)) Q E s:=by
 obtain⟨os,l,u,c⟩:=id m;have y:s.TypeIs (.ref sl) "slice":=⟨os,l,u⟩;have j:=z.typeIs;unfold getItem
 try with_reducible refine YN ?_
 first|refine X1 (X9 ?_)|skip
 refine X1 (wpAny_sequenceKey j (by decide) ?_)
 refine X1 (BN (name:=Yi "__getitem__") j VI (Zf VI j entry_tuple_getitem ?_ (args_tuple_getitem _ _)));show X3 _ _ (HM (.ref t)>>= _) _ _ s;refine X1 (tupleItemsOf_ z ?_);refine X1 (ZB y ?_);rw[if_pos (by decide)]
 refine X1 (IY m pl g ?_);rw[d,h1];show X3 _ _ (if(((0:Nat):Int)==0&&(1:Int)==1&&(items.size - 0)==items.size)=true then _ else _) _ _ s;rw[if_pos (by simp)]
 refine X1 ?_;show X3 _ _ (HP (.ref t)) _ _ s;unfold HP;refine X1 (ZB j (X9 ?_));rw[if_pos (by decide)]
 exact X1 (Up (X9 ⟨_,rfl,X9 h⟩))
end
end HT
namespace L2
open PySem PySem.Spec PyProof.Rows
section
variable{X:Cx}
def rSlW(K:X4):V->Option Int->Option Int->Hp->VK->Prop:=λx lo l H Q=>∃a j,x=.ref a/\SqT K H a j/\HT.sIx j.length 0 lo=0/\HT.sIx j.length j.length l=j.length/\Q (.ref a) H
theorem _nc:SlR X (rSlW X.K):=by
 intro p s e H x v L N lo O P Q I w y z m h;obtain⟨a,g,rfl,d,c,f,q⟩:=h;cases w;obtain⟨l,r,u,R⟩:=I.tuple d;have j:l.toArray.size=g.length:=by rw[XO];exact r.length.symm
 refine⟨"tuple",_,VI.lookup,u.typeIs,?_⟩;exact HT.tup_whole u y z m (by rw[j];exact c) (by rw[j];exact f) ⟨.ref a,H,I,rfl,q⟩
end
noncomputable def st3{j:Type}(xs:List j):List j:=(Xs ((xs.length+2)/3)).filterMap λk=>xs[3*k]?
section
variable{X:Cx}{e e3:Expr}{te:TE}{p2 pos:Pos}
end
section
variable{X:Cx}
end
def eqTV(xs ys:List V):Bool:=(Xs (min xs.length ys.length)).all (λj=>eqV (xs.getD j .non) (ys.getD j .non))&&xs.length==ys.length
theorem _lT{xs ys:List V}(h:xs.length≠ys.length):eqTV xs ys=false:=by unfold eqTV;rw[beq_eq_false_iff_ne.mpr h,Wt]
section
variable{X:Cx}
def rEqT(K:X4)(f:Bool->Bool):R2:=λx y H Q=>∃(a b:Addr) (j l:List V),x=.ref a/\y=.ref b/\SqT K H a j/\SqT K H b l/\j.all YJ=true/\l.all YJ=true/\Q (.bl (f (eqTV j l))) H
theorem JL{s:X2}{A:Xz}{xs ys:List V}{l w:List X0}(y:Vals xs l)(z:Vals ys w)(d:xs.all YJ=true)(c:ys.all YJ=true):(∀j (h1:j<l.toArray.size)(h2:j<w.toArray.size),CJ A s l.toArray[j] w.toArray[j] (eqV (xs.getD j .non) (ys.getD j .non)))/\((Xs (min l.toArray.size w.toArray.size)).all (λj=>eqV (xs.getD j .non) (ys.getD j .non))&&l.toArray.size==w.toArray.size)=eqTV xs ys:=by
 have m:=y.length;have g:=z.length;refine⟨λj h1 h2=>?_,by unfold eqTV;rw[XO,XO,m,g]⟩
 have h1:j<xs.length:=by rw[m];simpa using h1
 have h2:j<ys.length:=by rw[g];simpa using h2
 obtain⟨u,f,q⟩:=y.get (X7 h1);obtain⟨v,r,p⟩:=z.get (X7 h2);have e:l.toArray[j]=u:=by
  rw[List.getElem_toArray];exact(XE.mp f).2
 have L:w.toArray[j]=v:=by
  rw[List.getElem_toArray];exact(XE.mp r).2
 rw[e,L,Ya,Ya,X7 h1,X7 h2];exact Ew q p (US.mp d _ (XQ h1)) (US.mp c _ (XQ h2))
theorem _qv(j:X.A.units<cLine):OpR X (XZ .Eq) (rEqT X.K id):=by
 intro O s P H x y v u Q I l w h;obtain⟨a,b,R,T,rfl,rfl,z,m,g,d,q⟩:=h;cases l;cases w;obtain⟨c,f,r,_⟩:=I.tuple z;obtain⟨U,p,L,_⟩:=I.tuple m;obtain⟨N,e⟩:=JL (s:=s) (A:=X.A.in1) f p g d;refine SeqAt.eq_tupleAt (show s.heap.IsTuple a c.toArray from r) L j N ?_;rw[e];exact XH I q rfl
theorem _qr(j:X.A.units<cLine):OpR X (XZ .NotEq) (rEqT X.K not):=by
 intro O s P H x y v u Q I l w h;obtain⟨a,b,R,T,rfl,rfl,z,m,g,d,q⟩:=h;cases l;cases w;obtain⟨c,f,r,_⟩:=I.tuple z;obtain⟨U,p,L,_⟩:=I.tuple m;obtain⟨N,e⟩:=JL (s:=s) (A:=X.A.in1) f p g d;refine SeqAt.RcNeAt.tuples (show s.heap.IsTuple a c.toArray from r) L j N X.prog X.w _ _ ?_;rw[e];exact XH I q rfl
end
inductive Ty7 where|int|bool|str|list|tuple|dict|none
  deriving DecidableEq
noncomputable def Ty7.name:Ty7->String
 |.int=>"int"|.bool=>"bool"|.str=>"str"|.list=>"list"|.tuple=>"tuple"|.dict=>"dict"|.none=>"NoneType"
inductive MV where
 |non|bl (b:Bool)|int (i:Int)|str (x:Str)|tup (xs:List MV)|frl (xs:List MV)|ref (a:Addr)|ty (n:Ty7)
noncomputable def JM:HO->Bool
 |.tup _=>true
 |.frz _ (.lst _)=>true
 |_=>false
def Kp(H j:Hp):Prop:=∀a o,H a=some o->JM o=true->j a=some o
theorem Kp.refl(H:Hp):Kp H H:=λ_ _ h _=>h
theorem Kp.trans(a:Kp H H1)(b:Kp H1 H2):Kp H H2:=λc o h f=>b c o (a c o h f) f
theorem Kp.new{H:Hp}{p:Addr}(h:H p=none)(o:HO):Kp H (upd H p o):=λa u e _=>by rw[XN (V2 e h)];exact e
theorem Kp.upd{H:Hp}{p:Addr}{o:HO}(h:H p=some o)(f:JM o=false)(j:HO):Kp H (upd H p j):=λa u e g=>by
 rw[XN (Iv e h (by intro z;rw[z,f]at g;cases g))];exact e
def FrL(K:X4)(H:Hp)(a:Addr)(vs:List V):Prop:=(∃o,H a=some (.frz o (.lst vs)))\/
 ∃(o:Obj) (j:Array X0) (n:Nat),K.lookup a=some o/\o.cls=.type "list"/\o.dict=none/\o.data=.seq j n/\j.size<=sizeLine/\Vals vs j.toList
theorem FrL.sq{K:X4}(h:FrL K H a vs):SqL K H a vs:=by
 rcases h with⟨o,h⟩|h
 .exact .inl (.inr ⟨o,h⟩)
 .exact .inr h
mutual
inductive RM (K:X4)(H:Hp):MV->V->Prop
 |non:RM K H .non .non
 |bl (b:Bool):RM K H (.bl b) (.bl b)
 |int (i:Int):RM K H (.int i) (.int i)
 |str (x:Str):RM K H (.str x) (.str x)
 |ref (a:Addr):RM K H (.ref a) (.ref a)
 |ty (n:Ty7):RM K H (.ty n) (.ty n.name)
 |tup {a:Addr} {xs:List MV} {vs:List V}:H a=some (.tup vs)->RMs K H xs vs->RM K H (.tup xs) (.ref a)
 |frl {a:Addr} {xs:List MV} {vs:List V}:FrL K H a vs->RMs K H xs vs->RM K H (.frl xs) (.ref a)
inductive RMs (K:X4)(H:Hp):List MV->List V->Prop
 |nil:RMs K H [] []
 |cons {x:MV} {v:V} {xs:List MV} {vs:List V}:RM K H x v->RMs K H xs vs->RMs K H (x::xs) (v::vs)
end
mutual
theorem RM.mono{K:X4}(k:Kp H H'):∀{m:MV} {v:V},RM K H m v->RM K H' m v
 |_,_,.non=>.non
 |_,_,.bl b=>.bl b
 |_,_,.int i=>.int i
 |_,_,.str x=>.str x
 |_,_,.ref a=>.ref a
 |_,_,.ty n=>.ty n
 |_,_,.tup h r=>.tup (k _ _ h rfl) (RMs.mono k r)
 |_,_,.frl h r=>.frl (by
   rcases h with⟨o,h⟩|h
   .exact .inl ⟨o,k _ _ h rfl⟩
   .exact .inr h) (RMs.mono k r)
theorem RMs.mono{K:X4}(k:Kp H H'):∀{m:List MV} {v:List V},RMs K H m v->RMs K H' m v
 |_,_,.nil=>.nil
 |_,_,.cons a b=>.cons (RM.mono k a) (RMs.mono k b)
end
def Zt8(K:X4)(H:Hp)(v:V):MV->Prop
 |.non=>v=.non
 |.bl b=>v=.bl b
 |.int i=>v=.int i
 |.str x=>v=.str x
 |.tup xs=>∃a j,v=.ref a/\H a=some (.tup j)/\RMs K H xs j
 |.frl xs=>∃a j,v=.ref a/\FrL K H a j/\RMs K H xs j
 |.ref a=>v=.ref a
 |.ty n=>v=.ty n.name
theorem RM.inv{K:X4}{H:Hp}{m:MV}{v:V}(r:RM K H m v):Zt8 K H v m:=by
 cases r with
 |tup h q=>exact⟨_,_,rfl,h,q⟩
 |frl h q=>exact⟨_,_,rfl,h,q⟩
 |_=>rfl
def Zrm(K:X4)(H:Hp)(vs:List V):List MV->Prop
 |[]=>vs=[]
 |x::xs=>∃v j,vs=v::j/\RM K H x v/\RMs K H xs j
theorem RMs.inv{K:X4}{H:Hp}{m:List MV}{v:List V}(r:RMs K H m v):Zrm K H v m:=by
 cases r with
 |nil=>rfl
 |cons a b=>exact⟨_,_,rfl,a,b⟩
theorem RMs.length{K:X4}:∀{m:List MV} {v:List V},RMs K H m v->m.length=v.length
 |_,_,.nil=>rfl
 |_,_,.cons _ b=>by rw[Yl,Yl,b.length]
theorem RMs.get{K:X4}:∀{m:List MV} {v:List V} {i:Nat} {x:MV},RMs K H m v->m[i]?=some x->∃u,v[i]?=some u/\RM K H x u
 |_,_,_,_,.nil,e=>by simp at e
 |_,_,0,_,.cons r _,e=>by simp at e;subst e;exact⟨_,rfl,r⟩
 |_,_,i+1,x,.cons _ t,e=>by
  obtain⟨u,j,l⟩:=RMs.get (i:=i) (x:=x) t (by simpa using e)
  exact⟨u,by simpa using j,l⟩
theorem RMs.get'{K:X4}:∀{m:List MV} {v:List V} {i:Nat} {u:V},RMs K H m v->v[i]?=some u->∃x,m[i]?=some x/\RM K H x u
 |_,_,_,_,.nil,e=>by simp at e
 |_,_,0,_,.cons r _,e=>by simp at e;subst e;exact⟨_,rfl,r⟩
 |_,_,i+1,x,.cons _ t,e=>by
  obtain⟨u,j,l⟩:=RMs.get' (i:=i) (u:=x) t (by simpa using e)
  exact⟨u,by simpa using j,l⟩
theorem RMs.append{K:X4}:∀{m j:List MV} {v l:List V},RMs K H m v->RMs K H j l->RMs K H (m++j) (v++l)
 |_,_,_,_,.nil,s=>s
 |_,_,_,_,.cons r t,s=>.cons r (t.append s)
theorem RMs.take{K:X4}:∀{m:List MV} {v:List V} (n:Nat),RMs K H m v->RMs K H (m.take n) (v.take n)
 |_,_,0,_=>.nil
 |_,_,_+1,.nil=>.nil
 |_,_,n+1,.cons r t=>.cons r (t.take n)
theorem RMs.drop{K:X4}:∀{m:List MV} {v:List V} (n:Nat),RMs K H m v->RMs K H (m.drop n) (v.drop n)
 |_,_,0,r=>r
 |_,_,_+1,.nil=>.nil
 |_,_,n+1,.cons _ t=>t.drop n
theorem RMs.set{K:X4}(r:RM K H x u):∀{m:List MV} {v:List V} (i:Nat),RMs K H m v->RMs K H (m.set i x) (v.set i u)
 |_,_,_,.nil=>.nil
 |_,_,0,.cons _ t=>.cons r t
 |_,_,i+1,.cons q t=>.cons q (t.set r i)
theorem RMs.ints{K:X4}:∀j:List Int,RMs K H (j.map MV.int) (j.map V.int)
 |[]=>.nil
 |n::r=>.cons (.int n) (RMs.ints r)
theorem RMs.map_of{K:X4}{H:Hp}{l:Type}{f:l->MV}{g:l->V}(u:∀a v,RM K H (f a) v->v=g a):∀{j:List l} {vs:List V},RMs K H (j.map f) vs->vs=j.map g:=by
 intro j
 induction j with
 |nil=>intro vs h;cases h;rfl
 |cons n r w=>
  intro vs h;have h:RMs K H (f n::r.map f) vs:=h;cases h with
  |cons x t=>rw[w t,u _ _ x];rfl
inductive MO where
 |lst (xs:List MV)|dic (kvs:List (Key×MV))|ins (c:Str)(fs:List (Str×MV))
 |fdic (o:Obj)(kvs:List (Key×MV))
noncomputable abbrev MH:=Addr->Option MO
noncomputable def updM(M:MH)(a:Addr)(o:MO):MH:=λb=>if b=a then some o else M b
theorem Xa:updM M a o a=some o:=by unfold updM;rw[if_pos rfl]
theorem X8(h:b≠a):updM M a o b=M b:=by unfold updM;rw[if_neg h]
theorem YK:updM (updM M a o) a u=updM M a u:=by funext b;unfold updM;split<;>rfl
inductive RKs {κ:Type} (K:X4)(H:Hp):List (κ×MV)->List (κ×V)->Prop
 |nil:RKs K H [] []
 |cons {k:κ} {x:MV} {v:V} {xs:List (κ×MV)} {vs:List (κ×V)}:RM K H x v->RKs K H xs vs->RKs K H ((k,x)::xs) ((k,v)::vs)
theorem RKs.mono{j:Type}{K:X4}(k:Kp H H'):∀{m:List (j×MV)} {v:List (j×V)},RKs K H m v->RKs K H' m v
 |_,_,.nil=>.nil
 |_,_,.cons a b=>.cons (a.mono k) (b.mono k)
def Zrn{j:Type}(K:X4)(H:Hp)(vs:List (j×V)):List (j×MV)->Prop
 |[]=>vs=[]
 |x::xs=>∃v l,vs=(x.1,v)::l/\RM K H x.2 v/\RKs K H xs l
theorem RKs.inv{j:Type}{K:X4}{H:Hp}{m:List (j×MV)}{v:List (j×V)}(r:RKs K H m v):Zrn K H v m:=by
 cases r with
 |nil=>rfl
 |cons a b=>exact⟨_,_,rfl,a,b⟩
theorem RKs.length{j:Type}{K:X4}:∀{m:List (j×MV)} {v:List (j×V)},RKs K H m v->m.length=v.length
 |_,_,.nil=>rfl
 |_,_,.cons _ b=>by rw[Yl,Yl,b.length]
section
variable{κ:Type} [DecidableEq κ]
noncomputable def valM(l:List (κ×MV))(k:κ):Option MV:=match l with
 |[]=>none
 |(j,v)::r=>if j=k then some v else valM r k
noncomputable def putM(l:List (κ×MV))(k:κ)(v:MV):List (κ×MV):=match l with
 |[]=>[(k,v)]
 |(j,u)::r=>if j=k then(j,v)::r else(j,u)::putM r k v
end
def RO(K:X4)(H:Hp):MO->HO->Prop
 |.lst xs,.lst vs=>RMs K H xs vs
 |.dic kvs,.dK vs=>RKs K H kvs vs/\(kvs.map (·.1)).Nodup
 |.ins c fs,.ins C _ vs=>XA K Xp c=some (some (.ref C))/\RKs K H fs vs
 |.fdic o kvs,.frz o' (.dK vs)=>o=o'/\RKs K H kvs vs/\(kvs.map (·.1)).Nodup
 |_,_=>False
theorem RO.mono{K:X4}(k:Kp H H')(h:RO K H o u):RO K H' o u:=by
 cases o with
 |lst l=>cases u<;>first|exact RMs.mono k h|exact h.elim
 |dic j=>cases u<;>first|exact⟨h.1.mono k,h.2⟩|exact h.elim
 |ins c fs=>cases u<;>first|exact⟨h.1,h.2.mono k⟩|exact h.elim
 |fdic w j=>
  cases u with
  |frz y u=>cases u<;>first|exact⟨h.1,h.2.1.mono k,h.2.2⟩|exact h.elim
  |_=>exact h.elim
def RH(K:X4)(M:MH)(H:Hp):Prop:=∀a o,M a=some o->∃u,H a=some u/\RO K H o u
theorem RH.free{K:X4}(r:RH K M H)(h:H p=none):M p=none:=by
 cases e:M p with
 |none=>rfl
 |some o=>obtain⟨u,j,_⟩:=r p o e;rw[j]at h;cases h
theorem RH.lst{K:X4}(r:RH K M H)(h:M p=some (.lst xs)):∃vs,H p=some (.lst vs)/\RMs K H xs vs:=by
 obtain⟨u,l,j⟩:=r p _ h;cases u<;>try exact j.elim
 exact⟨_,l,j⟩
theorem RH.dic{K:X4}(r:RH K M H)(h:M p=some (.dic xs)):∃vs,H p=some (.dK vs)/\RKs K H xs vs/\(xs.map (·.1)).Nodup:=by
 obtain⟨u,l,j⟩:=r p _ h;cases u<;>try exact j.elim
 exact⟨_,l,j.1,j.2⟩
theorem RH.fdic{K:X4}(r:RH K M H)(h:M p=some (.fdic o xs)):∃vs,H p=some (.frz o (.dK vs))/\RKs K H xs vs/\(xs.map (·.1)).Nodup:=by
 obtain⟨u,l,j⟩:=r p _ h;cases u with
 |frz z u=>
  cases u<;>try exact j.elim
  obtain⟨rfl,w,y⟩:=j;exact⟨_,l,w,y⟩
 |_=>exact j.elim
theorem RH.ins{K:X4}(r:RH K M H){fs:List (Str×MV)}(h:M p=some (.ins c fs)):∃C l vs,H p=some (.ins C l vs)/\XA K Xp c=some (some (.ref C))/\RKs K H fs vs:=by
 obtain⟨u,w,j⟩:=r p _ h;cases u<;>try exact j.elim
 exact⟨_,_,_,w,j.1,j.2⟩
theorem CZ{K:X4}{H:Hp}{f:Str}:∀{m:List (Str×MV)} {v:List (Str×V)},RKs K H m v->(valM m f=none/\v.lookup f=none)\/∃x u,valM m f=some x/\v.lookup f=some u/\RM K H x u
 |_,_,.nil=>.inl ⟨rfl,rfl⟩
 |_,_,.cons (k:=j) (x:=x) (v:=u) r t=>by
  by_cases e:j=f
  .refine .inr ⟨x,u,?_,?_,r⟩
   .unfold valM;rw[if_pos e]
   .subst e;simp
  .have:=CZ (f:=f) t;have l:(f==j)=false:=by simpa using λz=>e z.symm
   unfold valM;rw[if_neg e,Zl,l];exact this
theorem JN{K:X4}{H:Hp}{f:Str}{x:MV}{u:V}(r:RM K H x u):∀{m:List (Str×MV)} {v:List (Str×V)},RKs K H m v->RKs K H (putM m f x) (putF f u v)
 |_,_,.nil=>.cons r .nil
 |_,_,.cons (k:=j) q t=>by
  unfold putM putF;by_cases e:j=f
  .rw[if_pos e,if_pos e];exact .cons r t
  .rw[if_neg e,if_neg e];exact .cons q (JN r t)
theorem RH.put{K:X4}(r:RH K M H)(k:Kp H (upd H p u))(j:RO K (upd H p u) o u):RH K (updM M p o) (upd H p u):=by
 intro a l e;by_cases h:a=p
 .subst h;rw[Xa]at e;cases e;exact⟨u,_I,j⟩
 .rw[X8 h]at e;obtain⟨v,w,y⟩:=r a l e;exact⟨v,by rw[XN h];exact w,y.mono k⟩
theorem RH.kept{K:X4}{M:MH}{H:Hp}(r:RH K M H){p:Addr}(j:H p=none)(u:HO):RH K M (upd H p u):=by
 intro a w e;obtain⟨v,l,y⟩:=r a w e;exact⟨v,by rw[XN (V2 l j)];exact l,y.mono (Kp.new j u)⟩
noncomputable abbrev Sm:=List (Option MV)
abbrev QM:=MV->MH->Prop
abbrev TEm:=Sm->MH->QM->Prop
abbrev TAm:=Sm->MH->(List MV->MH->Prop)->Prop
noncomputable def RS(K:X4)(H:Hp)(j:Sm)(l:St):Prop:=j.length=l.length/\∀(i:Nat)(m:MV),j[i]?=some (some m)->∃v,l[i]?=some (some v)/\RM K H m v
theorem RS.mono{K:X4}(k:Kp H H')(h:RS K H σm σ):RS K H' σm σ:=⟨h.1,λi m e=>by
 obtain⟨v,j,r⟩:=h.2 i m e;exact⟨v,j,r.mono k⟩⟩
theorem RS.set{K:X4}(h:RS K H σm σ)(r:RM K H m v)(i:Nat):RS K H (σm.set i (some m)) (σ.set i (some v)):=by
 refine⟨by simp[h.1],λj x e=>?_⟩
 rw[Vp]at e;by_cases hij:i=j
 .subst hij;rw[if_pos rfl]at e;split at e
  .cases e;exact⟨v,by rw[Vp,if_pos rfl,if_pos (by rw[<-h.1];assumption)],r⟩
  .cases e
 .rw[if_neg hij]at e;obtain⟨u,l,w⟩:=h.2 j x e;exact⟨u,by rw[Vp,if_neg hij];exact l,w⟩
def Dn(K:X4)(H:Hp)(Q:VK):QM:=λm M=>∀v j,Kp H j->RM K j m v->RH K M j->Q v j
theorem Dn.on{K:X4}(k:Kp H H1)(h:Dn K H Q m M):Dn K H1 Q m M:=λv j l r u=>h v j (k.trans l) r u
def liE(K:X4)(t:TEm):TE:=λl H Q=>∃j M,RS K H j l/\RH K M H/\t j M (Dn K H Q)
def liA(K:X4)(t:TAm):TA:=λw H Q=>∃j M,RS K H j w/\RH K M H/\t j M (λy z=>∀u l,Kp H l->RMs K l y u->RH K z l->Q u l)
def MonE(t:TEm):Prop:=∀{j M} {Q l:QM},(∀m u,Q m u->l m u)->t j M Q->t j M l
def MonA(t:TAm):Prop:=∀{j M} {Q l:List MV->MH->Prop},(∀m u,Q m u->l m u)->t j M Q->t j M l
abbrev W1:=MV->MH->QM->Prop
abbrev W2:=MV->MV->MH->QM->Prop
abbrev WA:=List MV->MH->QM->Prop
def Mon1(w:W1):Prop:=∀{x M} {Q j:QM},(∀m l,Q m l->j m l)->w x M Q->w x M j
def Mon2(w:W2):Prop:=∀{x y M} {Q j:QM},(∀m l,Q m l->j m l)->w x y M Q->w x y M j
def MonW(w:WA):Prop:=∀{j M} {Q l:QM},(∀m u,Q m u->l m u)->w j M Q->w j M l
def li1(K:X4)(w:W1):V->Hp->VK->Prop:=λx H Q=>∃j M,RM K H j x/\RH K M H/\w j M (Dn K H Q)
def li2(K:X4)(w:W2):R2:=λx y H Q=>∃j l M,RM K H j x/\RM K H l y/\RH K M H/\w j l M (Dn K H Q)
def liW(K:X4)(w:WA):List V->Hp->VK->Prop:=λl H Q=>∃j M,RMs K H j l/\RH K M H/\w j M (Dn K H Q)
section
variable{K:X4}
theorem EG{ta tb:TEm}{w:W2}(q:MonE ta)(r:MonE tb)(p:Mon2 w){j:St}{H:Hp}{Q:VK}
  (h:liE K (λj M Q=>ta j M λx M1=>tb j M1 λy M2=>w x y M2 Q) j H Q):tOp (li2 K w) (liE K ta) (liE K tb) j H Q:=by
 obtain⟨l,M,d,e,h⟩:=h;refine⟨l,M,d,e,q (λx M1 L=>?_) h⟩;intro v T c N z;refine⟨l,M1,d.mono c,z,r (λy M2 O=>?_) L⟩;intro u U f P g;exact⟨x,y,M2,N.mono f,P,g,p (λm W R=>R.on (c.trans f)) O⟩
end
theorem PE.weak{t:TE}(h:PE X e t)(i:∀j H Q,t' j H Q->t j H Q):PE X e t':=λl s j H Q I q=>h l s j H Q I (i _ _ _ q)
theorem PT.weak{t:TT}(h:PT X e t)(i:∀j H Q,t' j H Q->t j H Q):PT X e t':=λl s j H Q I q=>h l s j H Q I (i _ _ _ q)
theorem PW.weak{t:TT}(h:PW X e t)(i:∀j H Q,t' j H Q->t j H Q):PW X e t':=λl u s j H Q I q=>h l u s j H Q I (i _ _ _ q)
theorem PA.weak{t:TA}(h:PA X e t)(i:∀j H Q,t' j H Q->t j H Q):PA X e t':=λl u s j H Q I q=>h l u s j H Q I (i _ _ _ q)
theorem PS.weak{t:TS}(h:PS X e t)(i:∀D j H,t' D j H->t D j H):PS X e t':=λl s j H D I q=>h l s j H D I (i _ _ _ q)
theorem PSs.weak{t:TS}(h:PSs X e t)(i:∀D j H,t' D j H->t D j H):PSs X e t':=λl s j H D I q=>h l s j H D I (i _ _ _ q)
noncomputable def intsM(k:Int->Int->Prop)(x y:MV):Prop:=match x,y with
 |.int i,.int j=>k i j
 |_,_=>False
theorem intsM.of{k:Int->Int->Prop}{x y:MV}(h:intsM k x y):∃i j,x=.int i/\y=.int j/\k i j:=by
 unfold intsM at h;split at h
 .exact⟨_,_,rfl,rfl,h⟩
 .exact h.elim
noncomputable def addM(x y:MV)(M:MH)(Q:QM):Prop:=match x,y with
 |.int i,.int j=>Q (.int (i+j)) M
 |.str i,.str j=>i.length+j.length<=sizeLine/\Q (.str (i++j)) M
 |.tup xs,.tup ys=>xs≠ []/\xs.length+ys.length<=sizeLine/\Q (.tup (xs++ys)) M
 |_,_=>False
def mulM(x y:MV)(M:MH)(Q:QM):Prop:=match x,y with
 |.int i,.int j=>CMul i j/\Q (.int (i*j)) M
 |.str z,.int i=>z.length<=16/\ -1000<=i/\i<=1000/\Q (.str (Txt.mul z i)) M
 |.tup l,.int k=>l≠ []/\1<=k/\l.length*k.toNat<=1000000/\Q (.tup (Xj k.toNat l).flatten) M
 |.ref a,.int k=>∃l,M a=some (.lst l)/\ -(2^63)<=k/\k<2^63/\l.length*k.toNat<=sizeLine/\∀p,M p=none->Q (.ref p) (updM M p (.lst (Xj k.toNat l).flatten))
 |_,_=>False
def wBin(op:Uk)(x y:MV)(M:MH)(Q:QM):Prop:=match op with
 |.Add=>addM x y M Q
 |.Mult=>mulM x y M Q
 |.Sub=>intsM (λi j=>Q (.int (i - j)) M) x y
 |.FloorDiv=>intsM (λi j=>WL i j/\Q (.int (i/j)) M) x y
 |.Mod=>intsM (λi j=>0<j/\Q (.int (i%j)) M) x y
 |.Pow=>intsM (λi j=>CPow i j/\Q (.int (i^j.toNat)) M) x y
 |.LShift=>intsM (λi j=>CPow i j/\Q (.int (i*2^j.toNat)) M) x y
 |.BitAnd=>intsM (λi j=>Q (.int (CH i j)) M) x y
 |.BitXor=>intsM (λi j=>Q (.int (CI i j)) M) x y
 |_=>False
theorem _of:Mon2 addM:=by
 intro x y M Q c j h;unfold addM at h ⊢;split at h
 all_goals first
  |exact j _ _ h
  |exact h.elim
  |exact⟨h.1,j _ _ h.2⟩
  |exact⟨h.1,h.2.1,j _ _ h.2.2⟩
  |(obtain⟨g,l,d,u,w,z⟩:=h
    exact⟨g,l,d,u,w,λp m=>j _ _ (z p m)⟩)
  |(obtain⟨l,u,w,z⟩:=h
    exact⟨l,u,w,λp m=>j _ _ (z p m)⟩)
theorem _od:Mon2 mulM:=by
 intro x y M Q c j h;unfold mulM at h ⊢;split at h
 all_goals first
  |exact h.elim
  |exact⟨h.1,j _ _ h.2⟩
  |exact⟨h.1,h.2.1,h.2.2.1,j _ _ h.2.2.2⟩
  |(obtain⟨l,u,w,z,m,g⟩:=h
    exact⟨l,u,w,z,m,λp d=>j _ _ (g p d)⟩)
theorem JO(op:Uk):Mon2 (wBin op):=by
 intro x y M Q u l h;cases op
 all_goals first
  |exact Y5 h
  |exact _of l h
  |exact _od l h
  |(obtain⟨i,j,rfl,rfl,h⟩:=intsM.of h
    exact l _ _ h)
  |(obtain⟨i,j,rfl,rfl,h⟩:=intsM.of h
    exact⟨h.1,l _ _ h.2⟩)
theorem RMs.rep{K:X4}(q:RMs K H xs vs):∀k:Nat,RMs K H (Xj k xs).flatten (Xj k vs).flatten
 |0=>.nil
 |k+1=>by
  rw[Za,Za,ZE,ZE];exact q.append (q.rep k)
section
variable{X:Cx}
set_option tactic.hygienic true in
theorem _nX:OpR X (Yk .Add) (li2 X.K addM):=by
 intro w s m H x y v u Q I g d h;obtain⟨U,W,M,c,f,j,h⟩:=h;unfold addM at h;split at h
 .obtain rfl:=c.inv;obtain rfl:=f.inv;exact TZ w s m H _ _ v u Q I g d ⟨_,_,rfl,rfl,h _ _ (Kp.refl _) (.int _) j⟩
 .obtain rfl:=c.inv;obtain rfl:=f.inv;exact _hO w s m H _ _ v u Q I g d ⟨_,_,rfl,rfl,h.1,h.2 _ _ (Kp.refl _) (.str _) j⟩
 .rename_i Y Z
  obtain⟨_,_,rfl,e,l⟩:=c.inv
  rename_i a L
  cases f with
  |tup P q=>
   rename_i b N
   obtain⟨R,T,r⟩:=h;refine _nW w s m H _ _ v u Q I g d ⟨_,_,L,N,rfl,rfl,SqT.of e,SqT.of P,λz=>R ?_,by rw[<-l.length,<-q.length];exact T,λz=>?_,λz p O=>?_⟩
   .subst z;cases l;rfl
   .subst z;cases q;rw[Vu]at r;exact r _ _ (Kp.refl _) (.tup e l) j
   .have k:=Kp.new O (.tup (L++N));exact r _ _ k (.tup _I ((l.append q).mono k)) (j.kept O _)
 .exact h.elim
set_option tactic.hygienic true in
theorem _nU:OpR X (Yk .Mult) (li2 X.K mulM):=by
 intro d s c H x y v u Q I f q h;obtain⟨Z,A,M,r,L,j,h⟩:=h;unfold mulM at h;split at h
 .obtain rfl:=r.inv;obtain rfl:=L.inv;exact _qs d s c H _ _ v u Q I f q ⟨_,_,rfl,rfl,h.1,h.2 _ _ (Kp.refl _) (.int _) j⟩
 .obtain rfl:=r.inv;obtain rfl:=L.inv;exact _nT d s c H _ _ v u Q I f q ⟨_,_,rfl,rfl,h.1,h.2.1,h.2.2.1,h.2.2.2 _ _ (Kp.refl _) (.str _) j⟩
 .rename_i O k
  obtain rfl:=L.inv;obtain⟨_,_,rfl,N,l⟩:=r.inv
  rename_i a m
  obtain⟨P,R,T,U⟩:=h;refine _nS d s c H _ _ v u Q I f q ⟨_,_,m,rfl,rfl,SqT.of N,λz=>P ?_,R,by rw[<-l.length];exact T,λz=>?_,λz p g=>?_⟩
  .subst z;cases l;rfl
  .subst z;have e:(Xj (1:Int).toNat O).flatten=O:=by simp
   rw[e]at U;exact U _ _ (Kp.refl _) (.tup N l) j
  .have w:=Kp.new g (.tup (Xj k.toNat m).flatten);exact U _ _ w (.tup _I ((l.rep k.toNat).mono w)) (j.kept g _)
 .rename_i a k
  obtain rfl:=r.inv;obtain rfl:=L.inv;obtain⟨O,N,W,P,R,T⟩:=h;obtain⟨m,Y,l⟩:=j.lst N;refine _qp d s c H _ _ v u Q I f q ⟨_,_,m,rfl,rfl,Y,W,P,by rw[<-l.length];exact R,λp g=>?_⟩
  have w:=Kp.new g (.lst (Xj k.toNat m).flatten);exact T p (j.free g) _ _ w (.ref p) (j.put w ((l.rep k.toNat).mono w))
 .exact h.elim
theorem _qw(op:Uk):OpR X (Yk op) (li2 X.K (wBin op)):=by
 cases op with
 |Add=>exact _nX
 |Mult=>exact _nU
 |Sub=>
  intro l s w H x y v u Q I z m h;obtain⟨f,q,M,g,d,c,h⟩:=h;obtain⟨i,j,rfl,rfl,h⟩:=intsM.of h;obtain rfl:=g.inv;obtain rfl:=d.inv;exact _qn l s w H _ _ v u Q I z m ⟨_,_,rfl,rfl,h _ _ (Kp.refl _) (.int _) c⟩
 |FloorDiv=>
  intro l s w H x y v u Q I z m h;obtain⟨f,q,M,g,d,c,h⟩:=h;obtain⟨i,j,rfl,rfl,h⟩:=intsM.of h;obtain rfl:=g.inv;obtain rfl:=d.inv;exact _lm l s w H _ _ v u Q I z m ⟨_,_,rfl,rfl,h.1,h.2 _ _ (Kp.refl _) (.int _) c⟩
 |Mod=>
  intro l s w H x y v u Q I z m h;obtain⟨f,q,M,g,d,c,h⟩:=h;obtain⟨i,j,rfl,rfl,h⟩:=intsM.of h;obtain rfl:=g.inv;obtain rfl:=d.inv;exact _qt l s w H _ _ v u Q I z m ⟨_,_,rfl,rfl,h.1,h.2 _ _ (Kp.refl _) (.int _) c⟩
 |Pow=>
  intro l s w H x y v u Q I z m h;obtain⟨f,q,M,g,d,c,h⟩:=h;obtain⟨i,j,rfl,rfl,h⟩:=intsM.of h;obtain rfl:=g.inv;obtain rfl:=d.inv;exact _qq l s w H _ _ v u Q I z m ⟨_,_,rfl,rfl,h.1,h.2 _ _ (Kp.refl _) (.int _) c⟩
 |LShift=>
  intro l s w H x y v u Q I z m h;obtain⟨f,q,M,g,d,c,h⟩:=h;obtain⟨i,j,rfl,rfl,h⟩:=intsM.of h;obtain rfl:=g.inv;obtain rfl:=d.inv;exact _qo l s w H _ _ v u Q I z m ⟨_,_,rfl,rfl,h.1,h.2 _ _ (Kp.refl _) (.int _) c⟩
 |BitAnd=>
  intro l s w H x y v u Q I z m h;obtain⟨f,q,M,g,d,c,h⟩:=h;obtain⟨i,j,rfl,rfl,h⟩:=intsM.of h;obtain rfl:=g.inv;obtain rfl:=d.inv;exact _qx l s w H _ _ v u Q I z m ⟨_,_,rfl,rfl,h _ _ (Kp.refl _) (.int _) c⟩
 |BitXor=>
  intro l s w H x y v u Q I z m h;obtain⟨f,q,M,g,d,c,h⟩:=h;obtain⟨i,j,rfl,rfl,h⟩:=intsM.of h;obtain rfl:=g.inv;obtain rfl:=d.inv;exact _qm l s w H _ _ v u Q I z m ⟨_,_,rfl,rfl,h _ _ (Kp.refl _) (.int _) c⟩
 |_=>
  intro l s w H x y v u Q I z m h;obtain⟨_,_,_,_,_,_,h⟩:=h;exact Y5 h
end
noncomputable def eqS(x y:MV):Option Bool:=match x with
 |.int i=>(match y with|.int j=>some (decide (i=j))|.non=>some false|.str _=>some false|_=>none)
 |.str i=>(match y with|.str j=>some (decide (i=j))|.non=>some false|.int _=>some false|.bl _=>some false|_=>none)
 |.bl i=>(match y with|.bl j=>some (decide (i=j))|.non=>some false|.str _=>some false|_=>none)
 |.non=>(match y with|.non=>some true|.int _=>some false|.bl _=>some false|.str _=>some false|_=>none)
 |_=>none
theorem JP{K:X4}(h:eqS x y=some b)(r:RM K H x u)(q:RM K H y v):scal u v=true/\decide (u=v)=b:=by
 cases r
 all_goals first
  |exact nomatch (show none=some b from h)
  |skip
 all_goals
  cases q
  all_goals first
   |exact nomatch (show none=some b from h)
   |(obtain rfl:=Yd (show some false=some b from h);exact⟨rfl,rfl⟩)
   |(obtain rfl:=Yd (show some true=some b from h);exact⟨rfl,rfl⟩)
   |(obtain rfl:=Yd h;exact⟨rfl,decide_eq_decide.mpr ⟨V.int.inj,λe=>by rw[e]⟩⟩)
   |(obtain rfl:=Yd h;exact⟨rfl,decide_eq_decide.mpr ⟨V.str.inj,λe=>by rw[e]⟩⟩)
   |(obtain rfl:=Yd h;exact⟨rfl,decide_eq_decide.mpr ⟨V.bl.inj,λe=>by rw[e]⟩⟩)
noncomputable def LstM(M:MH)(x:MV)(xs:List MV):Prop:=x=.frl xs\/∃a,x=.ref a/\M a=some (.lst xs)
noncomputable def Y9:MV->Bool
 |.non=>true|.bl _=>true|.int _=>true|.str _=>true|_=>false
def Alike(M:MH):Nat->MV->MV->Prop
 |0,x,y=>Y9 x=true/\x=y
 |n+1,x,y=>(Y9 x=true/\x=y)\/(∃j l,x=.tup j/\y=.tup l/\j.length=l.length/\∀(i:Nat)u v,j[i]?=some u->l[i]?=some v->Alike M n u v)\/
  (∃j l,LstM M x j/\LstM M y l/\j.length=l.length/\∀(i:Nat)u v,j[i]?=some u->l[i]?=some v->Alike M n u v)\/
  ∃a b w z,x=.ref a/\y=.ref b/\M a=some (.dic w)/\M b=some (.dic z)/\w.length=z.length/\∀k u,(k,u)∈w->∃v,valM z k=some v/\Alike M n u v
noncomputable def toV:MV->V
 |.non=>.non|.bl b=>.bl b|.int i=>.int i|.str x=>.str x|_=>.non
def wEqT(x y:MV)(k:Bool->Prop):Prop:=∃j l,x=.tup j/\y=.tup l/\j.all Y9=true/\l.all Y9=true/\k (eqTV (j.map toV) (l.map toV))
def wEq(x y:MV)(M:MH)(k:Bool->Prop):Prop:=match eqS x y with
 |some b=>k b
 |none=>wEqT x y k\/(∃n≤60,Alike M n x y/\k true)\/(∃a b j,x=.ref a/\y=.ref b/\M a=some (.lst j)/\M b=some (.lst [])/\k j.isEmpty)\/False\/False
theorem U9{K:X4}(f:Y9 m=true)(r:RM K H m v):v=toV m/\YJ v=true:=by
 cases r<;>first|exact⟨rfl,rfl⟩|cases f
theorem Ua{K:X4}:∀{m:List MV} {v:List V},m.all Y9=true->RMs K H m v->v=m.map toV/\v.all YJ=true
 |_,_,_,.nil=>⟨rfl,rfl⟩
 |_,_,f,.cons r t=>by
  rw[Us,XY]at f;obtain⟨e,g⟩:=U9 f.1 r;obtain⟨j,l⟩:=Ua f.2 t;subst e j;exact⟨rfl,by rw[Us,g,l];rfl⟩
def keyM:MV->Option Key
 |.int i=>some (.inl i)
 |.str x=>some (.inr x)
 |_=>none
theorem VW{K:X4}{k:Key}(e:keyM m=some k)(r:RM K H m v):v=kV k:=by
 cases r<;>cases e<;>rfl
theorem VX{K:X4}{k:Key}:∀{m:List (Key×MV)} {v:List (Key×V)},RKs K H m v->(valM m k=none/\valV v k=none)\/∃x u,valM m k=some x/\valV v k=some u/\RM K H x u
 |_,_,.nil=>.inl ⟨rfl,rfl⟩
 |_,_,.cons (k:=j) (x:=x) (v:=u) r t=>by
  by_cases e:j=k
  .refine .inr ⟨x,u,?_,CN (p:=(j,u)) e,r⟩;unfold valM;rw[if_pos e]
  .have:=VX (k:=k) t;unfold valM;rw[if_neg e,CO (p:=(j,u)) e];exact this
theorem JQ{K:X4}{k:Key}:∀{m:List (Key×MV)} {v:List (Key×V)},RKs K H m v->(v.any λj=>decide (j.1=k))=(m.any λj=>decide (j.1=k))
 |_,_,.nil=>rfl
 |_,_,.cons r t=>by rw[ZF,ZF,JQ t]
theorem EH{K:X4}{k:Key}(r:RM K H x u):∀{m:List (Key×MV)} {v:List (Key×V)},RKs K H m v->
  RKs K H (m.map λl=>if l.1=k then(l.1,x)else l) (v.map λl=>if l.1=k then(l.1,u)else l)
 |_,_,.nil=>.nil
 |_,_,.cons (k:=j) q t=>by
  rw[Xx,Xx];by_cases e:j=k
  .rw[if_pos e,if_pos e];exact .cons r (EH r t)
  .rw[if_neg e,if_neg e];exact .cons q (EH r t)
theorem JR{j:Type}{K:X4}:∀{m l:List (j×MV)} {v u:List (j×V)},RKs K H m v->RKs K H l u->RKs K H (m++l) (v++u)
 |_,_,_,_,.nil,s=>s
 |_,_,_,_,.cons r t,s=>.cons r (JR t s)
theorem JS{l:Type} [DecidableEq l] {k:l}:∀{m:List (l×MV)},¬k∈m.map (·.1)->(m.map λu=>if u.1=k then(u.1,x)else u)=m
 |[],_=>rfl
 |(j,y)::r,h=>by
  rw[Xx,if_neg (λe=>h (by simp[show j=k from e])),JS (λe=>h (by simp[e]))]
theorem JT{u:Type} [DecidableEq u] {k:u}:∀{m:List (u×MV)},(m.map (·.1)).Nodup->putM m k x=if(m.any λl=>decide (l.1=k))=true then m.map (λl=>if l.1=k then(l.1,x)else l)else m++[(k,x)]
 |[],_=>rfl
 |(j,y)::r,h=>by
  rw[Xx,YI]at h;unfold putM;rw[ZF];by_cases e:j=k
  .subst e;rw[if_pos rfl,if_pos (by simp),Xx,if_pos rfl,JS h.1]
  .rw[if_neg e,JT h.2,show decide ((j,y).1=k)=false from decide_eq_false e,Eb,Xx,if_neg (show¬(j,y).1=k from e)];split<;>rfl
theorem JU{l:Type} [DecidableEq l] {k:l}:∀(m:List (l×MV)),((putM m k x).map (·.1))=if k∈m.map (·.1)then m.map (·.1)else m.map (·.1)++[k]
 |[]=>rfl
 |(j,y)::r=>by
  unfold putM;by_cases e:j=k
  .subst e;simp
  .rw[if_neg e,Xx,JU r,Xx];have u:k≠j:=λz=>e z.symm;by_cases m:k∈r.map (·.1)
   .rw[if_pos m,if_pos (Xl.mpr (.inr m))]
   .rw[if_neg m,if_neg (λz=>(Xl.mp z).elim u m)];rfl
theorem JV{K:X4}{k:Key}(r:RM K H x u)(j:(m.map (·.1)).Nodup)(h:RKs K H m v):
  RKs K H (putM m k x) (putK v k u)/\((putM m k x).map (·.1)).Nodup:=by
 refine⟨?_,?_⟩
 .rw[JT j];unfold putK;rw[JQ h];split
  .exact EH r h
  .exact JR h (.cons r .nil)
 .rw[JU];split
  .exact j
  .exact Jl j (by assumption)
def wIn(x y:MV)(M:MH)(k:Bool->Prop):Prop:=match y with
 |.tup j=>Y9 x=true/\j.all Y9=true/\k (inV (toV x) (j.map toV))
 |.frl j=>Y9 x=true/\j.all Y9=true/\k (inV (toV x) (j.map toV))
 |.ref a=>(∃j,M a=some (.lst j)/\Y9 x=true/\j.all Y9=true/\k (inV (toV x) (j.map toV)))\/∃l u,M a=some (.dic l)/\keyM x=some u/\k (valM l u).isSome
 |_=>False
noncomputable def UD:MV->Bool
 |.non=>true|_=>false
noncomputable def isBl(b:Bool):MV->Bool
 |.bl c=>decide (c=b)
 |_=>false
def wCmp(op:CmpOp)(x y:MV)(M:MH)(Q:QM):Prop:=match op with
 |.Lt=>∃i j,x=.int i/\y=.int j/\Q (.bl (decide (i<j))) M
 |.LtE=>(∃i j,x=.int i/\y=.int j/\Q (.bl (decide (i<=j))) M)\/∃i j,x=.str i/\y=.str j/\Q (.bl (!decide (j.cps.toList<i.cps.toList))) M
 |.Gt=>∃i j,x=.int i/\y=.int j/\Q (.bl (decide (j<i))) M
 |.GtE=>∃i j,x=.int i/\y=.int j/\Q (.bl (decide (j<=i))) M
 |.Eq=>wEq x y M λb=>Q (.bl b) M
 |.NotEq=>wEq x y M λb=>Q (.bl (!b)) M
 |.In=>wIn x y M λb=>Q (.bl b) M
 |.NotIn=>wIn x y M λb=>Q (.bl (!b)) M
 |.Is=>(y=.non/\Q (.bl (UD x)) M)\/∃b,y=.bl b/\Q (.bl (isBl b x)) M
 |.IsNot=>(y=.non/\Q (.bl (!UD x)) M)\/∃b,y=.bl b/\Q (.bl (!isBl b x)) M
set_option tactic.hygienic true in
theorem JW{k:Bool->Prop}(j:∀b,k b->k' b)(h:wEq x y M k):wEq x y M k':=by
 unfold wEq at h ⊢;split
 .rename_i b e;rw[e]at h;exact j _ h
 .rename_i e;rw[e]at h;refine h.imp (fun⟨l,m,a,b,c,d,h⟩=>⟨l,m,a,b,c,d,j _ h⟩) λh=>?_;rcases h with⟨n,u,w,z⟩|⟨a,b,l,u,w,z,g,f⟩|h|h
  .exact .inl ⟨n,u,w,j _ z⟩
  .exact .inr (.inl ⟨a,b,l,u,w,z,g,j _ f⟩)
  .exact h.elim
  .exact h.elim
theorem JX{k:Bool->Prop}(j:∀b,k b->k' b)(h:wIn x y M k):wIn x y M k':=by
 unfold wIn at h ⊢;split at h
 .exact⟨h.1,h.2.1,j _ h.2.2⟩
 .exact⟨h.1,h.2.1,j _ h.2.2⟩
 .rcases h with⟨m,l,u,w,g⟩|⟨z,d,l,u,w⟩
  .exact .inl ⟨m,l,u,w,j _ g⟩
  .exact .inr ⟨z,d,l,u,j _ w⟩
 .exact h.elim
theorem VY(op:CmpOp):Mon2 (wCmp op):=by
 intro x y M Q m l h;cases op
 .exact JW (k:=λb=>Q (.bl b) M) (k':=λb=>m (.bl b) M) (λb h=>l _ _ h) h
 .exact JW (k:=λb=>Q (.bl (!b)) M) (k':=λb=>m (.bl (!b)) M) (λb h=>l _ _ h) h
 .obtain⟨i,j,u,w,z⟩:=h;exact⟨i,j,u,w,l _ _ z⟩
 .rcases h with⟨i,j,u,w,z⟩|⟨i,j,u,w,z⟩
  .exact .inl ⟨i,j,u,w,l _ _ z⟩
  .exact .inr ⟨i,j,u,w,l _ _ z⟩
 .obtain⟨i,j,u,w,z⟩:=h;exact⟨i,j,u,w,l _ _ z⟩
 .obtain⟨i,j,u,w,z⟩:=h;exact⟨i,j,u,w,l _ _ z⟩
 .rcases h with h|⟨b,e,h⟩
  .exact .inl ⟨h.1,l _ _ h.2⟩
  .exact .inr ⟨b,e,l _ _ h⟩
 .rcases h with h|⟨b,e,h⟩
  .exact .inl ⟨h.1,l _ _ h.2⟩
  .exact .inr ⟨b,e,l _ _ h⟩
 .exact JX (k:=λb=>Q (.bl b) M) (k':=λb=>m (.bl b) M) (λb h=>l _ _ h) h
 .exact JX (k:=λb=>Q (.bl (!b)) M) (k':=λb=>m (.bl (!b)) M) (λb h=>l _ _ h) h
section
variable{X:Cx}
set_option tactic.hygienic true in
theorem JY{K:X4}(r:RM K H m v):decide (v=.bl b)=isBl b m:=by
 cases r<;>first|rfl|(rename_i c;cases b<;>cases c<;>rfl)
theorem JZ{K:X4}(r:RM K H m v):decide (v=.non)=UD m:=by cases r<;>rfl
theorem _sG{k:Key}(r:KV kvs vs)(h:valV kvs k=some v):∃u,Z2 vs k=some u/\RelV v u:=by
 have q:=r.val k;rw[h]at q;exact RelO.some_of q
theorem LstM.sq(j:RH X.K M H)(h:LstM M x xs)(r:RM X.K H x u):∃a vs,u=.ref a/\SqL X.K H a vs/\RMs X.K H xs vs:=by
 rcases h with rfl|⟨a,rfl,h⟩
 .obtain⟨_,_,rfl,l,w⟩:=r.inv;exact⟨_,_,rfl,l.sq,w⟩
 .obtain rfl:=r.inv;obtain⟨vs,e,q⟩:=j.lst h;exact⟨a,vs,rfl,SqL.of e,q⟩
theorem D0{xs:List V}{us:List X0}(r:Vals xs us){i:Nat}{u:X0}(h:us[i]?=some u):∃x,xs[i]?=some x/\RelV x u:=by
 induction r generalizing i with
 |nil=>cases h
 |cons q _ j=>
  cases i with
  |zero=>cases h;exact⟨_,rfl,q⟩
  |succ i=>exact j (i:=i) h
theorem _qJ(r:KV kvs vs){k:Key}(h:(k,u)∈vs):∃x,(k,x)∈kvs/\RelV x u:=by
 induction r with
 |nil=>cases h
 | @cons p j _ _ q _ l=>
  obtain⟨w,y⟩:=p;obtain⟨d,c⟩:=j;rcases Xl.mp h with e|h
  .cases e;have z:w=k:=q.1;subst z;exact⟨y,Yb,q.2⟩
  .obtain⟨x,m,g⟩:=l h;exact⟨x,XS _ m,g⟩
theorem K0{K:X4}{k:Key}:∀{m:List (Key×MV)} {vs:List (Key×V)},RKs K H m vs->(k,v)∈vs->∃x,(k,x)∈m/\RM K H x v
 |_,_,.nil,h=>by cases h
 |_,_,.cons r t,h=>by
  rcases Xl.mp h with e|h
  .cases e;exact⟨_,Yb,r⟩
  .obtain⟨x,m,q⟩:=K0 t h;exact⟨x,XS _ m,q⟩
set_option tactic.hygienic true in
theorem Alike.inn{pq:List (Addr×Obj)}{s:X2}{σ:St}{H:Hp}{M:MH}(I:Inv X pq σ H s)(C:RH X.K M H){n:Nat}{A:Xz}(c:A.units<cLine)
  (G:∀{x y:MV} {u v:V} {l w:X0},Alike M n x y->RM X.K H x u->RM X.K H y v->RelV u l->RelV v w->AliP X.prog X.w A.in1 s l w)
  {x y:MV} {u v:V} {l w:X0} (h:Alike M (n+1) x y)(J:RM X.K H x u)(Q:RM X.K H y v)(S:RelV u l)(o:RelV v w):
  (Y9 x=true/\x=y)\/∃a b,l=.ref a/\w=.ref b/\RcP X.prog X.w A s (.ref a) (.ref b)/\RnP X.prog X.w A s (.ref a) (.ref b):=by
 rw[Alike]at h;rcases h with h|⟨xs,ys,rfl,rfl,e,h⟩|⟨xs,ys,D,E,e,h⟩|⟨a,b,ka,kb,rfl,rfl,D,E,e,h⟩
 .exact .inl h
 .obtain⟨_,_,rfl,g1,q⟩:=J.inv;cases Q with
  |tup g2 r=>
   rename_i a vs b us
   obtain rfl:l=Xo a:=S;obtain rfl:w=Xo b:=o;obtain⟨m,L,N,_⟩:=I.tuple (SqT.of g1);obtain⟨g,O,P,_⟩:=I.tuple (SqT.of g2);have z:m.toArray.size=g.toArray.size:=by rw[XO,XO,<-L.length,<-O.length,<-q.length,<-r.length];exact e
   have d:∀p∈m.toArray.toList.zip g.toArray.toList,AliP X.prog X.w A.in1 s p.1 p.2:=by
    intro p hp;obtain⟨i,hi⟩:=List.mem_iff_getElem?.mp hp;rw[List.getElem?_zip_eq_some]at hi;obtain⟨x1,R,T⟩:=D0 L hi.1;obtain⟨x2,U,W⟩:=D0 O hi.2;obtain⟨Y,f,d3⟩:=q.get' R;obtain⟨F,Z,d4⟩:=r.get' U;exact G (h i Y F f Z) d3 d4 T W
   exact .inr ⟨_,_,rfl,rfl,_pF N P z c d,_o4 N P z c d⟩
 .obtain⟨a,vs,rfl,g1,q⟩:=D.sq C J;obtain⟨b,us,rfl,g2,r⟩:=E.sq C Q;obtain rfl:l=Xo a:=S;obtain rfl:w=Xo b:=o;obtain⟨m,L,⟨o1,n1,N,P,_,t3⟩,_⟩:=I.list g1;obtain⟨g,O,⟨o2,n2,t4,t5,_,t6⟩,_⟩:=I.list g2;have z:m.toArray.size=g.toArray.size:=by rw[XO,XO,<-L.length,<-O.length,<-q.length,<-r.length];exact e
  have d:∀j (D:j<m.toArray.size)(E:j<g.toArray.size),AliP X.prog X.w A.in1 s m.toArray[j] g.toArray[j]:=by
   intro i l1 l2;obtain⟨x1,R,T⟩:=D0 L (i:=i) (u:=m.toArray[i]) (by simp[X7 (show i<m.length by simpa using l1)])
   obtain⟨x2,U,W⟩:=D0 O (i:=i) (u:=g.toArray[i]) (by simp[X7 (show i<g.length by simpa using l2)])
   obtain⟨Y,f,d3⟩:=q.get' R;obtain⟨F,Z,d4⟩:=r.get' U;exact G (h i Y F f Z) d3 d4 T W
  exact .inr ⟨_,_,rfl,rfl,_pG ⟨o1,N,P,n1,t3⟩ ⟨o2,t4,t5,n2,t6⟩ z c d,_o5 ⟨o1,N,P,n1,t3⟩ ⟨o2,t4,t5,n2,t6⟩ z c d⟩
 .obtain rfl:=J.inv;obtain rfl:=Q.inv;obtain rfl:l=Xo a:=S;obtain rfl:w=Xo b:=o;obtain⟨va,ea,wa,_⟩:=C.dic D;obtain⟨vb,eb,wb,_⟩:=C.dic E;obtain⟨_,na,ua,pa,da⟩:=CP I.hok ea;obtain⟨_,nb,ub,pb,db⟩:=CP I.hok eb;have z:ua.length=ub.length:=by rw[<-Paired.length pa,<-wa.length,<-Paired.length pb,<-wb.length];exact e
  have d:∀p∈ua,∃y,Z2 ub p.1=some y/\AliP X.prog X.w A.in1 s p.2 y:=by
   rintro⟨k,u1⟩ hp;obtain⟨x1,R,T⟩:=_qJ pa hp;obtain⟨Y,U,W⟩:=K0 wa R;obtain⟨F,f,Z⟩:=h k Y U;rcases VX (k:=k) wb with⟨B,z2⟩|⟨x',u2,B,z2,r3⟩
   .rw[f]at B;cases B
   .rw[f]at B;cases B;obtain⟨w',hw,rw'⟩:=_sG pb z2;exact⟨w',hw,G Z W r3 T rw'⟩
  exact .inr ⟨_,_,rfl,rfl,_pH na nb da db c z d,_o6 na nb da db c z d⟩
theorem K1{K:X4}(f:Y9 x=true)(j:RM K H x u)(l:RM K H x v)(y:RelV u u')(z:RelV v v'):AliP P w A s u' v':=by
 obtain⟨rfl,m⟩:=U9 f j;obtain⟨rfl,g⟩:=U9 f l;have h:=Ew (A:=A) (s:=s) y z m g;have e:eqV (toV x) (toV x)=true:=by cases x<;>first|(cases f;done)|simp[toV,eqV]
 rw[e]at h;exact .of_at h
theorem Alike.ok(I:Inv X pq σ H s)(d:RH X.K M H):∀(n:Nat){A:Xz} {x y:MV} {u v:V} {m g:X0},A.units+n<cLine->Alike M n x y->RM X.K H x u->RM X.K H y v->RelV u m->RelV v g->AliP X.prog X.w A s m g
 |0,A,x,y,u,v,m,g,hu,h,j,l,w,z=>by
  rw[Alike]at h;obtain⟨f,rfl⟩:=h;exact K1 f j l w z
 |n+1,A,x,y,u,v,m,g,hu,h,j,l,w,z=>by
  rcases Alike.inn I d (A:=A) (by lia) (λh j l w z=>Alike.ok I d n (show A.units+1+n<cLine by lia) h j l w z) h j l w z with⟨f,rfl⟩|⟨a,b,rfl,rfl,h,_⟩
  .exact K1 f j l w z
  .exact .refs h
theorem Alike.top(I:Inv X pq σ H s)(m:RH X.K M H)(h:Alike M n x y)(q:X.A.units+n<cLine)(d:eqS x y=none)(j:RM X.K H x u)(l:RM X.K H y v)(w:RelV u u')(z:RelV v v'):
  RcP X.prog X.w X.A s u' v'/\RnP X.prog X.w X.A s u' v':=by
 have g:¬(Y9 x=true/\x=y):=by
  rintro⟨f,rfl⟩;cases x<;>first|(cases f;done)|(cases d;done)
 cases n with
 |zero=>rw[Alike]at h;exact(g h).elim
 |succ n=>
  rcases Alike.inn I m (A:=X.A) (by lia) (λh j l w z=>Alike.ok I m n (show X.A.units+1+n<cLine by lia) h j l w z) h j l w z with f|⟨a,b,rfl,rfl,h,c⟩
  .exact(g f).elim
  .exact⟨h,c⟩
theorem rdT{K:X4}{H:Hp}{xs ys:List MV}{u v:V}(j:xs.all Y9=true)(l:ys.all Y9=true)(w:RM K H (.tup xs) u)(y:RM K H (.tup ys) v):∃a b,u=.ref a/\v=.ref b/\SqT K H a (xs.map toV)/\SqT K H b (ys.map toV)/\(xs.map toV).all YJ=true/\(ys.map toV).all YJ=true:=by
 obtain⟨a,q,rfl,z,m⟩:=w.inv;obtain⟨b,r,rfl,g,d⟩:=y.inv;obtain⟨rfl,c⟩:=Ua j m;obtain⟨rfl,f⟩:=Ua l d;exact⟨a,b,rfl,rfl,SqT.of z,SqT.of g,c,f⟩
set_option tactic.hygienic true in
theorem VZ(hu:X.A.units+70<cLine)(op:CmpOp):OpR X (XZ op) (li2 X.K (wCmp op)):=by
 intro d s c H x y v u Q I w z h;obtain⟨F,G,M,m,g,R,h⟩:=h;have l:∀b,Dn X.K H Q (.bl b) M->Q (.bl b) H:=λb h=>h _ _ (Kp.refl _) (.bl b) R;have D:X.A.units+1<cLine:=by lia
 have hu64:X.A.units+64<cLine:=by lia
 have huI:X.A.in1.units+64<cLine:=by show X.A.units+1+64<cLine;lia
 have T:X.A.units<cLine:=by lia
 cases op with
 |Lt=>obtain⟨i,j,rfl,rfl,h⟩:=h;obtain rfl:=m.inv;obtain rfl:=g.inv;exact _sB d s c H _ _ v u Q I w z ⟨_,_,rfl,rfl,l _ h⟩
 |LtE=>
  rcases h with⟨i,j,rfl,rfl,h⟩|⟨i,j,rfl,rfl,h⟩
  .obtain rfl:=m.inv;obtain rfl:=g.inv;exact _sC d s c H _ _ v u Q I w z ⟨_,_,rfl,rfl,l _ h⟩
  .obtain rfl:=m.inv;obtain rfl:=g.inv;obtain⟨t1,rfl⟩:=w;obtain⟨t2,rfl⟩:=z;exact PySem.P.le_str ⟨.bl _,H,I,rfl,l _ h⟩
 |Gt=>obtain⟨i,j,rfl,rfl,h⟩:=h;obtain rfl:=m.inv;obtain rfl:=g.inv;exact _sD d s c H _ _ v u Q I w z ⟨_,_,rfl,rfl,l _ h⟩
 |GtE=>obtain⟨i,j,rfl,rfl,h⟩:=h;obtain rfl:=m.inv;obtain rfl:=g.inv;exact _sE d s c H _ _ v u Q I w z ⟨_,_,rfl,rfl,l _ h⟩
 |Is=>
  rcases h with⟨rfl,h⟩|⟨b,rfl,h⟩
  .obtain rfl:=g.inv;exact _qu d s c H _ _ v u Q I w z ⟨rfl,by rw[JZ m];exact l _ h⟩
  .obtain rfl:=g.inv;exact _nV d s c H _ _ v u Q I w z ⟨b,rfl,by rw[JY m];exact l _ h⟩
 |IsNot=>
  rcases h with⟨rfl,h⟩|⟨b,rfl,h⟩
  .obtain rfl:=g.inv;exact _nR d s c H _ _ v u Q I w z ⟨rfl,by rw[JZ m];exact l _ h⟩
  .obtain rfl:=g.inv;exact _lk d s c H _ _ v u Q I w z ⟨b,rfl,by rw[JY m];exact l _ h⟩
 |Eq=>
  have h:wEq F G M λb=>Dn X.K H Q (.bl b) M:=h;unfold wEq at h;split at h
  .rename_i b e
   obtain⟨f,q⟩:=JP e m g;exact _sF d s c H _ _ v u Q I w z ⟨f,by rw[q];exact l _ h⟩
  .rcases h with⟨W,ys,rfl,rfl,L,N,Y⟩|h
   .obtain⟨a,b,J,S,o,s2,O,P⟩:=rdT L N m g;exact _qv T d s c H _ _ v u Q I w z ⟨a,b,_,_,J,S,o,s2,O,P,l _ Y⟩
   rcases h with⟨n,p,Z,A⟩|⟨a,b,W,rfl,rfl,A,h4,Y⟩|h|h
   .exact(Z.top I R (by lia) (by assumption) m g w z).1 _ _ ⟨.bl true,H,I,rfl,l _ A⟩
   .obtain rfl:=m.inv;obtain rfl:=g.inv;obtain⟨U,f,r⟩:=R.lst A;obtain⟨us,q,q2⟩:=R.lst h4;obtain rfl:=q2.inv;refine _ln T d s c H _ _ v u Q I w z ⟨_,_,U,rfl,rfl,SqL.of f,SqL.of q,?_⟩;have:U.isEmpty=W.isEmpty:=by cases r<;>rfl
    rw[this];exact l _ Y
   .exact h.elim
   .exact h.elim
 |NotEq=>
  have h:wEq F G M λb=>Dn X.K H Q (.bl (!b)) M:=h;unfold wEq at h;split at h
  .rename_i b e
   obtain⟨f,q⟩:=JP e m g;exact _sA d s c H _ _ v u Q I w z ⟨f,by rw[q];exact l _ h⟩
  .rcases h with⟨W,ys,rfl,rfl,L,N,Y⟩|h
   .obtain⟨a,b,J,S,o,s2,O,P⟩:=rdT L N m g;exact _qr T d s c H _ _ v u Q I w z ⟨a,b,_,_,J,S,o,s2,O,P,l _ Y⟩
   rcases h with⟨n,p,Z,A⟩|⟨a,b,W,rfl,rfl,A,h4,Y⟩|h|h
   .exact(Z.top I R (by lia) (by assumption) m g w z).2 _ _ ⟨.bl false,H,I,rfl,l _ A⟩
   .obtain rfl:=m.inv;obtain rfl:=g.inv;obtain⟨U,f,r⟩:=R.lst A;obtain⟨us,q,q2⟩:=R.lst h4;obtain rfl:=q2.inv;refine _ll T d s c H _ _ v u Q I w z ⟨_,_,U,rfl,rfl,SqL.of f,SqL.of q,?_⟩;have:U.isEmpty=W.isEmpty:=by cases r<;>rfl
    rw[this];exact l _ Y
   .exact h.elim
   .exact h.elim
 |In=>
  have h:wIn F G M λb=>Dn X.K H Q (.bl b) M:=h;unfold wIn at h;split at h
  .obtain⟨_,_,rfl,p,r⟩:=g.inv;obtain⟨L,N,h⟩:=h;obtain⟨f,O⟩:=U9 L m;obtain⟨q,P⟩:=Ua N r;exact Ex d s c H _ _ v u Q I w z ⟨_,_,rfl,.inr (SqT.of p),O,P,by rw[f,q];exact l _ h⟩
  .obtain⟨_,_,rfl,p,r⟩:=g.inv;obtain⟨L,N,h⟩:=h;obtain⟨f,O⟩:=U9 L m;obtain⟨q,P⟩:=Ua N r;exact Ex d s c H _ _ v u Q I w z ⟨_,_,rfl,.inl p.sq,O,P,by rw[f,q];exact l _ h⟩
  .obtain rfl:=g.inv;rcases h with⟨W,p,L,N,h⟩|⟨kvs,E,p,Z,h⟩
   .obtain⟨U,e,r⟩:=R.lst p;obtain⟨f,O⟩:=U9 L m;obtain⟨q,P⟩:=Ua N r;exact Ex d s c H _ _ v u Q I w z ⟨_,_,rfl,.inl (SqL.of e),O,P,by rw[f,q];exact l _ h⟩
   .obtain⟨U,e,r,_⟩:=R.dic p;have:=VW Z m;subst this;obtain rfl:u=Xo _:=z;refine d_in D I (DGet.k (k:=E) e) w λs3 I3=>⟨.bl _,H,I3,rfl,?_⟩;rcases VX (k:=E) r with⟨B,C⟩|⟨x',u',B,C,_⟩
    .rw[C];rw[B]at h;exact l _ h
    .rw[C];rw[B]at h;exact l _ h
  .exact h.elim
 |NotIn=>
  have h:wIn F G M λb=>Dn X.K H Q (.bl (!b)) M:=h;unfold wIn at h;split at h
  .obtain⟨_,_,rfl,p,r⟩:=g.inv;obtain⟨L,N,h⟩:=h;obtain⟨f,O⟩:=U9 L m;obtain⟨q,P⟩:=Ua N r;exact Ey d s c H _ _ v u Q I w z ⟨_,_,rfl,.inr (SqT.of p),O,P,by rw[f,q];exact l _ h⟩
  .obtain⟨_,_,rfl,p,r⟩:=g.inv;obtain⟨L,N,h⟩:=h;obtain⟨f,O⟩:=U9 L m;obtain⟨q,P⟩:=Ua N r;exact Ey d s c H _ _ v u Q I w z ⟨_,_,rfl,.inl p.sq,O,P,by rw[f,q];exact l _ h⟩
  .obtain rfl:=g.inv;rcases h with⟨W,p,L,N,h⟩|⟨kvs,E,p,Z,h⟩
   .obtain⟨U,e,r⟩:=R.lst p;obtain⟨f,O⟩:=U9 L m;obtain⟨q,P⟩:=Ua N r;exact Ey d s c H _ _ v u Q I w z ⟨_,_,rfl,.inl (SqL.of e),O,P,by rw[f,q];exact l _ h⟩
   .obtain⟨U,e,r,_⟩:=R.dic p;have:=VW Z m;subst this;obtain rfl:u=Xo _:=z;refine _oT D I (DGet.k (k:=E) e) w λs3 I3=>⟨.bl _,H,I3,rfl,?_⟩;rcases VX (k:=E) r with⟨B,C⟩|⟨x',u',B,C,_⟩
    .rw[C];rw[B]at h;exact l _ h
    .rw[C];rw[B]at h;exact l _ h
  .exact h.elim
end
def wIx(x y:MV)(M:MH)(Q:QM):Prop:=match x with
 |.tup l=>∃i v,y=.int i/\atI l i=some v/\Q v M
 |.frl l=>∃i v,y=.int i/\atI l i=some v/\Q v M
 |.str z=>∃i c,y=.int i/\z.length<=sizeLine/\atI z.cps.toList i=some c/\Q (.str ⟨#[c]⟩) M
 |.ref a=>(∃l i v,M a=some (.lst l)/\y=.int i/\atI l i=some v/\Q v M)\/(∃j u v,M a=some (.dic j)/\keyM y=some u/\valM j u=some v/\Q v M)\/∃o j u v,M a=some (.fdic o j)/\keyM y=some u/\valM j u=some v/\Q v M
 |_=>False
theorem K2:Mon2 wIx:=by
 intro x y M Q c m h;unfold wIx at h ⊢;split at h
 .obtain⟨i,v,j,l,u⟩:=h;exact⟨i,v,j,l,m _ _ u⟩
 .obtain⟨i,v,j,l,u⟩:=h;exact⟨i,v,j,l,m _ _ u⟩
 .obtain⟨i,v,j,l,u,w⟩:=h;exact⟨i,v,j,l,u,m _ _ w⟩
 .rcases h with⟨d,i,v,j,l,u,w⟩|⟨z,g,v,j,l,u,w⟩|⟨o,z,g,v,j,l,u,w⟩
  .exact .inl ⟨d,i,v,j,l,u,m _ _ w⟩
  .exact .inr (.inl ⟨z,g,v,j,l,u,m _ _ w⟩)
  .exact .inr (.inr ⟨o,z,g,v,j,l,u,m _ _ w⟩)
 .exact h.elim
theorem RMs.atI{K:X4}(r:RMs K H m v)(e:atI m i=some x):∃u,atI v i=some u/\RM K H x u:=by
 unfold L2.atI at e ⊢;rw[<-r.length];cases q:ixN m.length i with
 |none=>rw[q]at e;cases e
 |some j=>rw[q]at e;exact r.get e
section
variable{X:Cx}
theorem K3(z:X.A.units+1<cLine):IxR X (λx y H Q=>∃a v,x=.ref a/\DGet H a y (some v)/\Q v H):=by
 intro j l p s e H x y v u Q I m d h c;obtain⟨a,f,rfl,g,q⟩:=h;obtain rfl:v=Xo a:=m;exact tail_any (_gw I g) PySem.F.slot_dict_getitem.lookup (_ka z I g d λL N r w=>⟨f,H,r,w,q⟩) c
theorem _qS(F:X.A.units+1<cLine):IxR X (li2 X.K wIx):=by
 intro j l O s P H x y v u Q I R T h U;obtain⟨S,n,M,Z,W,z,h⟩:=h;unfold wIx at h;split at h
 .obtain⟨i,A,rfl,m,w⟩:=h;obtain rfl:=W.inv;obtain⟨_,_,rfl,d,f⟩:=Z.inv;obtain⟨q,e,r⟩:=f.atI m;exact _qQ j l O s P H _ _ v u Q I R T ⟨_,_,_,q,rfl,rfl,SqT.of d,e,w _ _ (Kp.refl _) r z⟩ U
 .obtain⟨i,A,rfl,m,w⟩:=h;obtain rfl:=W.inv;obtain⟨_,_,rfl,d,f⟩:=Z.inv;obtain⟨q,e,r⟩:=f.atI m;exact J7 j l O s P H _ _ v u Q I R T ⟨_,_,_,q,rfl,rfl,d.sq,e,w _ _ (Kp.refl _) r z⟩ U
 .obtain⟨i,c,rfl,m,w,p⟩:=h;obtain rfl:=Z.inv;obtain rfl:=W.inv;exact _qR j l O s P H _ _ v u Q I R T ⟨_,_,c,rfl,rfl,m,w,p _ _ (Kp.refl _) (.str _) z⟩ U
 .obtain rfl:=Z.inv;rcases h with⟨b,i,A,d,rfl,w,p⟩|⟨C,L,A,d,m,w,p⟩|⟨o,C,L,A,d,m,w,p⟩
  .obtain rfl:=W.inv;obtain⟨B,e,f⟩:=z.lst d;obtain⟨q,G,r⟩:=f.atI w;exact J7 j l O s P H _ _ v u Q I R T ⟨_,_,_,q,rfl,rfl,SqL.of e,G,p _ _ (Kp.refl _) r z⟩ U
  .obtain⟨B,e,f,_⟩:=z.dic d;have D:=VW m W;rcases VX (k:=L) f with⟨N,Y⟩|⟨J,q,N,Y,E⟩
   .rw[N]at w;cases w
   .rw[N]at w;cases w;have g:=DGet.k (k:=L) e;rw[Y]at g;subst D;exact K3 F j l O s P H _ _ v u Q I R T ⟨_,q,rfl,g,p _ _ (Kp.refl _) E z⟩ U
  .obtain⟨B,e,f,_⟩:=z.fdic d;have D:=VW m W;rcases VX (k:=L) f with⟨N,Y⟩|⟨J,q,N,Y,E⟩
   .rw[N]at w;cases w
   .rw[N]at w;cases w;have g:DGet H _ (kV L) (valV B L):=.inl ⟨B,L,.inr ⟨o,e⟩,rfl,rfl⟩;rw[Y]at g;subst D;exact K3 F j l O s P H _ _ v u Q I R T ⟨_,q,rfl,g,p _ _ (Kp.refl _) E z⟩ U
 .exact h.elim
end
noncomputable def cutM(xs:List MV)(lo j:Option Int):List MV:=(xs.drop (HT.sIx xs.length 0 lo)).take (HT.sIx xs.length xs.length j - HT.sIx xs.length 0 lo)
theorem RMs.cut{K:X4}(r:RMs K H m v)(lo j:Option Int):RMs K H (cutM m lo j) (cutV v lo j):=by
 unfold cutM cutV;rw[<-r.length];exact(r.drop _).take _
abbrev WS:=MV->Option Int->Option Int->MH->QM->Prop
def wSl:WS:=λx lo j M Q=>match x with
 |.tup xs=>Q (.tup (cutM xs lo j)) M
 |.frl xs=>∀p,M p=none->Q (.ref p) (updM M p (.lst (cutM xs lo j)))
 |_=>False
theorem K4{x:MV}{lo j:Option Int}{M:MH}{Q l:QM}(u:∀m M',Q m M'->l m M')(h:wSl x lo j M Q):wSl x lo j M l:=by
 unfold wSl at h ⊢;split at h
 .exact u _ _ h
 .exact λp w=>u _ _ (h p w)
 .exact h.elim
def liS(K:X4)(w:WS):V->Option Int->Option Int->Hp->VK->Prop:=λx lo l H Q=>∃j M,RM K H j x/\RH K M H/\w j lo l M (Dn K H Q)
section
variable{X:Cx}
set_option tactic.hygienic true in
theorem _pw:SlR X (liS X.K wSl):=by
 intro m s g H x v d c lo j f Q I q r L N h;obtain⟨R,M,P,z,h⟩:=h;unfold wSl at h;split at h
 .rename_i u
  obtain⟨_,_,rfl,w,l⟩:=P.inv
  rename_i O
  by_cases hw:HT.sIx u.length 0 lo=0/\HT.sIx u.length u.length j=u.length
  .have e:cutM u lo j=u:=by unfold cutM;rw[hw.1,hw.2,List.drop_zero,Nat.sub_zero,C2]
   rw[e]at h;refine _nc m s g H _ v d c lo j f Q I q r L N ⟨_,_,rfl,SqT.of w,by rw[<-l.length];exact hw.1,by rw[<-l.length];exact hw.2,?_⟩
   exact h _ _ (Kp.refl _) (.tup w l) z
  refine _pv m s g H _ v d c lo j f Q I q r L N ⟨_,_,rfl,SqT.of w,by rw[<-l.length];exact hw,λp y=>?_⟩
  have k:=Kp.new y (.tup (cutV O lo j));exact h _ _ k (.tup _I ((l.cut lo j).mono k)) (z.kept y _)
 .obtain⟨_,_,rfl,w,l⟩:=P.inv
  rename_i O
  refine _nd m s g H _ v d c lo j f Q I q r L N ⟨_,_,rfl,w.sq,λp y=>?_⟩;have k:=Kp.new y (.lst (cutV O lo j));exact h p (z.free y) _ _ k (.ref p) (z.put k ((l.cut lo j).mono k))
 .exact h.elim
end
def tyM(M:MH):MV->Option Ty7
 |.non=>some .none|.bl _=>some .bool|.int _=>some .int|.str _=>some .str|.tup _=>some .tuple
 |.ref a=>match M a with|some (.lst _)=>some .list|some (.dic _)=>some .dict|_=>none
 |_=>none
noncomputable def isTy:Ty7->Ty7->Bool
 |.bool,.int=>true
 |a,b=>decide (a=b)
theorem EI(K:X4)(T c:Ty7)(j:c≠.none):UU K (.type T.name) (.type c.name)=some (isTy T c):=by
 cases T<;>cases c<;>first|exact absurd rfl j|with_unfolding_all rfl
theorem K5{K:X4}(j:RH K M H)(r:RM K H m v)(e:tyM M m=some T):TyOf K H v (.type T.name):=by
 cases r with
 |non=>cases e;exact .non
 |bl b=>cases e;exact .bl b
 |int i=>cases e;exact .int i
 |str x=>cases e;exact .str x
 |tup h _=>cases e;exact .tup h
 |frl _ _=>cases e
 |ty _=>cases e
 |ref a=>
  unfold tyM at e;dsimp only at e;cases q:M a with
  |none=>rw[q]at e;cases e
  |some o=>
   rw[q]at e;cases o with
   |lst w=>cases e;obtain⟨l,h,_⟩:=j.lst q;exact .lst h
   |dic u=>cases e;obtain⟨l,h,_⟩:=j.dic q;exact .dK h
   |ins _ _=>cases e
   |fdic _ _=>cases e
inductive BI where|len|isinst|max|min|sum|abs|int|list|tuple|dict|sorted|dictL|all
  deriving DecidableEq
noncomputable def bLen(vs:List MV)(M:MH)(Q:QM):Prop:=match vs with
 |[.tup j]=>Q (.int j.length) M
 |[.frl j]=>Q (.int j.length) M
 |[.str z]=>z.length<=sizeLine/\Q (.int z.length) M
 |[.ref a]=>(∃j,M a=some (.lst j)/\Q (.int j.length) M)\/∃l,M a=some (.dic l)/\Q (.int l.length) M
 |_=>False
def bIsi(vs:List MV)(M:MH)(Q:QM):Prop:=match vs with
 |[x,.ty c]=>∃T,tyM M x=some T/\c≠.none/\Q (.bl (isTy T c)) M
 |[x,.tup [.ty c,.ty d]]=>∃T,tyM M x=some T/\c≠.none/\d≠.none/\Q (.bl (isTy T c||isTy T d)) M
 |_=>False
noncomputable def bMax(vs:List MV)(M:MH)(Q:QM):Prop:=match vs with
 |[.int i,.int j]=>Q (.int (if j>i then j else i)) M
 |_=>False
noncomputable def bMin(vs:List MV)(M:MH)(Q:QM):Prop:=match vs with
 |[.int i,.int j]=>Q (.int (if j<i then j else i)) M
 |_=>False
noncomputable def bInt(vs:List MV)(M:MH)(Q:QM):Prop:=match vs with
 |[.bl k]=>Q (.int (if k then 1 else 0)) M
 |_=>False
def bLst(vs:List MV)(M:MH)(Q:QM):Prop:=match vs with
 |[.tup j]=>∀p,M p=none->Q (.ref p) (updM M p (.lst j))
 |[.ref a]=>∃j,M a=some (.lst j)/\∀p,M p=none->Q (.ref p) (updM M p (.lst j))
 |_=>False
noncomputable def bTup(vs:List MV)(M:MH)(Q:QM):Prop:=match vs with
 |[.ref a]=>∃j,M a=some (.lst j)/\Q (.tup j) M
 |_=>False
noncomputable def prM(p:Key×MV):MV:=.tup [match p.1 with|.inl i=>.int i|.inr x=>.str x,p.2]
def Yj(ps:List (Key×MV)):List (Key×MV):=ps.foldl (λc z=>putM c z.1 z.2) []
def bDic(vs:List MV)(M:MH)(Q:QM):Prop:=match vs with
 |[.ref a]=>∃j,M a=some (.dic j)/\∀p,M p=none->Q (.ref p) (updM M p (.dic j))
 |[.tup xs]=>∃l:List (Key×MV),xs=l.map prM/\∀p,M p=none->Q (.ref p) (updM M p (.dic (Yj l)))
 |_=>False
def bDcl(vs:List MV)(M:MH)(Q:QM):Prop:=match vs with
 |[.ref a]=>∃j:List (Key×MV),M a=some (.lst (j.map prM))/\∀p,M p=none->Q (.ref p) (updM M p (.dic (Yj j)))
 |_=>False
set_option tactic.hygienic true in
theorem K6{K:X4}:∀{ps:List (Key×MV)} {vs:List V},RMs K H (ps.map prM) vs->∃j:List (Key×V),EF H j vs/\RKs K H ps j:=by
 intro ps
 induction ps with
 |nil=>intro vs h;cases h;exact⟨[],.nil,.nil⟩
 |cons p r l=>
  obtain⟨k,x⟩:=p;intro vs h;have h:RMs K H (prM (k,x)::r.map prM) vs:=h;cases h with
  |cons a u=>
   obtain⟨j,w,y⟩:=l u;obtain⟨_,_,rfl,e,t⟩:=a.inv;cases t with
   |cons z m=>
    cases m with
    |cons g d=>
     cases d
     rename_i f c
     refine⟨(k,c)::j,.cons ⟨_,rfl,?_⟩ w,.cons g y⟩;rw[e];cases k<;>cases z<;>rfl
theorem D3{K:X4}:∀{ps:List (Key×MV)} {j:List (Key×V)} {c:List (Key×MV)} {c':List (Key×V)},RKs K H ps j->RKs K H c c'->(c.map (·.1)).Nodup->
  RKs K H (ps.foldl (λc z=>putM c z.1 z.2) c) (j.foldl (λc z=>putK c z.1 z.2) c')/\((ps.foldl (λc z=>putM c z.1 z.2) c).map (·.1)).Nodup
 |_,_,_,_,.nil,h,nd=>⟨h,nd⟩
 |_,_,_,_,.cons r t,h,nd=>by
  obtain⟨a,b⟩:=JV r nd h;have z:=D3 t a b;exact z
noncomputable def bAll(vs:List MV)(M:MH)(Q:QM):Prop:=match vs with
 |[.ref a]=>∃bs:List Bool,M a=some (.lst (bs.map MV.bl))/\Q (.bl (bs.all id)) M
 |_=>False
theorem RMs.bls_of{K:X4}{H:Hp}{bs:List Bool}{vs:List V}(h:RMs K H (bs.map MV.bl) vs):vs=bs.map V.bl:=h.map_of λ_ _ x=>by cases x;rfl
def wBi(f:BI)(vs:List MV)(M:MH)(Q:QM):Prop:=match f with
 |.len=>bLen vs M Q
 |.isinst=>bIsi vs M Q
 |.max=>bMax vs M Q
 |.min=>bMin vs M Q
 |.sum=>False
 |.abs=>False
 |.int=>bInt vs M Q
 |.list=>bLst vs M Q
 |.tuple=>bTup vs M Q
 |.dict=>bDic vs M Q
 |.sorted=>False
 |.dictL=>bDcl vs M Q
 |.all=>bAll vs M Q
theorem _oe:MonW bLen:=by
 intro y M Q z j h;unfold bLen at h ⊢;split at h
 .exact j _ _ h
 .exact j _ _ h
 .exact⟨h.1,j _ _ h.2⟩
 .rcases h with⟨l,u,w⟩|⟨l,u,w⟩
  .exact .inl ⟨l,u,j _ _ w⟩
  .exact .inr ⟨l,u,j _ _ w⟩
 .exact h.elim
theorem K7(f:BI):MonW (wBi f):=by
 intro j M Q y w h;cases f
 .exact _oe w h
 .have h:bIsi j M Q:=h;show bIsi j M y;unfold bIsi at h ⊢;split at h
  .obtain⟨T,l,u,g⟩:=h;exact⟨T,l,u,w _ _ g⟩
  .obtain⟨T,l,u,g,d⟩:=h;exact⟨T,l,u,g,w _ _ d⟩
  .exact h.elim
 .have h:bMax j M Q:=h;show bMax j M y;unfold bMax at h ⊢;split at h
  .exact w _ _ h
  .exact h.elim
 .have h:bMin j M Q:=h;show bMin j M y;unfold bMin at h ⊢;split at h
  .exact w _ _ h
  .exact h.elim
 .exact Y5 h
 .exact Y5 h
 .have h:bInt j M Q:=h;show bInt j M y;unfold bInt at h ⊢;split at h
  .exact w _ _ h
  .exact h.elim
 .have h:bLst j M Q:=h;show bLst j M y;unfold bLst at h ⊢;split at h
  .exact λp z=>w _ _ (h p z)
  .obtain⟨m,l,u⟩:=h;exact⟨m,l,λp z=>w _ _ (u p z)⟩
  .exact h.elim
 .have h:bTup j M Q:=h;show bTup j M y;unfold bTup at h ⊢;split at h
  .obtain⟨m,l,u⟩:=h;exact⟨m,l,w _ _ u⟩
  .exact h.elim
 .have h:bDic j M Q:=h;show bDic j M y;unfold bDic at h ⊢;split at h
  .obtain⟨m,l,u⟩:=h;exact⟨m,l,λp z=>w _ _ (u p z)⟩
  .obtain⟨m,l,u⟩:=h;exact⟨m,l,λp z=>w _ _ (u p z)⟩
  .exact h.elim
 .exact Y5 h
 .have h:bDcl j M Q:=h;show bDcl j M y;unfold bDcl at h ⊢;split at h
  .obtain⟨c,l,u⟩:=h;exact⟨c,l,λp z=>w _ _ (u p z)⟩
  .exact h.elim
 .have h:bAll j M Q:=h;show bAll j M y;unfold bAll at h ⊢;split at h
  .obtain⟨bs,l,u⟩:=h;exact⟨bs,l,w _ _ u⟩
  .exact h.elim
noncomputable def BI.val:BI->X0
 |.len=>.builtin "len"|.isinst=>.builtin "isinstance"|.max=>.builtin "max"|.min=>.builtin "min"|.sum=>.builtin "sum"|.abs=>.builtin "abs"
 |.int=>.type "int"|.list=>.type "list"|.tuple=>.type "tuple"|.dict=>.type "dict"|.sorted=>.builtin "sorted"|.dictL=>.type "dict"|.all=>.builtin "all"
section
variable{X:Cx}
theorem RMs.one{K:X4}(r:RMs K H [m] vs):∃v,vs=[v]/\RM K H m v:=by
 obtain⟨_,_,rfl,a,b⟩:=r.inv;cases b;exact⟨_,rfl,a⟩
theorem RMs.two{K:X4}(r:RMs K H [m,n] vs):∃v w,vs=[v,w]/\RM K H m v/\RM K H n w:=by
 obtain⟨_,_,rfl,a,b⟩:=r.inv;obtain⟨w,rfl,c⟩:=b.one;exact⟨_,_,rfl,a,c⟩
theorem _fF:YC X (.type "dict") (fun xs H Q=>∃a j,xs=[.ref a]/\H a=some (.dK j)/\∀p,H p=none->Q (.ref p) (upd H p (.dK j))):=by
 intro m s g H xs d Q I r h;obtain⟨a,j,rfl,l,q⟩:=h;obtain⟨u,rfl,w⟩:=_r r;cases w;exact _lV I (.inl l) λp c y z=>⟨.ref p,_,z,rfl,q p y⟩
theorem _p2(P:X.calm=true)(f:BI):YC X f.val (liW X.K (wBi f)):=by
 intro y s m H R g Q I r h;obtain⟨L,M,c,j,h⟩:=h;cases f with
 |len=>
  have h:bLen L M (Dn X.K H Q):=h;unfold bLen at h;split at h
  .obtain⟨v,rfl,a⟩:=c.one;obtain⟨_,_,rfl,l,u⟩:=a.inv;exact Ez y s m H _ g Q I r ⟨_,_,rfl,.inr (SqT.of l),by rw[<-u.length];exact h _ _ (Kp.refl _) (.int _) j⟩
  .obtain⟨v,rfl,a⟩:=c.one;obtain⟨_,_,rfl,l,u⟩:=a.inv;exact Ez y s m H _ g Q I r ⟨_,_,rfl,.inl l.sq,by rw[<-u.length];exact h _ _ (Kp.refl _) (.int _) j⟩
  .obtain⟨v,rfl,a⟩:=c.one;obtain rfl:=a.inv;exact _fD y s m H _ g Q I r ⟨_,rfl,h.1,h.2 _ _ (Kp.refl _) (.int _) j⟩
  .obtain⟨v,rfl,a⟩:=c.one;obtain rfl:=a.inv;rcases h with⟨R,l,h⟩|⟨U,l,h⟩
   .obtain⟨N,e,u⟩:=j.lst l;exact Ez y s m H _ g Q I r ⟨_,_,rfl,.inl (SqL.of e),by rw[<-u.length];exact h _ _ (Kp.refl _) (.int _) j⟩
   .obtain⟨N,e,u,_⟩:=j.dic l;exact _kl y s m H _ g Q I r ⟨_,_,rfl,e,by rw[<-u.length];exact h _ _ (Kp.refl _) (.int _) j⟩
  .exact h.elim
 |isinst=>
  have h:bIsi L M (Dn X.K H Q):=h;unfold bIsi at h;split at h
  .obtain⟨v,w,rfl,a,b⟩:=c.two;obtain rfl:=b.inv;obtain⟨T,l,O,W⟩:=h;exact _gC y s m H _ g Q I r ⟨_,_,_,_,rfl,K5 j a l,EI _ _ _ O,W _ _ (Kp.refl _) (.bl _) j⟩
  .obtain⟨v,w,rfl,a,b⟩:=c.two;obtain⟨T,l,O,W,B⟩:=h;obtain⟨_,_,rfl,C,D⟩:=b.inv;cases D with
   |cons u E=>
    cases E with
    |cons F G=>
     cases G;cases u;cases F;exact _fE y s m H _ g Q I r ⟨_,_,_,_,_,_,_,rfl,C,K5 j a l,EI _ _ _ O,EI _ _ _ W,B _ _ (Kp.refl _) (.bl _) j⟩
  .exact h.elim
 |max=>
  have h:bMax L M (Dn X.K H Q):=h;unfold bMax at h;split at h
  .obtain⟨v,w,rfl,a,b⟩:=c.two;obtain rfl:=a.inv;obtain rfl:=b.inv;exact _kj P y s m H _ g Q I r ⟨_,_,rfl,h _ _ (Kp.refl _) (.int _) j⟩
  .exact h.elim
 |min=>
  have h:bMin L M (Dn X.K H Q):=h;unfold bMin at h;split at h
  .obtain⟨v,w,rfl,a,b⟩:=c.two;obtain rfl:=a.inv;obtain rfl:=b.inv;exact _ki P y s m H _ g Q I r ⟨_,_,rfl,h _ _ (Kp.refl _) (.int _) j⟩
  .exact h.elim
 |sum=>exact Y5 h
 |abs=>exact Y5 h
 |int=>
  have h:bInt L M (Dn X.K H Q):=h;unfold bInt at h;split at h
  .obtain⟨v,rfl,a⟩:=c.one;obtain rfl:=a.inv;exact _km y s m H _ g Q I r (.inr ⟨_,rfl,h _ _ (Kp.refl _) (.int _) j⟩)
  .exact h.elim
 |list=>
  have h:bLst L M (Dn X.K H Q):=h;unfold bLst at h;split at h
  .obtain⟨v,rfl,a⟩:=c.one;obtain⟨_,_,rfl,l,u⟩:=a.inv;refine J9 y s m H _ g Q I r ⟨_,_,rfl,.inr (SqT.of l),λp d=>?_⟩;have k:=λz=>Kp.new d (.lst z);exact h p (j.free d) _ _ (k _) (.ref p) (j.put (k _) (u.mono (k _)))
  .obtain⟨v,rfl,a⟩:=c.one;obtain rfl:=a.inv;obtain⟨R,l,h⟩:=h;obtain⟨N,e,u⟩:=j.lst l;refine J9 y s m H _ g Q I r ⟨_,_,rfl,.inl (SqL.of e),λp d=>?_⟩;have k:=Kp.new d (.lst N);exact h p (j.free d) _ _ k (.ref p) (j.put k (u.mono k))
  .exact h.elim
 |tuple=>
  have h:bTup L M (Dn X.K H Q):=h;unfold bTup at h;split at h
  .obtain⟨v,rfl,a⟩:=c.one;obtain rfl:=a.inv;obtain⟨R,l,h⟩:=h;obtain⟨N,e,u⟩:=j.lst l;refine _eg y s m H _ g Q I r ⟨_,_,rfl,.inl ⟨SqL.of e,λp d=>?_⟩⟩;have k:=Kp.new d (.tup N);exact h _ _ k (.tup _I (u.mono k)) (j.kept d _)
  .exact h.elim
 |dict=>
  have h:bDic L M (Dn X.K H Q):=h;unfold bDic at h;split at h
  .obtain⟨v,rfl,a⟩:=c.one;obtain rfl:=a.inv;obtain⟨U,l,h⟩:=h;obtain⟨N,e,u,J⟩:=j.dic l;refine _fF y s m H _ g Q I r ⟨_,_,rfl,e,λp d=>?_⟩;have k:=Kp.new d (.dK N);exact h p (j.free d) _ _ k (.ref p) (j.put k ⟨u.mono k,J⟩)
  .obtain⟨v,rfl,a⟩:=c.one;obtain⟨S,rfl,O⟩:=h;obtain⟨_,_,rfl,e,u⟩:=a.inv;obtain⟨q,pv,Y⟩:=K6 u;refine _gD P y s m H _ g Q I r ⟨_,q,_,rfl,e,pv,λp d=>?_⟩;have k:=Kp.new d (.dK (ZL q));obtain⟨Z,A⟩:=D3 Y (.nil:RKs X.K H [] []) (by simp)
   exact O p (j.free d) _ _ k (.ref p) (j.put k ⟨Z.mono k,A⟩)
  .exact h.elim
 |sorted=>exact Y5 h
 |dictL=>
  have h:bDcl L M (Dn X.K H Q):=h;unfold bDcl at h;split at h
  .obtain⟨v,rfl,a⟩:=c.one;obtain rfl:=a.inv;obtain⟨S,l,O⟩:=h;obtain⟨N,e,u⟩:=j.lst l;obtain⟨q,pv,Y⟩:=K6 u;refine _ii P y s m H _ g Q I r ⟨_,q,N,rfl,e,pv,λp d=>?_⟩;have k:=Kp.new d (.dK (ZL q));obtain⟨Z,A⟩:=D3 Y (.nil:RKs X.K H [] []) (by simp)
   exact O p (j.free d) _ _ k (.ref p) (j.put k ⟨Z.mono k,A⟩)
  .exact h.elim
 |all=>
  have h:bAll L M (Dn X.K H Q):=h;unfold bAll at h;split at h
  .obtain⟨v,rfl,a⟩:=c.one;obtain rfl:=a.inv;obtain⟨bs,l,O⟩:=h;obtain⟨N,e,u⟩:=j.lst l;have:=u.bls_of;subst this;exact _kn P y s m H _ g Q I r ⟨_,bs,rfl,SqL.of e,O _ _ (Kp.refl _) (.bl _) j⟩
  .exact h.elim
end
theorem RMs.strs{K:X4}:∀j:List Str,RMs K H (j.map MV.str) (j.map V.str)
 |[]=>.nil
 |n::r=>.cons (.str n) (RMs.strs r)
theorem RMs.strs_of{K:X4}{H:Hp}{j:List Str}{vs:List V}(h:RMs K H (j.map MV.str) vs):vs=j.map V.str:=h.map_of λ_ _ x=>by cases x;rfl
theorem K8{K:X4}(f:Nat->Int):∀l:List Nat,RMs K H (l.map λi=>MV.int (f i)) (l.map λi=>V.int (f i))
 |[]=>.nil
 |_::r=>.cons (.int _) (K8 f r)
theorem _iQ{K:X4}(n:Nat):RMs K H ((Xs n).map λi=>MV.int (i:Nat)) ((Xs n).map λi=>V.int (i:Nat)):=K8 (λi=>(i:Int)) _
inductive B2 where|ssrt|lset|tset|lrng
  deriving DecidableEq
noncomputable def B2.out:B2->String
 |.ssrt=>"sorted"
 |.lset=>"len"
 |.tset=>"len"
 |.lrng=>"list"
noncomputable def B2.inn:B2->String
 |.ssrt=>"set"
 |.lset=>"set"
 |.tset=>"set"
 |.lrng=>"range"
noncomputable def B2.outV:B2->X0
 |.ssrt=>.builtin "sorted"
 |.lset=>.builtin "len"
 |.tset=>.builtin "len"
 |.lrng=>.type "list"
def wB2(f:B2)(v:MV)(M:MH)(Q:QM):Prop:=match f with
 |.ssrt=>∃(a:Addr) (j N:List Str),v=.ref a/\M a=some (.lst (j.map MV.str))/\j.length+1<scanBound/\(∀z∈j,z∈N)/\N.length<64/\
   ∀p (l:List Str),M p=none->l.Nodup->(∀y,y∈l↔y∈j)->sortedS l=true->Q (.ref p) (updM M p (.lst (l.map MV.str)))
 |.lset=>False
 |.tset=>False
 |.lrng=>∃n:Nat,v=.int n/\n<=1000000/\∀p,M p=none->Q (.ref p) (updM M p (.lst ((Xs n).map λi=>MV.int (i:Nat))))
theorem K9(f:B2):Mon1 (wB2 f):=by
 intro v M Q O w h;cases f with
 |ssrt=>
  obtain⟨a,y,N,j,l,u,z,m,g⟩:=h;exact⟨a,y,N,j,l,u,z,m,λp d c q r e=>w _ _ (g p d c q r e)⟩
 |lset=>exact Y5 h
 |tset=>exact Y5 h
 |lrng=>
  obtain⟨n,j,l,u⟩:=h;exact⟨n,j,l,λp L=>w _ _ (u p L)⟩
section
variable{X:Cx}
theorem _p3(g:X.calm=true)(f:B2):WO X f.outV (.type f.inn) (li1 X.K (wB2 f)):=by
 intro d s c H x u Q I r h;obtain⟨m,M,q,j,h⟩:=h;cases f with
 |ssrt=>
  obtain⟨a,L,N,rfl,w,y,O,P,R⟩:=h;obtain rfl:=q.inv;obtain⟨Z,e,T⟩:=j.lst w;have:=T.strs_of;subst this;refine _kg g d s c H _ u Q I r ⟨_,L,N,rfl,SqL.of e,y,O,P,λp z l U W Y=>?_⟩;have k:=Kp.new l (.lst (z.map V.str));exact R p z (j.free l) U W Y _ _ k (.ref p) (j.put k (RMs.strs z))
 |lset=>exact Y5 h
 |tset=>exact Y5 h
 |lrng=>
  obtain⟨n,rfl,w,y⟩:=h;obtain rfl:=q.inv;refine _kk g d s c H _ u Q I r ⟨n,rfl,w,λp l=>?_⟩;have k:=Kp.new l (.lst ((Xs n).map λi=>V.int (i:Nat)));exact y p (j.free l) _ _ k (.ref p) (j.put k (_iQ n))
end
inductive MT where|append|extend
  deriving DecidableEq
def wMt(m:MT)(a:Addr)(vs:List MV)(M:MH)(Q:QM):Prop:=∃j,M a=some (.lst j)/\match m,vs with
 |.append,[y]=>j.length<sizeLine/\Q .non (updM M a (.lst (j++[y])))
 |.extend,[.ref b]=>∃l,M b=some (.lst l)/\j.length+l.length<=sizeLine/\Q .non (updM M a (.lst (j++l)))
 |_,_=>False
def wMl(m:MT)(x:MV)(vs:List MV)(M:MH)(Q:QM):Prop:=match x with
 |.ref a=>wMt m a vs M Q
 |_=>False
noncomputable def MT.isL:MT->Bool
 |_=>true
noncomputable def MT.ty:MT->String
 |_=>"list"
noncomputable def mtOk(m:MT)(x:MV)(M:MH):Prop:=match m with
 |_=>∃a j,x=.ref a/\M a=some (.lst j)
def wMts(m:MT)(x:MV)(vs:List MV)(M:MH)(Q:QM):Prop:=match m with
 |m=>wMl m x vs M Q
theorem Ka(h:m.isL=true):wMts m x vs M Q=wMl m x vs M Q:=by cases m<;>first|rfl|cases h
theorem _qF(j:∀m M',Q m M'->Q' m M')(h:wMl m a vs M Q):wMl m a vs M Q':=by
 cases a<;>try exact h.elim
 obtain⟨l,u,h⟩:=h;refine⟨l,u,?_⟩;split at h
 .exact⟨h.1,j _ _ h.2⟩
 .obtain⟨w,a,b,c⟩:=h;exact⟨w,a,b,j _ _ c⟩
 .exact h.elim
theorem EJ{m:MT}{a:MV}{vs:List MV}{M:MH}{Q j:QM}(l:∀m M',Q m M'->j m M')(h:wMts m a vs M Q):wMts m a vs M j:=by
 cases e:m.isL
 .cases m<;>cases e
 .rw[Ka e]at h ⊢;exact _qF l h
noncomputable def MT.id:MT->String
 |.append=>"list.append"|.extend=>"list.extend"
def liM(K:X4)(w:MV->List MV->MH->QM->Prop):V->List V->Hp->VK->Prop:=λx u H Q=>∃j l M,RM K H j x/\RMs K H l u/\RH K M H/\w j l M (Dn K H Q)
section
variable{X:Cx}
theorem _o9(m:MT):MtR X m.id (liM X.K (wMl m)):=by
 intro z s g H x T v d Q I f q h;obtain⟨U,W,M,N,r,l,h⟩:=h;cases N<;>try exact h.elim
 obtain⟨Y,O,h⟩:=h;obtain⟨p,e,u⟩:=l.lst O;have j:∀o,Kp H (upd H _ o):=λo=>Kp.upd e rfl o;split at h
 .obtain⟨w,rfl,y⟩:=r.one;exact Jc z s g H _ _ v d Q I f q ⟨_,p,w,rfl,rfl,e,by rw[<-u.length];exact h.1,h.2 _ _ (j _) .non (l.put (j _) ((u.append (.cons y .nil)).mono (j _)))⟩
 .obtain⟨w,rfl,y⟩:=r.one;obtain rfl:=y.inv;obtain⟨Z,a,b,c⟩:=h;obtain⟨P,R,L⟩:=l.lst a;exact _j8 z s g H _ _ v d Q I f q ⟨_,_,p,P,rfl,rfl,e,R,by rw[<-u.length,<-L.length];exact b,c _ _ (j _) .non (l.put (j _) ((u.append L).mono (j _)))⟩
 .exact h.elim
theorem Kb(r:X.A.units+1<cLine)(m:MT):MtR X m.id (liM X.K (wMts m)):=by
 intro j s l H x u v w Q I y z h;obtain⟨g,d,M,c,f,q,h⟩:=h;cases e:m.isL
 .cases m<;>cases e
 .rw[Ka e]at h;exact _o9 m j s l H x u v w Q I y z ⟨g,d,M,c,f,q,h⟩
end
def wPut(o i v:MV)(M:MH)(Q:MH->Prop):Prop:=match o with
 |.ref a=>(∃u k j,M a=some (.lst u)/\i=.int k/\ixN u.length k=some j/\Q (updM M a (.lst (u.set j v))))\/∃l w,M a=some (.dic l)/\keyM i=some w/\l.length<sizeLine/\Q (updM M a (.dic (putM l w v)))
 |_=>False
theorem Kc{o i v:MV}{M:MH}{Q m:MH->Prop}(g:∀M',Q M'->m M')(h:wPut o i v M Q):wPut o i v M m:=by
 cases o<;>try exact h.elim
 rcases h with⟨d,k,j,l,u,w,y⟩|⟨z,c,l,u,w,y⟩
 .exact .inl ⟨d,k,j,l,u,w,g _ y⟩
 .exact .inr ⟨z,c,l,u,w,g _ y⟩
def DnH(K:X4)(H:Hp)(Q:Hp->Prop):MH->Prop:=λM=>∀j,Kp H j->RH K M j->Q j
def Kd(K:X4):TSet:=λo i v H Q=>∃j l mv M,RM K H j o/\RM K H l i/\RM K H mv v/\RH K M H/\wPut j l mv M (DnH K H Q)
section
variable{X:Cx}
theorem _nf(O:X.A.units+1<cLine):PSet X (Kd X.K):=by
 intro P s R H o i v f T u Q I q r p h;obtain⟨D,E,mv,M,U,L,N,w,h⟩:=h;cases U<;>try exact h.elim
 rcases h with⟨F,k,j,z,rfl,m,g⟩|⟨W,d,z,Y,m,g⟩
 .obtain rfl:=L.inv;obtain⟨y,e,l⟩:=w.lst z;have k:=Kp.upd e rfl (.lst (y.set j v));exact _kX P s R H _ _ v f T u Q I q r p ⟨_,y,_,j,rfl,rfl,e,by rw[<-l.length];exact m,g _ k (w.put k ((l.set N j).mono k))⟩
 .obtain⟨y,e,l,Z⟩:=w.dic z;have A:=VW Y L;subst A;obtain rfl:f=Xo _:=q;have k:=Kp.upd e rfl (.dK (putK y d v));obtain⟨B,c⟩:=JV (k:=d) N Z l;exact _k9 O I (DPut.k (k:=d) e (by rw[<-l.length];exact m)) r p λG C=>⟨_,C,g _ k (w.put k ⟨B.mono k,c⟩)⟩
end
end L2
namespace L2
set_option genInjectivity false
set_option genCtorIdx false
open PySem PySem.Spec PyProof.Rows
mutual
inductive ITg where|nm (i:Nat)|tup (ts:ITgs)
inductive ITgs where|nil|cons (t:ITg)(ts:ITgs)
end
mutual
inductive IE where
 |var (i:Nat)
 |int (i:Int)|str (x:Str)|bl (b:Bool)|non
 |glb (x:Str)(i:Int)
 |ty (c:Ty7)
 |bin (op:Uk)(a b:IE)
 |neg (a:IE)
 |not (a:IE)
 |cmp (op:CmpOp)(a b:IE)
 |chn (op op':CmpOp)(a b c:IE)
 |and (a b:IE)
 |or (a b:IE)
 |ife (c a b:IE)
 |tup (es:IEs)
 |lst (es:IEs)
 |dic
 |ix (a b:IE)
 |sl (a:IE)(lo hi:IO)
 |call (j:Nat)(e:IE)(es:IEs)
 |bi (f:BI)(e:IE)(es:IEs)
 |b2 (f:B2)(e:IE)
 |mt (m:MT)(o:IE)(es:IEs)
 |comp (own:List Str)(fr:List Nat)(src:ISr)(tg:ITg)(test:IO)(elt:IE)
 |fld (c:Str)(o:IE)(f:Str)
 |mcall (j:Nat)(c m:Str)(o:IE)(es:IEs)
 |make (j:Nat)(c:Str)(e:IE)(es:IEs)
 |disp (ps:IPs)
 |mxd (e:IE)
 |st3 (e:IE)
inductive IPs where|nil|cons (k v:IE)(r:IPs)
inductive IEs where|nil|cons (e:IE)(es:IEs)
inductive IO where|none|some (e:IE)
inductive ISr where|seq (e:IE)|rng (e:IE)
end
def wSt3(v:MV)(M:MH)(Q:QM):Prop:=∃(a:Addr) (j:List MV),v=.ref a/\M a=some (.lst j)/\∀p,M p=none->Q (.ref p) (updM M p (.lst (st3 j)))
theorem _oa(j:∀v M,Q v M->Q' v M)(h:wSt3 v M Q):wSt3 v M Q':=by
 obtain⟨a,l,u,w,y⟩:=h;exact⟨a,l,u,w,λp z=>j _ _ (y p z)⟩
noncomputable def wMxd(v:MV)(M:MH)(Q:QM):Prop:=∃(a:Addr) (j:List Int),v=.ref a/\M a=some (.lst (j.map MV.int))/\∀m,(j=[]/\m=0\/m∈j/\∀i∈j,i<=m)->Q (.int m) M
theorem _oc(j:∀v M,Q v M->Q' v M)(h:wMxd v M Q):wMxd v M Q':=by
 obtain⟨a,l,u,w,y⟩:=h;exact⟨a,l,u,w,λm z=>j _ _ (y m z)⟩
inductive Src where|tup (xs:List MV)|lst (a:Addr)(xs:List MV)|rng (lo:Int)(n:Nat)|str (x:Str)
noncomputable def Src.items:Src->List MV
 |.tup xs=>xs
 |.lst _ xs=>xs
 |.rng lo n=>(Xs n).map λi=>.int (lo+(i:Nat))
 |.str x=>x.cps.toList.map λc=>.str ⟨#[c]⟩
def Src.ok(M:MH):Src->Prop
 |.lst a xs=>M a=some (.lst xs)
 |_=>True
def Src.okF(M:MH):Src->Prop
 |.lst a xs=>M a=some (.lst xs)
 |_=>True
def Src.okT(M:MH):Src->Prop
 |_=>True
def Src.thaw(M:MH):Src->MH
 |_=>M
noncomputable def Src.len:Src->Nat
 |.tup xs=>xs.length
 |.lst _ xs=>xs.length
 |.rng _ n=>n
 |.str x=>x.cps.size
theorem Src.items_len(S:Src):S.items.length=S.len:=by cases S<;>simp[Src.items,Src.len]
abbrev SpM:=List MV->MH->QM->Prop
abbrev TSm:=Sm->MH->(Src->MH->Prop)->Prop
mutual
def wTg:ITg->MV->Sm->(Sm->Prop)->Prop
 |.nm i,v,σ,Q=>Q (σ.set i (some v))
 |.tup ts,v,σ,Q=>∃xs,v=.tup xs/\wTgs ts xs σ Q
def wTgs:ITgs->List MV->Sm->(Sm->Prop)->Prop
 |.nil,xs,σ,Q=>xs=[]/\Q σ
 |.cons t ts,xs,σ,Q=>∃v r,xs=v::r/\wTg t v σ λj=>wTgs ts r j Q
end
noncomputable def sCm(own:List Str)(fr:List Nat)(j:Sm):Sm:=own.map (λ_=>none)++fr.map (λi=>j.getD i none)
noncomputable def onV(o:Option (Option MV))(k:MV->Prop):Prop:=match o with
 |some (some v)=>k v
 |_=>False
theorem _qz{k:MV->Prop}:onV o k=∃v,o=some (some v)/\k v:=by
 refine propext ⟨λh=>?_,fun⟨v,e,h⟩=>by subst e;exact h⟩
 match o,h with
 |some (some v),h=>exact⟨v,rfl,h⟩
noncomputable def onB(x:MV)(k:Bool->Prop):Prop:=match x with
 |.bl c=>k c
 |_=>False
theorem W0{k:Bool->Prop}:onB x k=∃c,x=.bl c/\k c:=by
 refine propext ⟨λh=>?_,fun⟨v,e,h⟩=>by subst e;exact h⟩
 cases x<;>first|exact⟨_,rfl,h⟩|exact h.elim
noncomputable def onF(o:Option (Str×SpM))(k:SpM->Prop):Prop:=match o with
 |some p=>k p.2
 |none=>False
theorem _qA{k:SpM->Prop}:onF o k=∃f sp,o=some (f,sp)/\k sp:=by
 refine propext ⟨λh=>?_,fun⟨f,v,e,h⟩=>by subst e;exact h⟩
 match o,h with
 |some (f,sp),h=>exact⟨f,sp,rfl,h⟩
mutual
def wE(Φ:List (Str×SpM)):IE->TEm
 |.var i,σ,M,Q=>onV σ[i]? λv=>Q v M
 |.int i,_,M,Q=>Q (.int i) M
 |.str x,_,M,Q=>Q (.str x) M
 |.bl b,_,M,Q=>Q (.bl b) M
 |.non,_,M,Q=>Q .non M
 |.glb _ i,_,M,Q=>Q (.int i) M
 |.ty c,_,M,Q=>Q (.ty c) M
 |.bin op a b,σ,M,Q=>wE Φ a σ M λx M1=>wE Φ b σ M1 λy M2=>wBin op x y M2 Q
 |.neg a,σ,M,Q=>wE Φ a σ M λx M1=>∃i,x=.int i/\Q (.int (-i)) M1
 |.not a,σ,M,Q=>wE Φ a σ M λx M1=>onB x λb=>Q (.bl (!b)) M1
 |.cmp op a b,σ,M,Q=>wE Φ a σ M λx M1=>wE Φ b σ M1 λy M2=>wCmp op x y M2 Q
 |.chn op op' a b c,σ,M,Q=>wE Φ a σ M λx M1=>wE Φ b σ M1 λy M2=>wCmp op x y M2 λz g=>onB z λk=>(if k=true then wE Φ c σ g λw q=>wCmp op' y w q Q else Q (.bl false) g)
 |.and a b,σ,M,Q=>wE Φ a σ M λx M1=>onB x λc=>(if c=true then wE Φ b σ M1 Q else Q (.bl false) M1)
 |.or a b,σ,M,Q=>wE Φ a σ M λx M1=>onB x λc=>(if c=true then Q (.bl true) M1 else wE Φ b σ M1 Q)
 |.ife c a b,σ,M,Q=>wE Φ c σ M λx M1=>onB x λk=>(if k=true then wE Φ a σ M1 Q else wE Φ b σ M1 Q)
 |.tup es,σ,M,Q=>wEs Φ es σ M λvs M1=>vs.length<=sizeLine/\Q (.tup vs) M1
 |.lst es,σ,M,Q=>wEs Φ es σ M λvs M1=>vs.length<=sizeLine/\∀p,M1 p=none->Q (.ref p) (updM M1 p (.lst vs))
 |.dic,_,M,Q=>∀p,M p=none->Q (.ref p) (updM M p (.dic []))
 |.ix a b,σ,M,Q=>wE Φ a σ M λx M1=>wE Φ b σ M1 λy M2=>wIx x y M2 Q
 |.sl a lo hi,σ,M,Q=>wE Φ a σ M λx M1=>wO Φ lo σ M1 λl M2=>wO Φ hi σ M2 λh g=>wSl x l h g Q
 |.call j e es,σ,M,Q=>wE Φ e σ M λv M1=>wEs Φ es σ M1 λvs M2=>onF Φ[j]? λsp=>sp (v::vs) M2 Q
 |.bi f e es,σ,M,Q=>wE Φ e σ M λv M1=>wEs Φ es σ M1 λvs M2=>wBi f (v::vs) M2 Q
 |.b2 f e,σ,M,Q=>wE Φ e σ M λv M1=>wB2 f v M1 Q
 |.mxd e,σ,M,Q=>wE Φ e σ M λv M1=>wMxd v M1 Q
 |.st3 e,σ,M,Q=>wE Φ e σ M λv M1=>wSt3 v M1 Q
 |.mt m o es,σ,M,Q=>wE Φ o σ M λx M1=>mtOk m x M1/\wEs Φ es σ M1 λvs M2=>wMts m x vs M2 Q
 |.comp own fr src tg test elt,σ,M,Q=>wSr Φ src σ M λS M1=>S.len<sizeLine/\∀D,M1 D=none->∃J:Nat->List MV->MH->Prop,J 0 [] (updM M1 D (.lst []))/\
   (∀i ys M2,J i ys M2->M2 D=some (.lst ys)/\ys.length<=i/\S.ok M2)/\
   (∀i x ys M2,S.items[i]?=some x->J i ys M2->wTg tg x (sCm own fr σ) λd=>wI Φ test d M2 λb q=>
    if b=true then wE Φ elt d q λy L=>L D=some (.lst ys)/\J (i+1) (ys++[y]) (updM L D (.lst (ys++[y])))else J (i+1) ys q)/\
   ∀ys M2,J S.len ys M2->Q (.ref D) (S.thaw M2)
 |.fld c o f,σ,M,Q=>wE Φ o σ M λx M1=>∃a fs v,x=.ref a/\M1 a=some (.ins c fs)/\valM fs f=some v/\Q v M1
 |.mcall j c m o es,σ,M,Q=>wE Φ o σ M λx M1=>∃a fs,x=.ref a/\M1 a=some (.ins c fs)/\valM fs m=none/\wEs Φ es σ M1 λvs M2=>∃f sp,Φ[j]?=some (f,sp)/\sp (.ref a::vs) M2 Q
 |.make j c e es,σ,M,Q=>wE Φ e σ M λv M1=>wEs Φ es σ M1 λvs M2=>∃f sp,Φ[j]?=some (f,sp)/\∀p,M2 p=none->sp (.ref p::v::vs) (updM M2 p (.ins c [])) λu g=>u=.non/\Q (.ref p) g
 |.disp ps,σ,M,Q=>∀p,M p=none->wPs Φ ps σ (updM M p (.dic [])) λl M2=>M2 p=some (.dic [])/\l.length<=15/\Q (.ref p) (updM M2 p (.dic (Yj l)))
def wPs(Φ:List (Str×SpM)):IPs->Sm->MH->(List (Key×MV)->MH->Prop)->Prop
 |.nil,_,M,Q=>Q [] M
 |.cons k v r,σ,M,Q=>wE Φ k σ M λx M1=>∃N,keyM x=some N/\wE Φ v σ M1 λy M2=>wPs Φ r σ M2 λl g=>Q ((N,y)::l) g
def wEs(Φ:List (Str×SpM)):IEs->TAm
 |.nil,_,M,Q=>Q [] M
 |.cons e es,σ,M,Q=>wE Φ e σ M λv M1=>wEs Φ es σ M1 λvs M2=>Q (v::vs) M2
def wO(Φ:List (Str×SpM)):IO->Sm->MH->(Option Int->MH->Prop)->Prop
 |.none,_,M,Q=>Q none M
 |.some e,σ,M,Q=>wE Φ e σ M λv M1=>∃i,v=.int i/\Q (some i) M1
def wI(Φ:List (Str×SpM)):IO->Sm->MH->(Bool->MH->Prop)->Prop
 |.none,_,M,Q=>Q true M
 |.some e,σ,M,Q=>wE Φ e σ M λv M1=>∃b,v=.bl b/\Q b M1
def wSr(Φ:List (Str×SpM)):ISr->TSm
 |.seq e,σ,M,Q=>wE Φ e σ M λv M1=>(∃xs,(v=.tup xs\/v=.frl xs)/\Q (.tup xs) M1)\/(∃a xs,v=.ref a/\M1 a=some (.lst xs)/\Q (.lst a xs) M1)\/False\/∃z,v=.str z/\Q (.str z) M1
 |.rng e,σ,M,Q=>wE Φ e σ M λv M1=>∃j,v=.int j/\ -(2^62)<=j/\j<2^62/\Q (.rng 0 j.toNat) M1
end
section
variable{Φ:List (Str×SpM)}{σ:Sm}{M:MH}{Q:QM}
theorem Ke{i:Nat}:wE Φ (.var i) σ M Q=∃v,σ[i]?=some (some v)/\Q v M:=_qz
theorem EK{a:IE}:wE Φ (.not a) σ M Q=wE Φ a σ M λx M1=>∃b,x=.bl b/\Q (.bl (!b)) M1:=congrArg (wE Φ a σ M) (funext λ_=>funext λ_=>W0)
theorem Kf:wE Φ (.chn op op' a b c) σ M Q=wE Φ a σ M λx M1=>wE Φ b σ M1 λy M2=>wCmp op x y M2 λz j=>∃k,z=.bl k/\(if k=true then wE Φ c σ j λw l=>wCmp op' y w l Q else Q (.bl false) j):=congrArg (wE Φ a σ M) (funext λ_=>funext λ_=>congrArg (wE Φ b σ _) (funext λ_=>funext λ_=>congrArg (wCmp op _ _ _) (funext λ_=>funext λ_=>W0)))
theorem EL{a b:IE}:wE Φ (.and a b) σ M Q=wE Φ a σ M λx M1=>∃c,x=.bl c/\(if c=true then wE Φ b σ M1 Q else Q (.bl false) M1):=congrArg (wE Φ a σ M) (funext λ_=>funext λ_=>W0)
theorem x_or{a b:IE}:wE Φ (.or a b) σ M Q=wE Φ a σ M λx M1=>∃c,x=.bl c/\(if c=true then Q (.bl true) M1 else wE Φ b σ M1 Q):=congrArg (wE Φ a σ M) (funext λ_=>funext λ_=>W0)
theorem Kg{a b c:IE}:wE Φ (.ife c a b) σ M Q=wE Φ c σ M λx M1=>∃k,x=.bl k/\(if k=true then wE Φ a σ M1 Q else wE Φ b σ M1 Q):=congrArg (wE Φ c σ M) (funext λ_=>funext λ_=>W0)
theorem Kh{j:Nat}{e:IE}{es:IEs}:wE Φ (.call j e es) σ M Q=wE Φ e σ M λv M1=>wEs Φ es σ M1 λvs M2=>∃f sp,Φ[j]?=some (f,sp)/\sp (v::vs) M2 Q:=congrArg (wE Φ e σ M) (funext λ_=>funext λ_=>congrArg (wEs Φ es σ _) (funext λ_=>funext λ_=>_qA))
end
mutual
theorem V5:∀(t:ITg){v:MV} {j:Sm} {Q l:Sm->Prop},(∀j,Q j->l j)->wTg t v j Q->wTg t v j l
 |.nm i,v,j,Q,l,hq,h=>by exact hq _ h
 |.tup ts,v,j,Q,l,hq,h=>by
  obtain⟨xs,e,h⟩:=h;exact⟨xs,e,mon_tgs ts hq h⟩
theorem mon_tgs:∀(t:ITgs){v:List MV} {j:Sm} {Q l:Sm->Prop},(∀j,Q j->l j)->wTgs t v j Q->wTgs t v j l
 |.nil,v,j,Q,l,hq,h=>by exact⟨h.1,hq _ h.2⟩
 |.cons t ts,v,j,Q,l,hq,h=>by
  obtain⟨x,r,e,h⟩:=h;exact⟨x,r,e,V5 t (λu h'=>mon_tgs ts hq h') h⟩
end
theorem YT{c:Prop} [Decidable c] {A B j l:Prop}(u:A->j)(w:B->l)(h:if c then A else B):if c then j else l:=by
 split at h
 .rw[if_pos (by assumption)];exact u h
 .rw[if_neg (by assumption)];exact w h
mutual
theorem Xc{Φ:List (Str×SpM)}(u:∀(j:Nat)f sp,Φ[j]?=some (f,sp)->MonW sp):∀e:IE,MonE (wE Φ e)
 |.var i,g,M,Q,d,hq,h=>by rw[Ke]at h ⊢;obtain⟨v,e,h⟩:=h;exact⟨v,e,hq _ _ h⟩
 |.int _,g,M,Q,d,hq,h=>by exact hq _ _ h
 |.str _,g,M,Q,d,hq,h=>by exact hq _ _ h
 |.bl _,g,M,Q,d,hq,h=>by exact hq _ _ h
 |.non,g,M,Q,d,hq,h=>by exact hq _ _ h
 |.glb _ _,g,M,Q,d,hq,h=>by exact hq _ _ h
 |.ty _,g,M,Q,d,hq,h=>by exact hq _ _ h
 |.bin op a b,g,M,Q,d,hq,h=>by
  exact Xc u a (λx M1 h1=>Xc u b (λy M2 h2=>JO op hq h2) h1) h
 |.neg a,g,M,Q,d,hq,h=>by
  exact Xc u a (λx M1 ⟨i,e,h1⟩=>⟨i,e,hq _ _ h1⟩) h
 |.not a,g,M,Q,d,hq,h=>by
  rw[EK]at h ⊢;exact Xc u a (λx M1 ⟨i,e,h1⟩=>⟨i,e,hq _ _ h1⟩) h
 |.cmp op a b,g,M,Q,d,hq,h=>by
  exact Xc u a (λx M1 h1=>Xc u b (λy M2 h2=>VY op hq h2) h1) h
 |.chn op op' a b c,g,M,Q,d,hq,h=>by
  rw[Kf]at h ⊢;exact Xc u a (λx M1 h1=>Xc u b (λy M2 h2=>VY op (λz O ⟨k,e,h3⟩=>⟨k,e,YT (Xc u c λw C h4=>VY op' hq h4) (hq _ _) h3⟩) h2) h1) h
 |.and a b,g,M,Q,d,hq,h=>by
  rw[EL]at h ⊢;exact Xc u a (λx M1 ⟨c,e,h1⟩=>⟨c,e,YT (Xc u b hq) (hq _ _) h1⟩) h
 |.or a b,g,M,Q,d,hq,h=>by
  rw[x_or]at h ⊢;exact Xc u a (λx M1 ⟨c,e,h1⟩=>⟨c,e,YT (hq _ _) (Xc u b hq) h1⟩) h
 |.ife c a b,g,M,Q,d,hq,h=>by
  rw[Kg]at h ⊢;exact Xc u c (λx M1 ⟨k,e,h1⟩=>⟨k,e,YT (Xc u a hq) (Xc u b hq) h1⟩) h
 |.tup es,g,M,Q,d,hq,h=>by
  exact mon_es u es (λvs M1 ⟨e,h1⟩=>⟨e,hq _ _ h1⟩) h
 |.lst es,g,M,Q,d,hq,h=>by
  exact mon_es u es (λvs M1 ⟨e,h1⟩=>⟨e,λp q=>hq _ _ (h1 p q)⟩) h
 |.dic,g,M,Q,d,hq,h=>by
  exact λp q=>hq _ _ (h p q)
 |.ix a b,g,M,Q,d,hq,h=>by
  exact Xc u a (λx M1 h1=>Xc u b (λy M2 h2=>K2 hq h2) h1) h
 |.sl a lo hi,g,M,Q,d,hq,h=>by
  exact Xc u a (λx M1 h1=>mon_o u lo (λy M2 h2=>mon_o u hi (λz O h3=>K4 hq h3) h2) h1) h
 |.call j e es,g,M,Q,d,hq,h=>by
  rw[Kh]at h ⊢;exact Xc u e (λx M1 h1=>mon_es u es (λy M2 ⟨f,sp,e,h2⟩=>⟨f,sp,e,u _ _ _ e hq h2⟩) h1) h
 |.bi f e es,g,M,Q,d,hq,h=>by
  exact Xc u e (λx M1 h1=>mon_es u es (λy M2 h2=>K7 f hq h2) h1) h
 |.b2 f e,g,M,Q,d,hq,h=>by
  exact Xc u e (λx M1 h1=>K9 f hq h1) h
 |.mxd e,g,M,Q,d,hq,h=>by
  exact Xc u e (λx M1 h1=>_oc hq h1) h
 |.st3 e,g,M,Q,d,hq,h=>by
  exact Xc u e (λx M1 h1=>_oa hq h1) h
 |.mt m o es,g,M,Q,d,hq,h=>by
  exact Xc u o (λx M1 ⟨P,h1⟩=>⟨P,mon_es u es (λy M2 h2=>EJ hq h2) h1⟩) h
 |.comp own fr src tg test elt,g,M,Q,d,hq,h=>by
  exact mon_sr u src (λS M1 ⟨R,h1⟩=>⟨R,λD T=>by
   obtain⟨J,U,W,Y,Z⟩:=h1 D T;exact⟨J,U,W,Y,λys M2 A=>hq _ _ (Z ys M2 A)⟩⟩) h
 |.fld c o f,g,M,Q,d,hq,h=>by
  exact Xc u o (λx M1 ⟨a,fs,v,e,L,N,h1⟩=>⟨a,fs,v,e,L,N,hq _ _ h1⟩) h
 |.mcall j c m o es,g,M,Q,d,hq,h=>by
  exact Xc u o (λx M1 ⟨a,fs,e,L,N,h1⟩=>⟨a,fs,e,L,N,mon_es u es (λy M2 ⟨f,sp,e,h2⟩=>⟨f,sp,e,u _ _ _ e hq h2⟩) h1⟩) h
 |.make j c e es,g,M,Q,d,hq,h=>by
  exact Xc u e (λx M1 h1=>mon_es u es (λy M2 ⟨f,sp,e,h2⟩=>⟨f,sp,e,λp q=>u _ _ _ e (λm M' z=>⟨z.1,hq _ _ z.2⟩) (h2 p q)⟩) h1) h
 |.disp ps,g,M,Q,d,hq,h=>by
  exact λp q=>mon_ps u ps (λl M2 ⟨e,L,h1⟩=>⟨e,L,hq _ _ h1⟩) (h p q)
theorem mon_ps(u:∀(j:Nat)f sp,Φ[j]?=some (f,sp)->MonW sp):∀(e:IPs){g M} {Q d:List (Key×MV)->MH->Prop},(∀m M',Q m M'->d m M')->wPs Φ e g M Q->wPs Φ e g M d
 |.nil,g,M,Q,d,hq,h=>by exact hq _ _ h
 |.cons k v r,g,M,Q,d,hq,h=>by
  exact Xc u k (λx M1 ⟨B,e,h1⟩=>⟨B,e,Xc u v (λy M2 h2=>mon_ps u r (λl O h3=>hq _ _ h3) h2) h1⟩) h
theorem mon_es{Φ:List (Str×SpM)}(u:∀(j:Nat)f sp,Φ[j]?=some (f,sp)->MonW sp):∀e:IEs,MonA (wEs Φ e)
 |.nil,g,M,Q,d,hq,h=>by exact hq _ _ h
 |.cons e es,g,M,Q,d,hq,h=>by
  exact Xc u e (λx M1 h1=>mon_es u es (λy M2 h2=>hq _ _ h2) h1) h
theorem mon_o{Φ:List (Str×SpM)}(u:∀(j:Nat)f sp,Φ[j]?=some (f,sp)->MonW sp):∀(e:IO){g M} {Q d:Option Int->MH->Prop},(∀m M',Q m M'->d m M')->wO Φ e g M Q->wO Φ e g M d
 |.none,g,M,Q,d,hq,h=>by exact hq _ _ h
 |.some e,g,M,Q,d,hq,h=>by
  exact Xc u e (λx M1 ⟨i,e,h1⟩=>⟨i,e,hq _ _ h1⟩) h
theorem mon_i(u:∀(j:Nat)f sp,Φ[j]?=some (f,sp)->MonW sp):∀(e:IO){g M} {Q d:Bool->MH->Prop},(∀m M',Q m M'->d m M')->wI Φ e g M Q->wI Φ e g M d
 |.none,g,M,Q,d,hq,h=>by exact hq _ _ h
 |.some e,g,M,Q,d,hq,h=>by
  exact Xc u e (λx M1 ⟨i,e,h1⟩=>⟨i,e,hq _ _ h1⟩) h
theorem mon_sr{Φ:List (Str×SpM)}(u:∀(j:Nat)f sp,Φ[j]?=some (f,sp)->MonW sp):∀(e:ISr){g M} {Q d:Src->MH->Prop},(∀m M',Q m M'->d m M')->wSr Φ e g M Q->wSr Φ e g M d
 |.seq e,g,M,Q,d,hq,h=>by
  exact Xc u e (λx M1 h1=>by
   rcases h1 with⟨xs,e,h1⟩|⟨a,xs,e,L,h1⟩|h1|⟨z,e,h1⟩
   .exact .inl ⟨xs,e,hq _ _ h1⟩
   .exact .inr (.inl ⟨a,xs,e,L,hq _ _ h1⟩)
   .exact h1.elim
   .exact .inr (.inr (.inr ⟨z,e,hq _ _ h1⟩))) h
 |.rng e,g,M,Q,d,hq,h=>by
  exact Xc u e (λx M1 ⟨j,e,a,b,h1⟩=>⟨j,e,a,b,hq _ _ h1⟩) h
end
end L2
namespace L2
open PySem PySem.Spec PyProof.Rows
structure GI where
 bl:List Str
 gl:List (Str×Int)
 fns:List Str
 mts:List (Nat×Str×Str):=[]
 mks:List (Nat×Str):=[]
 cls:List (Str×Str):=[]
noncomputable def visB(j:Scope)(x:Str):Bool:=match j.names.lookup x with
 |some .local=>true|some .cell=>true|some .free=>true|_=>false
noncomputable def locB(j:Scope)(x:Str):Bool:=match j.names.lookup x with
 |some .local=>true|some .cell=>true|_=>false
noncomputable def glB(j:Scope)(x:Str):Bool:=decide (j.names.lookup x=some .globalImplicit)&& !(x==("__debug__":Str))&&decide (x≠"__name__")
noncomputable def W3(scope j:Scope):Scope:={scope with names:=scope.names.map fun(n,k)=>if(k==.free&&j.kind==.function&&j.names.lookup n==some .cell)then(n,.cell)else(n,k)}
noncomputable def BI.name:BI->String
 |.len=>"len"|.isinst=>"isinstance"|.max=>"max"|.min=>"min"|.sum=>"sum"|.abs=>"abs"|.int=>"int"|.list=>"list"|.tuple=>"tuple"|.dict=>"dict"|.sorted=>"sorted"|.dictL=>"dict"|.all=>"all"
noncomputable def MT.name:MT->String
 |.append=>"append"|.extend=>"extend"
noncomputable def WQ:Expr->Bool
 |.Slice ..=>false|_=>true
noncomputable def WR:Expr->Bool
 |.Set ..=>false|_=>true
noncomputable def tok:IE->Bool
 |.ife ..=>false
 |.not a=>tok a
 |.and a b=>tok a&&tok b
 |.or a b=>tok a&&tok b
 |_=>true
noncomputable def YZ:Expr->Option Str|.Name x _=>some x|_=>none
noncomputable def V6:Expr->Option Const|.Constant c _ _=>some c|_=>none
noncomputable def D4:Expr->Option (Expr×Uk×Expr)|.BinOp l o r _=>some (l,o,r)|_=>none
noncomputable def asUn:Expr->Option (UnaryOp×Expr)|.UnaryOp o x _=>some (o,x)|_=>none
noncomputable def WT:Expr->Option (Expr×List CmpOp×List Expr)|.Compare l o r _=>some (l,o,r)|_=>none
noncomputable def WU:Expr->Option (BoolOp×List Expr×Pos)|.BoolOp o vs p=>some (o,vs,p)|_=>none
noncomputable def asIf:Expr->Option (Expr×Expr×Expr)|.IfExp t x y _=>some (t,x,y)|_=>none
noncomputable def W4:Expr->Option (List Expr)|.Tuple xs _ _=>some xs|_=>none
noncomputable def D5:Expr->Option (List Expr)|.List xs _=>some xs|_=>none
noncomputable def WV:Expr->Option (List (Option Expr)×List Expr)|.Dict ks vs _=>some (ks,vs)|_=>none
noncomputable def W5:Expr->Option (Expr×Expr)|.Subscript x y _=>some (x,y)|_=>none
noncomputable def asSl:Expr->Option (Option Expr×Option Expr×Option Expr)|.Slice l u s _=>some (l,u,s)|_=>none
noncomputable def Zs:Expr->Option (Expr×List Expr×List Z7×Pos)|.Call f xs ks p=>some (f,xs,ks,p)|_=>none
noncomputable def V7:Expr->Option (Expr×Str×Pos)|.Attribute o n p=>some (o,n,p)|_=>none
noncomputable def asLC:Expr->Option (Expr×List Comprehension×Scope)|.ListComp e gs sc _=>some (e,gs,sc)|_=>none
noncomputable def the1{j:Type}:List j->Option j|[x]=>some x|_=>none
noncomputable def the2{j:Type}:List j->Option (j×j)|[x,y]=>some (x,y)|_=>none
noncomputable def hd1{j:Type}:List j->Option (j×List j)|x::r=>some (x,r)|_=>none
noncomputable def hd2{j:Type}:List j->Option (j×j×List j)|x::y::r=>some (x,y,r)|_=>none
noncomputable def non0{j:Type}:List j->Bool|[]=>true|_=>false
theorem nos{j:Type}{x:j}{C:Prop}(h:none=some x):C:=nomatch h
theorem nob{C:Prop}(h:false=true):C:=nomatch h
theorem Xg{j:Type}{o:Option j}{p:j->Bool}(h:o.any p=true):∃x,o=some x/\p x=true:=by
 cases o with
 |none=>cases h
 |some x=>exact⟨x,rfl,h⟩
section
variable{e:Expr}
theorem _b{x:Str}(h:YZ e=some x):∃p,e=.Name x p:=by revert h;cases e<;>first|exact nos|(intro h;cases h;exact⟨_,rfl⟩)
theorem WW{x:Const}(h:V6 e=some x):∃k p,e=.Constant x k p:=by revert h;cases e<;>first|exact nos|(intro h;cases h;exact⟨_,_,rfl⟩)
theorem Ki{x:Expr×Uk×Expr}(h:D4 e=some x):∃p,e=.BinOp x.1 x.2.1 x.2.2 p:=by revert h;cases e<;>first|exact nos|(intro h;cases h;exact⟨_,rfl⟩)
theorem EM{x:UnaryOp×Expr}(h:asUn e=some x):∃p,e=.UnaryOp x.1 x.2 p:=by revert h;cases e<;>first|exact nos|(intro h;cases h;exact⟨_,rfl⟩)
theorem EN{x:Expr×List CmpOp×List Expr}(h:WT e=some x):∃p,e=.Compare x.1 x.2.1 x.2.2 p:=by revert h;cases e<;>first|exact nos|(intro h;cases h;exact⟨_,rfl⟩)
theorem EO{x:BoolOp×List Expr×Pos}(h:WU e=some x):e=.BoolOp x.1 x.2.1 x.2.2:=by revert h;cases e<;>first|exact nos|(intro h;cases h;rfl)
theorem Kj{x:Expr×Expr×Expr}(h:asIf e=some x):∃p,e=.IfExp x.1 x.2.1 x.2.2 p:=by revert h;cases e<;>first|exact nos|(intro h;cases h;exact⟨_,rfl⟩)
theorem D6{x:List Expr}(h:W4 e=some x):∃k p,e=.Tuple x k p:=by revert h;cases e<;>first|exact nos|(intro h;cases h;exact⟨_,_,rfl⟩)
theorem Kk{x:List Expr}(h:D5 e=some x):∃p,e=.List x p:=by revert h;cases e<;>first|exact nos|(intro h;cases h;exact⟨_,rfl⟩)
theorem EQ{x:List (Option Expr)×List Expr}(h:WV e=some x):∃p,e=.Dict x.1 x.2 p:=by revert h;cases e<;>first|exact nos|(intro h;cases h;exact⟨_,rfl⟩)
theorem D7{x:Expr×Expr}(h:W5 e=some x):∃p,e=.Subscript x.1 x.2 p:=by revert h;cases e<;>first|exact nos|(intro h;cases h;exact⟨_,rfl⟩)
theorem _pa{x:Option Expr×Option Expr×Option Expr}(h:asSl e=some x):∃p,e=.Slice x.1 x.2.1 x.2.2 p:=by revert h;cases e<;>first|exact nos|(intro h;cases h;exact⟨_,rfl⟩)
theorem Ub{x:Expr×List Expr×List Z7×Pos}(h:Zs e=some x):e=.Call x.1 x.2.1 x.2.2.1 x.2.2.2:=by revert h;cases e<;>first|exact nos|(intro h;cases h;rfl)
theorem WX{x:Expr×Str×Pos}(h:V7 e=some x):e=.Attribute x.1 x.2.1 x.2.2:=by revert h;cases e<;>first|exact nos|(intro h;cases h;rfl)
theorem Kl{x:Expr×List Comprehension×Scope}(h:asLC e=some x):∃p,e=.ListComp x.1 x.2.1 x.2.2 p:=by revert h;cases e<;>first|exact nos|(intro h;cases h;exact⟨_,rfl⟩)
theorem _t{j:Type}{l:List j}{x:j}(h:the1 l=some x):l=[x]:=by
 match l,h with
 |[_],h=>cases h;rfl
theorem Km{j:Type}{l:List j}{x:j×j}(h:the2 l=some x):l=[x.1,x.2]:=by
 match l,h with
 |[_,_],h=>cases h;rfl
theorem Uc{j:Type}{l:List j}{x:j×List j}(h:hd1 l=some x):l=x.1::x.2:=by
 match l,h with
 |_::_,h=>cases h;rfl
theorem Kn{j:Type}{l:List j}{x:j×j×List j}(h:hd2 l=some x):l=x.1::x.2.1::x.2.2:=by
 match l,h with
 |_::_::_,h=>cases h;rfl
theorem Yq{j:Type}{l:List j}(h:non0 l=true):l=[]:=by
 match l,h with
 |[],_=>rfl
end
def YD(e:Expr):Bool:=(YZ e).isSome||(V6 e).isSome||(D4 e).isSome||(asUn e).isSome||(WT e).isSome||(WU e).isSome||(asIf e).isSome||(W4 e).isSome||(D5 e).isSome||(WV e).isSome||(W5 e).isSome||(Zs e).isSome||(asLC e).isSome||(V7 e).isSome
mutual
def Zc(j:Scope)(N:List Str)(lim:Nat)(all:Bool):ITg->Expr->Bool
 |.nm i,e=>(YZ e).any λx=>decide (N[i]?=some x)&&decide (i<lim)&&(if all then locB j x else decide (j.names.lookup x=some .local))
 |.tup ts,e=>(W4 e).any λes=>chkTgs j N lim all ts es
def chkTgs(j:Scope)(N:List Str)(lim:Nat)(all:Bool):ITgs->List Expr->Bool
 |.nil,l=>non0 l
 |.cons t ts,l=>(hd1 l).any λq=>Zc j N lim all t q.1&&chkTgs j N lim all ts q.2
end
mutual
def chkE(G:GI):IE->Scope->List Str->Expr->Bool
 |.var i,sc,N,e=>(YZ e).any fun x=>decide (N[i]?=some x)&&visB sc x&& !(x==("__debug__":Str))&& !(x==("__classdict__":Str))
 |.int i,_,_,e=>(V6 e).any λc=>decide (c=.int i)
 |.str x,_,_,e=>(V6 e).any λc=>decide (c=.str x)
 |.bl b,_,_,e=>(V6 e).any λc=>decide (c=.bool b)
 |.non,_,_,e=>(V6 e).any λc=>decide (c=.none)
 |.glb x i,sc,_,e=>(YZ e).any λy=>decide (x=y)&&decide (G.gl.lookup x=some i)&&glB sc x
 |.ty c,sc,_,e=>(YZ e).any λy=>decide (y=(c.name:Str))&&decide (c≠.none)&&G.bl.contains y&&glB sc y
 |.bin op a b,sc,N,e=>(D4 e).any λq=>decide (op=q.2.1)&&chkE G a sc N q.1&&chkE G b sc N q.2.2
 |.neg a,sc,N,e=>(asUn e).any λq=>decide (q.1=.USub)&&chkE G a sc N q.2
 |.not a,sc,N,e=>(asUn e).any λq=>decide (q.1=.Not)&&chkE G a sc N q.2
 |.cmp op a b,sc,N,e=>(WT e).any λq=>(the1 q.2.1).any λo=>(the1 q.2.2).any λr=>decide (op=o)&&chkE G a sc N q.1&&chkE G b sc N r&& !behindInMarks op r
 |.chn op op' a b c,sc,N,e=>(WT e).any λq=>(the2 q.2.1).any λo=>(the2 q.2.2).any λr=>decide (op=o.1)&&decide (op'=o.2)&&chkE G a sc N q.1&&chkE G b sc N r.1&&chkE G c sc N r.2&& !lastMarks [op,op'] [r.1,r.2]
 |.and a b,sc,N,e=>(WU e).any λq=>(hd2 q.2.1).any λv=>decide (q.1=.And)&&chkE G a sc N v.1&&chkE G b sc N (if non0 v.2.2 then v.2.1 else .BoolOp .And (v.2.1::v.2.2) q.2.2)
 |.or a b,sc,N,e=>(WU e).any λq=>(hd2 q.2.1).any λv=>decide (q.1=.Or)&&chkE G a sc N v.1&&chkE G b sc N (if non0 v.2.2 then v.2.1 else .BoolOp .Or (v.2.1::v.2.2) q.2.2)
 |.ife c a b,sc,N,e=>(asIf e).any λq=>tok c&&chkE G c sc N q.1&&chkE G a sc N q.2.1&&chkE G b sc N q.2.2
 |.tup es,sc,N,e=>(W4 e).any λxs=>chkEs G es sc N xs
 |.lst es,sc,N,e=>(D5 e).any λxs=>chkEs G es sc N xs
 |.dic,_,_,e=>(WV e).any λq=>non0 q.1&&non0 q.2
 |.ix a b,sc,N,e=>(W5 e).any λq=>chkE G a sc N q.1&&chkE G b sc N q.2&&WQ q.2
 |.sl a lo hi,sc,N,e=>(W5 e).any λq=>(asSl q.2).any λs=>chkE G a sc N q.1&&chkO G lo sc N s.1&&chkO G hi sc N s.2.1&& !s.2.2.isSome
 |.call j f es,sc,N,e=>(Zs e).any λq=>(YZ q.1).any λg=>(hd1 q.2.1).any λx=>non0 q.2.2.1&&decide (G.fns[j]?=some g)&&glB sc g&&chkE G f sc N x.1&&chkEs G es sc N x.2
 |.bi f a es,sc,N,e=>(Zs e).any λq=>(YZ q.1).any λg=>(hd1 q.2.1).any λx=>non0 q.2.2.1&&decide (g=(f.name:Str))&&G.bl.contains g&&glB sc g&&chkE G a sc N x.1&&chkEs G es sc N x.2
 |.b2 f a,sc,N,e=>(Zs e).any λq=>(YZ q.1).any λg=>(the1 q.2.1).any λy=>(Zs y).any λr=>(YZ r.1).any λk=>(the1 r.2.1).any λx=>non0 q.2.2.1&&non0 r.2.2.1&&decide (g=(f.out:Str))&&decide (k=(f.inn:Str))&&G.bl.contains g&&G.bl.contains k&&glB sc g&&glB sc k&&chkE G a sc N x
 |.st3 a,_,_,_=>false
 |.mxd a,_,_,_=>false
 |.mt m o es,sc,N,e=>(Zs e).any λq=>(V7 q.1).any λa=>non0 q.2.2.1&&decide (a.2.1=(m.name:Str))&&(a.2.2.endLine==q.2.2.2.line)&&chkE G o sc N a.1&&chkEs G es sc N q.2.1&&decide (q.2.1.length<20)
 |.comp own fr src tg test elt,sc,N,e=>(asLC e).any λq=>(the1 q.2.1).any λg=>VS sc q.2.2 N own fr&&WR g.iter&&decide (nC own fr N).Nodup&&chkSr G src sc N g.iter&&Zc (W3 q.2.2 sc) (nC own fr N) own.length false tg g.target&&
   chkI G test (W3 q.2.2 sc) (nC own fr N) g.ifs&&chkE G elt (W3 q.2.2 sc) (nC own fr N) q.1&&decide (g.is_async=0)
 |.fld c o f,sc,N,e=>(V7 e).any λa=>decide (a.2.1=f)&&G.cls.contains (c,f)&&chkE G o sc N a.1
 |.mcall j c m o es,sc,N,e=>(Zs e).any λq=>(V7 q.1).any λa=>non0 q.2.2.1&&decide (a.2.1=m)&&G.mts.contains (j,c,m)&&chkE G o sc N a.1&&chkEs G es sc N q.2.1&&(a.2.2.endLine==q.2.2.2.line)&&decide (q.2.1.length<20)
 |.make j c a es,sc,N,e=>(Zs e).any λq=>(YZ q.1).any λg=>(hd1 q.2.1).any λx=>non0 q.2.2.1&&decide (g=c)&&G.mks.contains (j,c)&&glB sc g&&chkE G a sc N x.1&&chkEs G es sc N x.2
 |.disp ps,sc,N,e=>(WV e).any λq=>!non0 q.1&&decide (q.1.length<=15)&&chkPs G ps sc N q.1 q.2
def chkPs(G:GI):IPs->Scope->List Str->List (Option Expr)->List Expr->Bool
 |.nil,_,_,l,r=>non0 l&&non0 r
 |.cons k v ps,sc,N,l,r=>(hd1 l).any λq=>(hd1 r).any λs=>q.1.any λx=>chkE G k sc N x&&chkE G v sc N s.1&&chkPs G ps sc N q.2 s.2
def chkEs(G:GI):IEs->Scope->List Str->List Expr->Bool
 |.nil,_,_,l=>non0 l
 |.cons e es,sc,N,l=>(hd1 l).any λq=>chkE G e sc N q.1&&chkEs G es sc N q.2
def chkO(G:GI):IO->Scope->List Str->Option Expr->Bool
 |.none,_,_,o=>!o.isSome
 |.some e,sc,N,o=>o.any λx=>chkE G e sc N x
def chkI(G:GI):IO->Scope->List Str->List Expr->Bool
 |.none,_,_,l=>non0 l
 |.some e,sc,N,l=>(the1 l).any λx=>tok e&&chkE G e sc N x
def chkSr(G:GI):ISr->Scope->List Str->Expr->Bool
 |.seq a,sc,N,e=>chkE G a sc N e
 |.rng a,sc,N,e=>(Zs e).any fun q=>(YZ q.1).any fun f=>(the1 q.2.1).any fun x=>non0 q.2.2.1&&decide (f=("range":Str))&&G.bl.contains f&&glB sc f&&chkE G a sc N x
end
def liSp(K:X4)(sp:SpM):Sp:=λl H Q _=>∃j M,RMs K H j l/\RH K M H/\sp j M (Dn K H Q)
structure Cok (X:Cx)(G:GI)(Φ:List (Str×SpM)):Prop where
 room:X.A.units+70<cLine
 calm:X.calm=true
 nox:X.xe=λ_ _=>False
 blk:X.env.blockKind=.function
 nd:X.N.Nodup
 bls:∀x,G.bl.contains x=true->X.mg x=none
 gls:∀x i,G.gl.lookup x=some i->∃tk,X.mg x=some (.int i tk)
 fnn:∀(j:Nat)f,G.fns[j]?=some f->∃sp,Φ[j]?=some (f,sp)
 mon:∀(j:Nat)f sp,Φ[j]?=some (f,sp)->MonW sp
 fns:∀(j:Nat)f sp,G.fns[j]?=some f->Φ[j]?=some (f,sp)->∃k fa fd ps,Room k X.A/\FnOk X.prog X.w X.K X.mg X.base CX0 k fa fd ps (liSp X.K sp)/\X.mg f=some (.ref fa)/\YQ X.K (.ref fa)=true/\Binds X.K fd ps []
 mts:∀(j:Nat)c m,G.mts.contains (j,c,m)=true->∃f sp,Φ[j]?=some (f,sp)/\∃k C fa fd ps,Room k X.A/\FnOk X.prog X.w X.K X.mg X.base CX0 k fa fd ps (liSp X.K sp)/\XA X.K Xp c=some (some (.ref C))/\Cls X.K C/\Meth X.K C m fa/\Binds X.K fd ps []
 mks:∀(j:Nat)c,G.mks.contains (j,c)=true->∃f sp,Φ[j]?=some (f,sp)/\∃k C fa fd ps,Room (k+1) X.A/\FnOk X.prog X.w X.K X.mg X.base CX0 k fa fd ps (liSp X.K sp)/\XA X.K Xp c=some (some (.ref C))/\X.mg c=some (.ref C)/\Mk X.K C fa/\Binds X.K fd ps []
 cls:∀c f,G.cls.contains (c,f)=true->∃C,XA X.K Xp c=some (some (.ref C))/\Cls X.K C/\NoAttr X.K C f
section
variable{X:Cx}{G:GI}{Φ:List (Str×SpM)}
theorem _pn{j:Scope}{x:Str}(h:visB j x=true):Vis j x:=by
 unfold visB at h;unfold Vis;cases e:j.names.lookup x with
 |none=>rw[e]at h;cases h
 |some k=>rw[e]at h;cases k<;>first|exact .inl rfl|exact .inr (.inl rfl)|exact .inr (.inr rfl)|cases h
theorem D9{j:Scope}{x:Str}(h:locB j x=true):Loc j x:=by
 unfold locB at h;unfold Loc;cases e:j.names.lookup x with
 |none=>rw[e]at h;cases h
 |some k=>rw[e]at h;cases k<;>first|exact .inl rfl|exact .inr rfl|cases h
theorem UE{x:Str}(h:glB X.env.scope x=true):Gl X x/\(x==("__debug__":Str))=false/\x≠"__name__":=by
 unfold glB at h;simp only[XY,decide_eq_true_eq,Bool.not_eq_true']at h;exact⟨h.1.1,h.1.2,h.2⟩
theorem _p5(f:BI):YH (f.name:Str)=some f.val:=by cases f<;>(show YH _=some _;decide+kernel)
theorem _p4{c:Ty7}(h:c≠.none):YH (c.name:Str)=some (.type c.name):=by cases c<;>first|exact absurd rfl h|decide+kernel
theorem boot_range:YH ("range":Str)=some (.type "range"):=by decide+kernel
theorem _ig:∀{l:IE} {m:Scope} {N:List Str} {e:Expr},chkE G l m N e=true->YD e=true:=by
 intro l m N e h;have j:∀{d:Type} {o:Option d} {p:d->Bool},o.any p=true->(∀x,o=some x->YD e=true)->YD e=true:=λh g=>let⟨x,e,_⟩:=Xg h;g x e
 have c:∀x,YZ e=some x->YD e=true:=λx h=>by obtain⟨p,rfl⟩:=_b h;rfl
 have f:∀x,V6 e=some x->YD e=true:=λx h=>by obtain⟨k,p,rfl⟩:=WW h;rfl
 have q:∀x,D4 e=some x->YD e=true:=λx h=>by obtain⟨p,rfl⟩:=Ki h;rfl
 have r:∀x,asUn e=some x->YD e=true:=λx h=>by obtain⟨p,rfl⟩:=EM h;rfl
 have L:∀x,WT e=some x->YD e=true:=λx h=>by obtain⟨p,rfl⟩:=EN h;rfl
 have O:∀x,WU e=some x->YD e=true:=λx h=>by obtain rfl:=EO h;rfl
 have P:∀x,asIf e=some x->YD e=true:=λx h=>by obtain⟨p,rfl⟩:=Kj h;rfl
 have R:∀x,W4 e=some x->YD e=true:=λx h=>by obtain⟨k,p,rfl⟩:=D6 h;rfl
 have T:∀x,D5 e=some x->YD e=true:=λx h=>by obtain⟨p,rfl⟩:=Kk h;rfl
 have U:∀x,WV e=some x->YD e=true:=λx h=>by obtain⟨p,rfl⟩:=EQ h;rfl
 have u:∀x,W5 e=some x->YD e=true:=λx h=>by obtain⟨p,rfl⟩:=D7 h;rfl
 have w:∀x,Zs e=some x->YD e=true:=λx h=>by obtain rfl:=Ub h;rfl
 have y:∀x,asLC e=some x->YD e=true:=λx h=>by obtain⟨p,rfl⟩:=Kl h;rfl
 have z:∀x,V7 e=some x->YD e=true:=λx h=>by obtain rfl:=WX h;rfl
 cases l<;>first|exact nob h|exact j h c|exact j h f|exact j h q|exact j h r|exact j h L|exact j h O|exact j h P|exact j h R|exact j h T|exact j h U|exact j h u|exact j h w|exact j h y|exact j h z
theorem YE:∀{j:IE} {l:Scope} {N:List Str} {e:Expr} {es:List Expr} {env:Env},chkE G j l N e=true->XC (e::es) env=(false,eval e env)::XC es env:=by
 intro j l N e es env h;cases e<;>first|rfl|cases _ig h
theorem Ud:∀{j:IEs} {l:Scope} {N:List Str} {es:List Expr} {env:Env} {pos:Pos},chkEs G j l N es=true->(XC es env).all (λx=>!x.1)=true
 |.nil,l,N,es,_,_,h=>by
  cases Yq h
  rfl
 |.cons e es,l,N,xs,env,pos,h=>by
  replace h:=Xg h;obtain⟨q,w,u⟩:=h;cases Uc w;rw[XY]at u;rw[YE u.1,Us];exact Ud (pos:=pos) u.2
theorem _lq:∀{j:IE} {l:Scope} {N:List Str} {x:Str} {u p:Pos} {ks:List Z7},chkE G j l N (.Call (.Name x u) [] ks p)=true->False:=by
 intro j l N x u p ks h;revert h;cases j<;>exact nob
set_option tactic.hygienic true in
theorem WY{l:IE}{u:Scope}{N:List Str}{o:Expr}{nm:Str}{env:Env}(h:chkE G l u N o=true):Ul o nm env (eval o env)=eval o env:=by
 cases o<;>try rfl
 rename_i w j z y
 cases w<;>try rfl
 cases j with
 |cons a r=>rfl
 |nil=>exact(_lq h).elim
theorem UF{pos:Pos}{l:List (Bool×Sem X0)}(h:l.all (λx=>!x.1)=true):(Y2 pos l).all (λx=>!x.1)=true/\(Y2 pos l).any (·.1)=false:=by
 induction l with
 |nil=>exact⟨rfl,rfl⟩
 |cons a r w=>
  rw[Us,XY]at h;obtain⟨j,u⟩:=w h.2;have e:a.1=false:=by simpa using h.1
  unfold Y2 at j u ⊢;rw[Xx,Us,ZF,j,u];obtain⟨b,t⟩:=a;cases e;exact⟨rfl,rfl⟩
end
def tCW2(own:List Str)(fr:List Nat)(g:TG)(tt:TT)(te:TE)(z:St)(e:Hp)(Q:VK)(J:It)(D:Addr):Prop:=∃W:Nat->Nat->List V->Hp->Prop,
 (∃m,W 0 m [] (upd e D (.lst [])))/\∀i m d l,W i m d l->
  ((J.stop i l/\Q (.ref D) l)\/(J.go i l/\∃N:List V->Hp->Prop,(∀u c,N u c->∃f,f<m/\W (i+1) f u c)/\∀x q,J.yld i l x q->g x (sC own fr z) q λj L=>Keep (sC own fr z) j/\tt j L λb r=>
   if b=true then te j r λy p=>∃w,p D=some (.lst w)/\w.length<sizeLine/\N (w++[y]) (upd p D (.lst (w++[y])))else N d r))
def ER(own:List Str)(fr:List Nat)(u:TI)(g:TG)(tt:TT)(te:TE):TE:=λj H Q=>u j H λJ l=>∀D,l D=none->tCW2 own fr g tt te j l Q J D
section
variable{X:Cx}{pq:List (Addr×Obj)}{σ:St}{H1:Hp}{s2:X2}{tg elt iter:Expr}{ifs:List Expr}{scope:Scope}{pos:Pos}{own:List Str}{fr:List Nat}{g:TG}{tt:TT}{te:TE}
theorem Ko{J:It}{j:List Addr}{it:Addr}{S:Nat->Heap->Prop}{RR:X0->Addr->Result->X2->Prop}{Q:VK}{E:X0->X2->Prop}(hc:X.calm=true)(ok:CompOk X.env.scope scope X.N fr)
  (hg:∀C j f L,PG (cxC X scope own fr C j f L) tg g)(ht:∀C j f L,PTs (cxC X scope own fr C j f L) ifs tt)(he:∀C j f L,PE (cxC X scope own fr C j f L) elt te)
  (I2:Inv X pq σ H1 s2)(T:Turn X.prog X.w X.K tg J j it S)(st:S 0 s2.heap)(Z:∀b∈j,FpOk X pq H1 b)
  (h:∀D,H1 D=none->tCW2 own fr g tt te σ H1 Q J D)
  (hRR:∀D C w s',Inv X pq σ w s'->(∃m,s'.heap.Ns C m)->w C=none->C≠X.env.locals->X.s₀.heap.objs.size<=C->(∀x c,X.env.cells.lookup x=some c->c≠C)->(∀p∈X.pn++pq,p.1≠C)->Q (.ref D) w->RR (.ref D) C (.ok .next) s'):
  X3 (X6 X.prog X.w) X.A (newList []) (λacc f=>X3 (X6 X.prog X.w) X.A (newFunctionEnv scope X.env.globals (clOf X.env.cells scope.names []) [] X.env.qual none .none (some X.env)) (λB R=>
   YW (X6 X.prog X.w) X.A (.compStart (.ListComp elt [⟨tg,iter,ifs,0⟩] scope pos) 0 (.ref it) acc {B with scope:=relabel scope X.env}) (RR acc B.locals) R) E f) E s2:=by
 have hD:H1 s2.heap.objs.size=none:=I2.hok.fresh (Xf _);obtain⟨W,⟨m0,w0⟩,step⟩:=h _ hD;refine ZZ (wpAny_newFunctionEnv ok.nocell (by intro y hy;simp at hy) (λh4 H s=>?_) ok.kind)
 dsimp only at H s ⊢;have a:Inv X pq σ (upd H1 s2.heap.objs.size (.lst [])) {s2 with heap:=s2.heap.push {cls:=.type "list",dict:=none,data:=.seq ([]:List X0).toArray},toks:=s2.toks}:=
  I2.laid (λb u e=>Xq _ e) (Xf _) ⟨YA _,[],0,.nil,XR _ rfl⟩
 have fpo:∀b∈j,∃o,s2.heap.get? b=some o:=λb l=>let⟨o,e,_⟩:=T.obj 0 _ st b l;⟨o,e⟩
 have fpD:∀b∈j,b≠s2.heap.objs.size:=λb l=>let⟨o,e⟩:=fpo b l;XB (Xv e)
 have hf3:∀b∈j,FpOk X pq (upd H1 s2.heap.objs.size (.lst [])) b:=λb l=>⟨by rw[XN (fpD b l)];exact(Z b l).1,(Z b l).2⟩
 generalize hs3:({s2 with heap:=s2.heap.push {cls:=.type "list",dict:=none,data:=.seq ([]:List X0).toArray},toks:=s2.toks}:X2)=s3 at*;have e3:s2.heap.push {cls:=.type "list",dict:=none,data:=.seq ([]:List X0).toArray}=s3.heap:=by rw[<-hs3]
 rw[e3]at H s ⊢;have kp:∀b o,s3.heap.get? b=some o->h4.get? b=some o:=λb o e=>(s.2 b (XB (Xv e))).trans (Xq _ e);have F:∀b∈j,∃o,s3.heap.get? b=some o:=λb l=>let⟨o,e⟩:=fpo b l;⟨o,by rw[<-e3];exact Xq _ e⟩
 have I4:=_ia (own:=own) (scope:=scope) (fr:=fr) (tk:=s2.toks+0) ok a rfl hf3 F H kp;have st4:S 0 h4:=T.keep _ _ _ st λb l o e=>kp b o (by rw[<-e3];exact Xq _ e)
 have fpC:∀b∈j,b≠s3.heap.objs.size:=λb l=>let⟨o,e⟩:=F b l;XB (Xv e)
 have U:∀{w:Hp},(∀b∈j,w b=none)->∀b∈j,FpOk (cxC X scope own fr s3.heap.objs.size j s3 (upd H1 s2.heap.objs.size (.lst []))) pq w b:=λhn b l=>by
  refine⟨hn b l,fpC b l,λz=>?_,.inl l,λx c e=>?_,(Z b l).2.2.2.2.2⟩
  .rcases Xl.mp (a.stkSub b z)with z|z
   .exact(Z b l).2.1 z
   .exact(Z b l).2.2.1 z
  .exact(Z b l).2.2.2.2.1 x c ((WM _ _ _ _ _ e).elim (λz=>by simp at z) id)
 have G:YW (X6 X.prog X.w) X.A (.compLoop (.ListComp elt [⟨tg,iter,ifs,0⟩] scope pos) 0 (.ref it) (.ref s2.heap.objs.size) (compEnvC scope (clOf X.env.cells scope.names []) s3.heap.objs.size X.env))
   (RR (.ref s2.heap.objs.size) s3.heap.objs.size) {s3 with heap:=h4,toks:=s2.toks+0}:=by
  refine _fp (λn s'=>∃i A w,Inv (cxC X scope own fr s3.heap.objs.size j s3 (upd H1 s2.heap.objs.size (.lst []))) pq (sC own fr σ) w s'/\S i s'.heap/\(∀b∈j,w b=none)/\W i n A w) ?_ m0
   ⟨0,[],_,I4,st4,λb l=>(hf3 b l).1,w0⟩
  rintro n s5 ⟨i,A,H5,I5,st5,fr5,w5⟩;have way:=step i n A H5 w5;rcases way with⟨stop,q⟩|⟨go,N,hN,turn⟩
  .refine thn (T.done (cxC X scope own fr s3.heap.objs.size j s3 (upd H1 s2.heap.objs.size (.lst []))) rfl rfl rfl hc i pq s5 _ H5 _ I5 (U fr5) st5 stop) λr s6 ⟨hr,I6⟩=>?_;subst hr;have J6:Inv X pq σ H5 s6:=a.call' I6.os I6.base I6.hok I6.bare λb l=>⟨(Z b l).2.2.2.1,(Z b l).2.1,(Z b l).2.2.2.2.1,(Z b l).2.2.2.2.2⟩;obtain⟨m6,ns6,_⟩:=I6.loc;refine hRR _ _ H5 s6 J6 ⟨m6,ns6⟩ I6.free (UW a.lt) a.sz (λx c e=>?_) (λp hp=>?_) q
   .obtain⟨v,z⟩:=a.cell x c e;exact XB z.lt
   .exact XB (Xv (a.pin p hp).1)
  .refine thn (T.item (cxC X scope own fr s3.heap.objs.size j s3 (upd H1 s2.heap.objs.size (.lst []))) rfl rfl rfl hc i pq s5 _ H5 _ I5 (U fr5) st5 go) λr s6 ⟨u,hr,h6⟩=>?_;subst hr;refine thn h6 λ_ s7 ⟨x,H7,I7,r7,y7,st7,fr7⟩=>?_;have I7':=I7.pinned (U fr7) (T.obj _ _ st7);refine thn (hg _ _ _ _ _ s7 _ H7 x u _ I7' r7 (turn x H7 y7)) λ_ s8 ⟨O,H8,I8,kp8,q8⟩=>?_;have again:∀{Y:Hp} {P:X2},Inv (cxC X scope own fr s3.heap.objs.size j s3 (upd H1 s2.heap.objs.size (.lst []))) (pq++VN j s7.heap) O Y P->∀{ys'},(∃m',m'<n/\W (i+1) m' ys' Y)->
     ∃m,m<n/\∃i A w,Inv (cxC X scope own fr s3.heap.objs.size j s3 (upd H1 s2.heap.objs.size (.lst []))) pq (sC own fr σ) w P/\S i P.heap/\(∀b∈j,w b=none)/\W i m A w:=fun{Y P} I {ys'} ⟨m',hm,w9⟩=>by
    refine⟨m',hm,i+1,ys',Y,(I.unpinned).weak kp8.1 kp8.2,T.keep _ _ _ st7 λb l o e=>(I.pin (b,o) (ZD _ (ZD _ (CM l e)))).1,λb l=>?_,w9⟩;obtain⟨o,e,d⟩:=T.obj _ _ st7 b l;exact(I.pin (b,o) (ZD _ (ZD _ (CM l e)))).2.1
   have fin:∀{ok:Bool} {P:X2} {Y:Hp},Inv (cxC X scope own fr s3.heap.objs.size j s3 (upd H1 s2.heap.objs.size (.lst []))) (pq++VN j s7.heap) O Y P->
     (if ok=true then te O Y λy H6=>∃zs,H6 s2.heap.objs.size=some (.lst zs)/\zs.length<sizeLine/\N (zs++[y]) (upd H6 s2.heap.objs.size (.lst (zs++[y])))else N A Y)->
     (if ok=true then X3 (X6 X.prog X.w) X.A (eval elt (compEnvC scope (clOf X.env.cells scope.names []) s3.heap.objs.size X.env)) (λx R=>
      X3 (X6 X.prog X.w) X.A (call (.builtin "list.append") [.ref s2.heap.objs.size,x]) (fun _ M=>∃m,m<n/\∃i A w,Inv (cxC X scope own fr s3.heap.objs.size j s3 (upd H1 s2.heap.objs.size (.lst []))) pq (sC own fr σ) w M/\S i M.heap/\(∀b∈j,w b=none)/\W i m A w) (fun _ _=>False) R) (fun _ _=>False) P
      else∃m,m<n/\∃i A w,Inv (cxC X scope own fr s3.heap.objs.size j s3 (upd H1 s2.heap.objs.size (.lst []))) pq (sC own fr σ) w P/\S i P.heap/\(∀b∈j,w b=none)/\W i m A w):=fun{ok P Y} I q9=>by
    cases ok with
    |false=>
     rw[if_neg XG]at q9 ⊢;exact again I (hN _ _ q9)
    |true=>
     rw[if_pos rfl]at q9 ⊢;refine thn (he _ _ _ _ _ P O Y _ I q9) λv s10 ⟨y,H10,I10,r10,zs,hl10,hz5,w10⟩=>?_;refine thn (Jc (X:=cxC X scope own fr s3.heap.objs.size j s3 (upd H1 s2.heap.objs.size (.lst []))) _ s10 O H10 (.ref s2.heap.objs.size) [y] (.ref s2.heap.objs.size) [v] (λ_ w=>w=upd H10 s2.heap.objs.size (.lst (zs++[y]))) I10 rfl (.cons r10 .nil) ⟨_,zs,y,rfl,rfl,hl10,hz5,rfl⟩) λ_ s11 ⟨_,H11,I11,_,e11⟩=>?_;subst e11;exact again I11 (hN _ _ w10)
   rcases ht s3.heap.objs.size j s3 (upd H1 s2.heap.objs.size (.lst []))with⟨e,et⟩|⟨c,e,hcT⟩
   .subst e et;exact wpAny_tests_nil (fin (ok:=true) I8 q8)
   .subst e;exact wpAny_tests_one (thn (hcT _ s8 O H8 _ I8 q8) λb P ⟨Y,I,q9⟩=>fin I q9)
 subst hs3;exact codeAny_compStart_list G (T.self _ 0 _ _ _ st4 G)
theorem _lg(own:List Str)(fr:List Nat){c:TI}(hx:∀e s,¬X.xe e s)(f:X.calm=true)(ok:VS X.env.scope scope X.N own fr=true)(r:PI X tg iter c)
  (p:∀C w j l,PG (cxC X scope own fr C w j l) tg g)(L:∀C w j l,PTs (cxC X scope own fr C w j l) ifs tt)(N:∀C w j l,PE (cxC X scope own fr C w j l) elt te)
  (O:∀x,BM iter X.env x=pure x:=by intro _;rfl):
  PE X (.ListComp elt [⟨tg,iter,ifs,0⟩] scope pos) (ER own fr c g tt te):=by
 have u:=VT ok;intro pq s σ H Q I h;rw[eval_ListComp];refine wpAny_comprehension_free (use:=none) (cl:=clOf X.env.cells scope.names []) rfl O (Jn λy P U=>I.ok.has y.1 (u.has y P U)) u.kind u.names (thn (r pq s σ H _ I h) λv s1 W=>thn W λY s2 Z=>?_);obtain⟨it,w,tn,J,H2,e,A,T,z,B,R⟩:=Z;subst e;refine Ko (RR:=λd C=>compPost (X6 X.prog X.w) X.A X.xe none (EP X pq σ Q) d C) (Q:=Q) f u p L N A T z B R ?_;rintro D C E F G ⟨m,M⟩ S i n a c5 q;refine⟨m,M,λh' sb=>⟨.ref D,E,?_,rfl,q⟩⟩;exact G.turned (t':=F.toks) (λb o hb e=>(sb.2 b hb).trans e) S i (.inr n) a c5
theorem _g2(own:List Str)(fr:List Nat){i:Nat}{y:Str}{c d:Pos}{F:TI}(S:X.N.Nodup)(n:X.N[i]?=some y)(p:Loc X.env.scope y)(hx:∀e s,¬X.xe e s)(hc:X.calm=true)(ok:VS X.env.scope scope X.N own fr=true)(L:PI X tg iter F)
  (hg:∀C f j l,PG (cxC X scope own fr C f j l) tg g)(ht:∀C f j l,PTs (cxC X scope own fr C f j l) ifs tt)(he:∀C f j l,PE (cxC X scope own fr C f j l) elt te)
  (N:Zz (.ListComp elt [⟨tg,iter,ifs,0⟩] scope pos) (some (.Name y c)) d.line X.env=pure true:=by rfl)(hs:∀x,BM iter X.env x=pure x:=by intro _;rfl)
  (hf:X.fn y=true\/X.env.scope.names.lookup y=some .local:=by first|exact .inl rfl|exact .inr rfl|assumption):
  PS X (.Assign [.Name y c] (.ListComp elt [⟨tg,iter,ifs,0⟩] scope pos) d) (tAsg (ER own fr F g tt te) (CL i)):=by
 have w:=VT ok;intro pq s σ H D I h;rw[exec_Assign_Name_used _ _ _ _ N];refine X1 (wpAny_standAt (X1 ?_));show X3 _ X.A (do let _<- comprehension (.ListComp elt [⟨tg,iter,ifs,0⟩] scope pos) scope X.env _ (newList []) false (eval iter X.env) (some (assign (.Name y c) X.env))) _ _ s
 refine X1 (Zx (wpAny_comprehension_free (use:=some (assign (.Name y c) X.env)) (cl:=clOf X.env.cells scope.names []) (Q:=λ_ r=>SP X pq D .next r) rfl hs (Jn λy p hk=>I.ok.has y.1 (w.has y p hk)) w.kind w.names
  (thn (L pq s σ H _ I h) λv s1 h1=>thn h1 λitv s2 h2=>?_)) (λ_ r hq=>X9 (X9 hq)) λ_ _ e=>e)
 obtain⟨it,f,tn,J,H2,e,I2,T,O,f2,R⟩:=h2;subst e;refine Ko (RR:=λP C=>compPost (X6 X.prog X.w) X.A X.xe (some (assign (.Name y c) X.env)) (λ_ r=>SP X pq D .next r) P C) (Q:=λv U=>D.nx (σ.set i (some v)) U) hc w hg ht he I2 T O f2 R ?_;rintro E C U r I' ⟨m,ns⟩ c1 G c3 M c5 q;show X3 _ X.A (assign (.Name y c) X.env (.ref E)) _ _ _;refine wpAny_assign_Name (Ix I' S n p (v:=.ref E) (u:=.ref E) rfl (λW Y Z=>?_) hf);obtain⟨a,Z,ha⟩:=Z;have A:C≠a:=by
  rcases ha with z|z
  .rw[z];exact G
  .exact λe=>M _ _ z e.symm
 refine⟨m,ns.sameBut Z A,λh' B=>⟨_,U,?_,q⟩⟩;exact Y.turned (t':=W.toks) (λb o hb e=>(B.2 b hb).trans e) c1 G (.inr c3) M c5
end
theorem hide{G:Prop}(h:∀j:Prop,(G->j)->j):G:=h G id
section
variable{G:GI}{sc:Scope}{N:List Str}{e:Expr}
theorem Xe{a b:Bool}(h:(a&&b)=true):a=true/\b=true:=by rwa [XY]at h
theorem XJ{p:Prop} [Decidable p] (h:decide p=true):p:=of_decide_eq_true h
theorem not_of{b:Bool}(h:(!b)=true):b=false:=by cases b with|false=>rfl|true=>cases h
theorem _oq{i:Nat}(h:chkE G (.var i) sc N e=true):∃x p,e=.Name x p/\N[i]?=some x/\visB sc x=true/\(x==("__debug__":Str))=false/\(x==("__classdict__":Str))=false:=by
 refine hide λ_ k=>?_;replace h:=Xg h;obtain⟨x,j,h⟩:=h;obtain⟨p,rfl⟩:=_b j;replace h:=Xe h;obtain⟨h,l⟩:=h;replace h:=Xe h;obtain⟨h,u⟩:=h;replace h:=Xe h;obtain⟨w,y⟩:=h;exact k ⟨x,p,rfl,XJ w,y,not_of u,not_of l⟩
theorem _oy{i:Int}(h:chkE G (.int i) sc N e=true):∃k p,e=.Constant (.int i) k p:=by
 replace h:=Xg h;obtain⟨x,j,h⟩:=h;obtain⟨k,p,rfl⟩:=WW j;exact⟨k,p,by rw[XJ h]⟩
theorem _os{i:Str}(h:chkE G (.str i) sc N e=true):∃k p,e=.Constant (.str i) k p:=by
 replace h:=Xg h;obtain⟨x,j,h⟩:=h;obtain⟨k,p,rfl⟩:=WW j;exact⟨k,p,by rw[XJ h]⟩
theorem _r0{i:Bool}(h:chkE G (.bl i) sc N e=true):∃k p,e=.Constant (.bool i) k p:=by
 replace h:=Xg h;obtain⟨x,j,h⟩:=h;obtain⟨k,p,rfl⟩:=WW j;exact⟨k,p,by rw[XJ h]⟩
theorem _ov(h:chkE G .non sc N e=true):∃k p,e=.Constant .none k p:=by
 replace h:=Xg h;obtain⟨x,j,h⟩:=h;obtain⟨k,p,rfl⟩:=WW j;exact⟨k,p,by rw[XJ h]⟩
theorem _oA{x:Str}{i:Int}(h:chkE G (.glb x i) sc N e=true):∃p,e=.Name x p/\G.gl.lookup x=some i/\glB sc x=true:=by
 refine hide λ_ k=>?_;replace h:=Xg h;obtain⟨y,j,h⟩:=h;obtain⟨p,rfl⟩:=_b j;replace h:=Xe h;obtain⟨h,l⟩:=h;replace h:=Xe h;obtain⟨u,w⟩:=h;obtain rfl:=XJ u;exact k ⟨p,rfl,XJ w,l⟩
theorem _qV{c:Ty7}(h:chkE G (.ty c) sc N e=true):∃p,e=.Name (c.name:Str) p/\c≠.none/\G.bl.contains (c.name:Str)=true/\glB sc (c.name:Str)=true:=by
 refine hide λ_ k=>?_;replace h:=Xg h;obtain⟨y,j,h⟩:=h;obtain⟨p,rfl⟩:=_b j;replace h:=Xe h;obtain⟨h,l⟩:=h;replace h:=Xe h;obtain⟨h,u⟩:=h;replace h:=Xe h;obtain⟨w,z⟩:=h;obtain rfl:=XJ w;exact k ⟨p,rfl,XJ z,u,l⟩
theorem _oF{op:Uk}{a b:IE}(h:chkE G (.bin op a b) sc N e=true):∃l r p,e=.BinOp l op r p/\chkE G a sc N l=true/\chkE G b sc N r=true:=by
 refine hide λ_ k=>?_;replace h:=Xg h;obtain⟨⟨l,o,r⟩,j,h⟩:=h;obtain⟨p,rfl⟩:=Ki j;replace h:=Xe h;obtain⟨h,u⟩:=h;replace h:=Xe h;obtain⟨w,y⟩:=h;obtain rfl:=XJ w;exact k ⟨l,r,p,rfl,y,u⟩
theorem _ow{a:IE}(h:chkE G (.neg a) sc N e=true):∃l p,e=.UnaryOp .USub l p/\chkE G a sc N l=true:=by
 refine hide λ_ k=>?_;replace h:=Xg h;obtain⟨⟨o,l⟩,j,h⟩:=h;obtain⟨p,rfl⟩:=EM j;replace h:=Xe h;obtain⟨u,w⟩:=h;obtain rfl:=XJ u;exact k ⟨l,p,rfl,w⟩
theorem _ou{a:IE}(h:chkE G (.not a) sc N e=true):∃l p,e=.UnaryOp .Not l p/\chkE G a sc N l=true:=by
 refine hide λ_ k=>?_;replace h:=Xg h;obtain⟨⟨o,l⟩,j,h⟩:=h;obtain⟨p,rfl⟩:=EM j;replace h:=Xe h;obtain⟨u,w⟩:=h;obtain rfl:=XJ u;exact k ⟨l,p,rfl,w⟩
theorem _oD{op:CmpOp}{a b:IE}(h:chkE G (.cmp op a b) sc N e=true):∃l r p,e=.Compare l [op] [r] p/\chkE G a sc N l=true/\chkE G b sc N r=true/\behindInMarks op r=false:=by
 refine hide λ_ k=>?_;replace h:=Xg h;obtain⟨⟨l,os,d⟩,j,h⟩:=h;obtain⟨p,rfl⟩:=EN j;replace h:=Xg h;obtain⟨o,u,h⟩:=h;replace h:=Xg h;obtain⟨r,w,h⟩:=h;obtain rfl:=_t u;obtain rfl:=_t w;replace h:=Xe h;obtain⟨h,y⟩:=h;replace h:=Xe h;obtain⟨h,z⟩:=h;replace h:=Xe h;obtain⟨m,g⟩:=h;obtain rfl:=XJ m;exact k ⟨l,r,p,rfl,g,z,not_of y⟩
theorem _oE{op j:CmpOp}{a b c:IE}(h:chkE G (.chn op j a b c) sc N e=true):∃l m r p,e=.Compare l [op,j] [m,r] p/\chkE G a sc N l=true/\chkE G b sc N m=true/\chkE G c sc N r=true/\lastMarks [op,j] [m,r]=false:=by
 refine hide λ_ k=>?_;replace h:=Xg h;obtain⟨⟨l,os,O⟩,u,h⟩:=h;obtain⟨p,rfl⟩:=EN u;replace h:=Xg h;obtain⟨⟨o,P⟩,w,h⟩:=h;replace h:=Xg h;obtain⟨⟨m,r⟩,y,h⟩:=h;obtain rfl:=Km w;obtain rfl:=Km y;replace h:=Xe h;obtain⟨h,z⟩:=h;replace h:=Xe h;obtain⟨h,g⟩:=h;replace h:=Xe h;obtain⟨h,d⟩:=h;replace h:=Xe h;obtain⟨h,f⟩:=h;replace h:=Xe h;obtain⟨q,L⟩:=h;obtain rfl:=XJ q;obtain rfl:=XJ L;exact k ⟨l,m,r,p,rfl,f,d,g,not_of z⟩
theorem _oG{a b:IE}(h:chkE G (.and a b) sc N e=true):∃l r rest p,e=.BoolOp .And (l::r::rest) p/\chkE G a sc N l=true/\((rest=[]/\chkE G b sc N r=true)\/chkE G b sc N (.BoolOp .And (r::rest) p)=true):=by
 replace h:=Xg h;obtain⟨⟨o,z,p⟩,w,h⟩:=h;obtain rfl:=EO w;replace h:=Xg h;obtain⟨⟨l,r,rest⟩,j,h⟩:=h;obtain rfl:=Kn j;replace h:=Xe h;obtain⟨h,u⟩:=h;replace h:=Xe h;obtain⟨j,y⟩:=h;obtain rfl:=XJ j;refine⟨l,r,rest,p,rfl,y,?_⟩;cases rest with
 |nil=>exact .inl ⟨rfl,u⟩
 |cons _ _=>exact .inr u
theorem _qX{a b:IE}(h:chkE G (.or a b) sc N e=true):∃l r rest p,e=.BoolOp .Or (l::r::rest) p/\chkE G a sc N l=true/\((rest=[]/\chkE G b sc N r=true)\/chkE G b sc N (.BoolOp .Or (r::rest) p)=true):=by
 replace h:=Xg h;obtain⟨⟨o,z,p⟩,w,h⟩:=h;obtain rfl:=EO w;replace h:=Xg h;obtain⟨⟨l,r,rest⟩,j,h⟩:=h;obtain rfl:=Kn j;replace h:=Xe h;obtain⟨h,u⟩:=h;replace h:=Xe h;obtain⟨j,y⟩:=h;obtain rfl:=XJ j;refine⟨l,r,rest,p,rfl,y,?_⟩;cases rest with
 |nil=>exact .inl ⟨rfl,u⟩
 |cons _ _=>exact .inr u
theorem _oz{a b c:IE}(h:chkE G (.ife c a b) sc N e=true):∃t x y p,e=.IfExp t x y p/\tok c=true/\chkE G c sc N t=true/\chkE G a sc N x=true/\chkE G b sc N y=true:=by
 refine hide λ_ k=>?_;replace h:=Xg h;obtain⟨⟨t,x,y⟩,j,h⟩:=h;obtain⟨p,rfl⟩:=Kj j;replace h:=Xe h;obtain⟨h,l⟩:=h;replace h:=Xe h;obtain⟨h,u⟩:=h;replace h:=Xe h;obtain⟨w,z⟩:=h;exact k ⟨t,x,y,p,rfl,w,z,u,l⟩
theorem _or{es:IEs}(h:chkE G (.tup es) sc N e=true):∃xs k p,e=.Tuple xs k p/\chkEs G es sc N xs=true:=by
 replace h:=Xg h;obtain⟨xs,j,h⟩:=h;obtain⟨k,p,rfl⟩:=D6 j;exact⟨xs,k,p,rfl,h⟩
theorem _ox{es:IEs}(h:chkE G (.lst es) sc N e=true):∃xs p,e=.List xs p/\chkEs G es sc N xs=true:=by
 replace h:=Xg h;obtain⟨xs,j,h⟩:=h;obtain⟨p,rfl⟩:=Kk j;exact⟨xs,p,rfl,h⟩
theorem _oC(h:chkE G .dic sc N e=true):∃p,e=.Dict [] [] p:=by
 refine hide λ_ k=>?_;replace h:=Xg h;obtain⟨⟨w,y⟩,j,h⟩:=h;obtain⟨p,rfl⟩:=EQ j;replace h:=Xe h;obtain⟨l,u⟩:=h;cases Yq l;cases Yq u;exact k ⟨p,rfl⟩
theorem _qZ{a b:IE}(h:chkE G (.ix a b) sc N e=true):∃x y p,e=.Subscript x y p/\chkE G a sc N x=true/\chkE G b sc N y=true/\WQ y=true:=by
 refine hide λ_ k=>?_;replace h:=Xg h;obtain⟨⟨x,y⟩,j,h⟩:=h;obtain⟨p,rfl⟩:=D7 j;replace h:=Xe h;obtain⟨h,l⟩:=h;replace h:=Xe h;obtain⟨u,w⟩:=h;exact k ⟨x,y,p,rfl,u,w,l⟩
theorem _qW{a:IE}{lo w:IO}(h:chkE G (.sl a lo w) sc N e=true):∃x l u p j,e=.Subscript x (.Slice l u none j) p/\chkE G a sc N x=true/\chkO G lo sc N l=true/\chkO G w sc N u=true:=by
 replace h:=Xg h;obtain⟨⟨x,y⟩,z,h⟩:=h;obtain⟨p,rfl⟩:=D7 z;replace h:=Xg h;obtain⟨⟨l,u,st⟩,m,h⟩:=h;obtain⟨j,rfl⟩:=_pa m;replace h:=Xe h;obtain⟨h,g⟩:=h;replace h:=Xe h;obtain⟨h,d⟩:=h;replace h:=Xe h;obtain⟨c,f⟩:=h;cases st with
 |some _=>cases g
 |none=>exact⟨x,l,u,p,j,rfl,c,f,d⟩
theorem _lF{j:Nat}{a:IE}{es:IEs}(h:chkE G (.call j a es) sc N e=true):∃f p x xs u,e=.Call (.Name f p) (x::xs) [] u/\G.fns[j]?=some f/\glB sc f=true/\chkE G a sc N x=true/\chkEs G es sc N xs=true:=by
 refine hide λ_ k=>?_;replace h:=Xg h;obtain⟨⟨f,l,L,u⟩,w,h⟩:=h;obtain rfl:=Ub w;replace h:=Xg h;obtain⟨g,y,h⟩:=h;obtain⟨p,rfl⟩:=_b y;replace h:=Xg h;obtain⟨⟨x,xs⟩,z,h⟩:=h;obtain rfl:=Uc z;replace h:=Xe h;obtain⟨h,m⟩:=h;replace h:=Xe h;obtain⟨h,d⟩:=h;replace h:=Xe h;obtain⟨h,c⟩:=h;replace h:=Xe h;obtain⟨q,r⟩:=h;obtain rfl:=Yq q;exact k ⟨g,p,x,xs,u,rfl,XJ r,c,d,m⟩
theorem _r1{f:BI}{a:IE}{es:IEs}(h:chkE G (.bi f a es) sc N e=true):∃p x xs j,e=.Call (.Name (f.name:Str) p) (x::xs) [] j/\G.bl.contains (f.name:Str)=true/\glB sc (f.name:Str)=true/\chkE G a sc N x=true/\chkEs G es sc N xs=true:=by
 refine hide λ_ k=>?_;replace h:=Xg h;obtain⟨⟨L,l,O,j⟩,u,h⟩:=h;obtain rfl:=Ub u;replace h:=Xg h;obtain⟨g,w,h⟩:=h;obtain⟨p,rfl⟩:=_b w;replace h:=Xg h;obtain⟨⟨x,xs⟩,y,h⟩:=h;obtain rfl:=Uc y;replace h:=Xe h;obtain⟨h,z⟩:=h;replace h:=Xe h;obtain⟨h,m⟩:=h;replace h:=Xe h;obtain⟨h,d⟩:=h;replace h:=Xe h;obtain⟨h,c⟩:=h;replace h:=Xe h;obtain⟨q,r⟩:=h;obtain rfl:=Yq q;obtain rfl:=XJ r;exact k ⟨p,x,xs,j,rfl,c,d,m,z⟩
theorem _r2{f:B2}{a:IE}(h:chkE G (.b2 f a) sc N e=true):∃p p' x u j,e=.Call (.Name (f.out:Str) p) [.Call (.Name (f.inn:Str) p') [x] [] j] [] u/\G.bl.contains (f.out:Str)=true/\G.bl.contains (f.inn:Str)=true/\glB sc (f.out:Str)=true/\glB sc (f.inn:Str)=true/\chkE G a sc N x=true:=by
 refine hide λ_ k=>?_;replace h:=Xg h;obtain⟨⟨B,l,C,u⟩,w,h⟩:=h;obtain rfl:=Ub w;replace h:=Xg h;obtain⟨g,z,h⟩:=h;obtain⟨p,rfl⟩:=_b z;replace h:=Xg h;obtain⟨y,m,h⟩:=h;obtain rfl:=_t m;replace h:=Xg h;obtain⟨⟨d,D,c,j⟩,q,h⟩:=h;obtain rfl:=Ub q;replace h:=Xg h;obtain⟨k,r,h⟩:=h;obtain⟨p',rfl⟩:=_b r;replace h:=Xg h;obtain⟨x,L,h⟩:=h;obtain rfl:=_t L;simp only[XY]at h;obtain⟨⟨⟨⟨⟨⟨⟨⟨O,P⟩,R⟩,T⟩,U⟩,W⟩,Y⟩,Z⟩,A⟩:=h;obtain rfl:=Yq O;obtain rfl:=Yq P;obtain rfl:=XJ R;obtain rfl:=XJ T;exact k ⟨p,p',x,u,j,rfl,U,W,Y,Z,A⟩
theorem _qY{m:MT}{o:IE}{es:IEs}(h:chkE G (.mt m o es) sc N e=true):∃l u j w,e=.Call (.Attribute l (m.name:Str) u) j [] w/\(u.endLine==w.line)=true/\chkE G o sc N l=true/\chkEs G es sc N j=true/\j.length<20:=by
 refine hide λ_ k=>?_;replace h:=Xg h;obtain⟨⟨p,j,L,w⟩,y,h⟩:=h;obtain rfl:=Ub y;replace h:=Xg h;obtain⟨⟨l,O,u⟩,z,h⟩:=h;obtain rfl:=WX z;replace h:=Xe h;obtain⟨h,g⟩:=h;replace h:=Xe h;obtain⟨h,d⟩:=h;replace h:=Xe h;obtain⟨h,c⟩:=h;replace h:=Xe h;obtain⟨h,f⟩:=h;replace h:=Xe h;obtain⟨q,r⟩:=h;obtain rfl:=Yq q;obtain rfl:=XJ r;exact k ⟨l,u,j,w,rfl,f,c,d,XJ g⟩
theorem Kq{own:List Str}{fr:List Nat}{u:ISr}{tg:ITg}{l:IO}{elt:IE}(h:chkE G (.comp own fr u tg l elt) sc N e=true):∃x t it j scope p,e=.ListComp x [⟨t,it,j,0⟩] scope p/\VS sc scope N own fr=true/\WR it=true/\
  (nC own fr N).Nodup/\chkSr G u sc N it=true/\Zc (W3 scope sc) (nC own fr N) own.length false tg t=true/\chkI G l (W3 scope sc) (nC own fr N) j=true/\chkE G elt (W3 scope sc) (nC own fr N) x=true:=by
 replace h:=Xg h;obtain⟨⟨x,r,scope⟩,y,h⟩:=h;obtain⟨p,rfl⟩:=Kl y;replace h:=Xg h;obtain⟨⟨t,it,j,k⟩,w,h⟩:=h;obtain rfl:=_t w;replace h:=Xe h;obtain⟨h,z⟩:=h;replace h:=Xe h;obtain⟨h,m⟩:=h;replace h:=Xe h;obtain⟨h,g⟩:=h;replace h:=Xe h;obtain⟨h,d⟩:=h;replace h:=Xe h;obtain⟨h,c⟩:=h;replace h:=Xe h;obtain⟨h,f⟩:=h;replace h:=Xe h;obtain⟨w,q⟩:=h;obtain rfl:=XJ z;exact⟨x,t,it,j,scope,p,rfl,w,q,XJ f,c,d,g,m⟩
theorem _oB{c f:Str}{o:IE}(h:chkE G (.fld c o f) sc N e=true):∃j p,e=.Attribute j f p/\G.cls.contains (c,f)=true/\chkE G o sc N j=true:=by
 refine hide λ_ k=>?_;replace h:=Xg h;obtain⟨⟨j,z,p⟩,l,h⟩:=h;obtain rfl:=WX l;replace h:=Xe h;obtain⟨h,u⟩:=h;replace h:=Xe h;obtain⟨w,y⟩:=h;obtain rfl:=XJ w;exact k ⟨j,p,rfl,y,u⟩
theorem _jw{j:Nat}{c m:Str}{o:IE}{es:IEs}(h:chkE G (.mcall j c m o es) sc N e=true):∃u w l y,e=.Call (.Attribute u m w) l [] y/\G.mts.contains (j,c,m)=true/\chkE G o sc N u=true/\chkEs G es sc N l=true/\(w.endLine==y.line)=true/\l.length<20:=by
 refine hide λ_ k=>?_;replace h:=Xg h;obtain⟨⟨P,l,R,y⟩,z,h⟩:=h;obtain rfl:=Ub z;replace h:=Xg h;obtain⟨⟨u,T,w⟩,g,h⟩:=h;obtain rfl:=WX g;simp only[XY]at h;obtain⟨⟨⟨⟨⟨⟨d,f⟩,q⟩,r⟩,p⟩,L⟩,O⟩:=h;obtain rfl:=Yq d;obtain rfl:=XJ f;exact k ⟨u,w,l,y,rfl,q,r,p,L,XJ O⟩
theorem _lD{j:Nat}{c:Str}{a:IE}{es:IEs}(h:chkE G (.make j c a es) sc N e=true):∃p x xs u,e=.Call (.Name c p) (x::xs) [] u/\G.mks.contains (j,c)=true/\glB sc c=true/\chkE G a sc N x=true/\chkEs G es sc N xs=true:=by
 refine hide λ_ k=>?_;replace h:=Xg h;obtain⟨⟨O,l,P,u⟩,w,h⟩:=h;obtain rfl:=Ub w;replace h:=Xg h;obtain⟨g,y,h⟩:=h;obtain⟨p,rfl⟩:=_b y;replace h:=Xg h;obtain⟨⟨x,xs⟩,z,h⟩:=h;obtain rfl:=Uc z;simp only[XY]at h;obtain⟨⟨⟨⟨⟨m,d⟩,f⟩,q⟩,r⟩,L⟩:=h;obtain rfl:=Yq m;obtain rfl:=XJ d;exact k ⟨p,x,xs,u,rfl,f,q,r,L⟩
theorem _lE{ps:IPs}(h:chkE G (.disp ps) sc N e=true):∃ks vs p,e=.Dict ks vs p/\ks≠ []/\ks.length<=15/\chkPs G ps sc N ks vs=true:=by
 replace h:=Xg h;obtain⟨⟨ks,vs⟩,l,h⟩:=h;obtain⟨p,rfl⟩:=EQ l;replace h:=Xe h;obtain⟨h,u⟩:=h;replace h:=Xe h;obtain⟨j,w⟩:=h;refine⟨ks,vs,p,rfl,λz=>?_,XJ w,u⟩;rw[z]at j;cases j
theorem Kr{ks:List (Option Expr)}{vs:List Expr}(h:chkPs G .nil sc N ks vs=true):ks=[]/\vs=[]:=by
 replace h:=Xe h;exact⟨Yq h.1,Yq h.2⟩
theorem Ks{k v:IE}{ps:IPs}{ks:List (Option Expr)}{vs:List Expr}(h:chkPs G (.cons k v ps) sc N ks vs=true):∃x j y l,ks=some x::j/\vs=y::l/\chkE G k sc N x=true/\chkE G v sc N y=true/\chkPs G ps sc N j l=true:=by
 refine hide λ_ k=>?_;replace h:=Xg h;obtain⟨⟨o,j⟩,w,h⟩:=h;replace h:=Xg h;obtain⟨⟨y,l⟩,z,h⟩:=h;replace h:=Xg h;obtain⟨x,u,h⟩:=h;replace h:=Xe h;obtain⟨h,m⟩:=h;replace h:=Xe h;obtain⟨g,d⟩:=h;dsimp only at u;subst u;exact k ⟨x,j,y,l,Uc w,Uc z,g,d,m⟩
theorem ES{l:List Expr}(h:chkEs G .nil sc N l=true):l=[]:=by
 exact Yq h
theorem ET{a:IE}{es:IEs}{l:List Expr}(h:chkEs G (.cons a es) sc N l=true):∃x xs,l=x::xs/\chkE G a sc N x=true/\chkEs G es sc N xs=true:=by
 replace h:=Xg h;obtain⟨⟨x,xs⟩,j,h⟩:=h;exact⟨x,xs,Uc j,Xe h⟩
theorem _i1(h:chkO G .none sc N o=true):o=none:=by
 cases o with
 |none=>rfl
 |some _=>cases h
theorem _i0{a:IE}{o:Option Expr}(h:chkO G (.some a) sc N o=true):∃x,o=some x/\chkE G a sc N x=true:=by
 exact Xg h
theorem _i3{l:List Expr}(h:chkI G .none sc N l=true):l=[]:=by
 exact Yq h
theorem _i2{a:IE}{l:List Expr}(h:chkI G (.some a) sc N l=true):∃x,l=[x]/\tok a=true/\chkE G a sc N x=true:=by
 replace h:=Xg h;obtain⟨x,j,h⟩:=h;exact⟨x,_t j,Xe h⟩
theorem _ot{a:IE}(h:chkSr G (.rng a) sc N e=true):∃p x j,e=.Call (.Name ("range":Str) p) [x] [] j/\G.bl.contains ("range":Str)=true/\glB sc ("range":Str)=true/\chkE G a sc N x=true:=by
 refine hide λ_ k=>?_;replace h:=Xg h;obtain⟨⟨q,l,r,j⟩,u,h⟩:=h;obtain rfl:=Ub u;replace h:=Xg h;obtain⟨g,w,h⟩:=h;obtain⟨p,rfl⟩:=_b w;replace h:=Xg h;obtain⟨x,y,h⟩:=h;obtain rfl:=_t y;replace h:=Xe h;obtain⟨h,z⟩:=h;replace h:=Xe h;obtain⟨h,m⟩:=h;replace h:=Xe h;obtain⟨h,d⟩:=h;replace h:=Xe h;obtain⟨c,f⟩:=h;obtain rfl:=Yq c;obtain rfl:=XJ f;exact k ⟨p,x,j,rfl,d,m,z⟩
theorem EU{lim:Nat}{all:Bool}{i:Nat}(h:Zc sc N lim all (.nm i) e=true):∃x p,e=.Name x p/\N[i]?=some x/\i<lim/\(if all then locB sc x else decide (sc.names.lookup x=some .local))=true:=by
 refine hide λ_ k=>?_;replace h:=Xg h;obtain⟨x,j,h⟩:=h;obtain⟨p,rfl⟩:=_b j;replace h:=Xe h;obtain⟨h,l⟩:=h;replace h:=Xe h;obtain⟨u,w⟩:=h;exact k ⟨x,p,rfl,XJ u,XJ w,l⟩
theorem EV{lim:Nat}{all:Bool}{j:ITgs}(h:Zc sc N lim all (.tup j) e=true):∃es k p,e=.Tuple es k p/\chkTgs sc N lim all j es=true:=by
 replace h:=Xg h;obtain⟨es,l,h⟩:=h;obtain⟨k,p,rfl⟩:=D6 l;exact⟨es,k,p,rfl,h⟩
theorem _gr{lim:Nat}{all:Bool}{l:List Expr}(h:chkTgs sc N lim all .nil l=true):l=[]:=by
 exact Yq h
theorem Kt{lim:Nat}{all:Bool}{t:ITg}{j:ITgs}{l:List Expr}(h:chkTgs sc N lim all (.cons t j) l=true):∃x xs,l=x::xs/\Zc sc N lim all t x=true/\chkTgs sc N lim all j xs=true:=by
 replace h:=Xg h;obtain⟨⟨x,xs⟩,u,h⟩:=h;exact⟨x,xs,Uc u,Xe h⟩
end
def liT(K:X4)(t:TEm):TT:=λu H Q=>∃j M,RS K H j u/\RH K M H/\t j M (λm w=>∃b,m=.bl b/\∀l,Kp H l->RH K w l->Q b l)
def liO(K:X4)(t:Sm->MH->(Option Int->MH->Prop)->Prop):TO:=λu H Q=>∃j M,RS K H j u/\RH K M H/\t j M (λo w=>∀l,Kp H l->RH K w l->Q o l)
section
variable{K:X4}
theorem EW{t:TEm}(m:MonE t){u:St}{H:Hp}{Q:Bool->Hp->Prop}(h:liT K t u H Q):liE K t u H λx w=>∃c,x=.bl c/\Q c w:=by
 obtain⟨j,M,y,z,h⟩:=h;refine⟨j,M,y,z,m (λx M1 ⟨b,e,g⟩=>?_) h⟩;subst e;intro v d f q l;obtain rfl:=q.inv;exact⟨b,rfl,g d f l⟩
theorem Ku{t:TEm}(m:MonE t){l:Sm}{M:MH}{H u:Hp}{Q:Bool->Hp->Prop}(k:Kp H u)(h:t l M λx M'=>∃b,x=.bl b/\∀j,Kp H j->RH K M' j->Q b j):
  t l M λx M'=>∃b,x=.bl b/\∀j,Kp u j->RH K M' j->Q b j:=
 m (λx M' ⟨b,e,q⟩=>⟨b,e,λj w=>q j (k.trans w)⟩) h
theorem _oi{t:TAm}(g:MonE te)(mt:MonA t)(h:liA K (λl M Q=>te l M λv M1=>t l M1 λvs M2=>Q (v::vs) M2) l H Q):VQ (liE K te) (liA K t) l H Q:=by
 obtain⟨j,M,y,d,h⟩:=h;refine⟨j,M,y,d,g (λx M1 c=>?_) h⟩;intro v e z f u;refine⟨j,M1,y.mono z,u,mt (λL M2 q=>?_) c⟩;intro vs r m p w;exact q (v::vs) r (z.trans m) (.cons (f.mono m) p) w
end
def EX(X:Cx)(H:Hp):Src->It->Prop
 |.tup xs,J=>(∃a j,H a=some (.tup j)/\RMs X.K H xs j/\J=Itt X.K a)\/∃a j,FrL X.K H a j/\RMs X.K H xs j/\J=Itl X.K a
 |.lst a _,J=>J=Itl X.K a
 |.rng lo n,J=>J=Itr lo n
 |.str x,J=>J=Its x
theorem EY{X:Cx}{w H:Hp}{M:MH}{S:Src}{J:It}(s:EX X w S J)(j:RH X.K M H)(ok:S.okT M):∃l,Thw X H l/\Kp H l/\RH X.K (S.thaw M) l:=by
 cases S with
 |tup u=>exact⟨H,.inl rfl,Kp.refl _,j⟩
 |lst a u=>exact⟨H,.inl rfl,Kp.refl _,j⟩
 |rng a u=>exact⟨H,.inl rfl,Kp.refl _,j⟩
 |str x=>exact⟨H,.inl rfl,Kp.refl _,j⟩
theorem Kv{M:MH}{S:Src}(ok:S.ok M):S.okT M:=by
 cases S<;>first|trivial|exact ok
theorem Kw{X:Cx}{f H:Hp}{M:MH}{S:Src}{J:It}(s:EX X f S J)(k:Kp f H)(q:RH X.K M H)(ok:S.ok M):
  (∀i,i<S.len->J.go i H/\∀x u,J.yld i H x u->u=H/\∃m,S.items[i]?=some m/\RM X.K H m x)/\∀i,S.len<=i->J.stop i H:=by
 have w:∀{a:Addr} {g:List MV} {l:List V},SqL X.K H a l->RMs X.K H g l->(∀i,i<g.length->(Itl X.K a).go i H/\∀x u,(Itl X.K a).yld i H x u->u=H/\∃m,g[i]?=some m/\RM X.K H m x)/\∀i,g.length<=i->(Itl X.K a).stop i H:=by
  intro a g l d r;refine⟨λi j=>⟨⟨l,_,d,X7 (by rw[<-r.length];exact j)⟩,λx u y=>?_⟩,λi j=>⟨l,d,by rw[<-r.length];exact j⟩⟩
  exact⟨y.1,r.get' (y.2 l d)⟩
 cases S with
 |tup g=>
  rcases s with⟨a,l,h,r,rfl⟩|⟨a,l,h,r,rfl⟩
  .have h:=SqT.of (K:=X.K) (k _ _ h rfl);have r:=r.mono k;refine⟨λi j=>⟨⟨l,_,h,X7 (by rw[<-r.length];exact j)⟩,λx u y=>?_⟩,λi j=>⟨l,h,by rw[<-r.length];exact j⟩⟩
   exact⟨y.1,r.get' (y.2 l h)⟩
  .refine w (FrL.sq ?_) (r.mono k);rcases h with⟨o,h⟩|h
   .exact .inl ⟨o,k _ _ h rfl⟩
   .exact .inr h
 |lst a g=>
  cases s;obtain⟨l,h,r⟩:=q.lst ok;exact w (SqL.of h) r
 |rng lo n=>
  cases s;refine⟨λi j=>⟨j,λx u y=>⟨y.1,.int (lo+(i:Nat)),?_,?_⟩⟩,λi j=>j⟩
  .show((Xs n).map _)[i]?=_;rw[Xr,X7 (by simpa using(show i<n from j))]
   simp
  .rw[y.2];exact .int _
 |str z=>
  cases s;refine⟨λi j=>⟨j,λx u y=>?_⟩,λi j=>j⟩;obtain⟨e,c,p,rfl⟩:=y;refine⟨e,.str ⟨#[c]⟩,?_,.str _⟩;show(z.cps.toList.map _)[i]?=_;rw[Xr,HJ,p]
  rfl
def liSr(X:Cx)(t:TSm):TI:=λu H R=>∃j M,RS X.K H j u/\RH X.K M H/\t j M (λS w=>∀J l,Kp H l->RH X.K w l->EX X l S J->R J l)
section
variable{X:Cx}{tg:Expr}
theorem PI.weak{t:TI}(h:PI X tg e t)(i:∀j H R,t' j H R->t j H R):PI X tg e t':=λl s j H R I q=>h l s j H R I (i _ _ _ q)
end
mutual
def gOf(K:X4):ITg->TG
 |.nm i=>CL i
 |.tup ts=>gTup K (ITgs.len ts) (gsOf K ts)
def gsOf(K:X4):ITgs->TGs
 |.nil=>gNil
 |.cons t ts=>IC (gOf K t) (gsOf K ts)
def ITgs.len:ITgs->Nat
 |.nil=>0
 |.cons _ ts=>ts.len+1
end
mutual
theorem sTg{X:Cx}{lim:Nat}{all:Bool}(u:X.calm=true)(j:X.N.Nodup)(w:all=true->∀x,X.fn x=true):∀(t:ITg){e:Expr},Zc X.env.scope X.N lim all t e=true->PG X e (gOf X.K t)
 |.nm i,e,h=>by
  obtain⟨x,p,rfl,h1,h2,h3⟩:=EU h;cases all with
  |true=>
   rw[if_pos rfl]at h3;exact IB j h1 (D9 h3) (.inl (w rfl _))
  |false=>
   rw[if_neg XG,decide_eq_true_eq]at h3;exact IB j h1 (.inl h3) (.inr h3)
 |.tup y,e,h=>by
  obtain⟨es,k,p,rfl,h⟩:=EV h;obtain⟨h1,h2,h3⟩:=sTgs u j w y h;exact TF u h1 h2 h3
theorem sTgs{all:Bool}(u:X.calm=true)(j:X.N.Nodup)(w:all=true->∀x,X.fn x=true):∀(t:ITgs){es:List Expr},chkTgs X.env.scope X.N lim all t es=true->PGs X es (gsOf X.K t)/\(ZA es X.env).length=t.len/\(ZA es X.env).findIdx? (·.1)=none
 |.nil,l,h=>by
  cases _gr h;rw[gsOf,ITgs.len];exact⟨TC,rfl,rfl⟩
 |.cons t y,l,h=>by
  obtain⟨e,es,rfl,z,g⟩:=Kt h;obtain⟨h1,h2,h3⟩:=sTgs u j w y g;have h4:=sTg u j w t z;have m:ZA (e::es) X.env=(false,assign e X.env)::ZA es X.env:=by
   cases t with
   |nm i=>obtain⟨x,p,rfl,_⟩:=EU z;rfl
   |tup y=>obtain⟨x,k,p,rfl,_⟩:=EV z;rfl
  rw[gsOf,ITgs.len];refine⟨TD h4 h1 (by rw[m];rfl),by rw[m,Yl,h2],?_⟩
  rw[m,List.findIdx?_cons,if_neg XG,h3]
  rfl
end
theorem RMs.len_tgs{K:X4}:∀{u:ITgs} {xs:List MV} {l:Sm} {P:Sm->Prop},wTgs u xs l P->xs.length=u.len
 |.nil,xs,l,P,h=>by rw[h.1,ITgs.len];rfl
 |.cons t u,xs,l,P,h=>by
  obtain⟨v,r,rfl,h⟩:=h;rw[Yl,ITgs.len];have y:∀(t:ITg){v:MV} {l:Sm},wTg t v l (λj=>wTgs u r j P)->∃j,wTgs u r j P:=by
   have w:(∀(t:ITg){v:MV} {l:Sm} {P:Sm->Prop},wTg t v l P->∃j,P j)/\(∀(t:ITgs){v:List MV} {l:Sm} {P:Sm->Prop},wTgs t v l P->∃j,P j):=by
    refine⟨λt=>?_,λt=>?_⟩
    .exact ITg.rec (motive_1:=λt=>∀{v:MV} {l:Sm} {P:Sm->Prop},wTg t v l P->∃j,P j) (motive_2:=λt=>∀{v:List MV} {l:Sm} {P:Sm->Prop},wTgs t v l P->∃j,P j)
      (λi v l P h=>⟨_,h⟩) (λu z v l P h=>by obtain⟨xs,_,h⟩:=h;exact z h)
      (fun{v l P} h=>⟨_,h.2⟩) (λt u m g v l P h=>by obtain⟨x,r,_,h⟩:=h;obtain⟨j,h⟩:=m h;exact g h) t
    .exact ITgs.rec (motive_1:=λt=>∀{v:MV} {l:Sm} {P:Sm->Prop},wTg t v l P->∃j,P j) (motive_2:=λt=>∀{v:List MV} {l:Sm} {P:Sm->Prop},wTgs t v l P->∃j,P j)
      (λi v l P h=>⟨_,h⟩) (λu z v l P h=>by obtain⟨xs,_,h⟩:=h;exact z h)
      (fun{v l P} h=>⟨_,h.2⟩) (λt u m g v l P h=>by obtain⟨x,r,_,h⟩:=h;obtain⟨j,h⟩:=m h;exact g h) t
   exact λt {v l} h=>w.1 t h
  obtain⟨j,d⟩:=y t h;rw[RMs.len_tgs (K:=K) d]
mutual
theorem Da{K:X4}{H:Hp}{lim:Nat}{g:Scope}{N:List Str}{all:Bool}{Ψ:St->Prop}(y:∀u i v,i<lim->Ψ u->Ψ (u.set i (some v))):∀(t:ITg){e:Expr} {mv:MV} {v:V} {l:Sm} {u:St} {P:Sm->Prop} {Q:St->Hp->Prop},Zc g N lim all t e=true->
  RM K H mv v->RS K H l u->Ψ u->wTg t mv l P->(∀j w,P j->RS K H j w->Ψ w->Q w H)->gOf K t v u H Q
 |.nm i,e,mv,v,l,u,P,Q,m,r,rs,ps,h,hq=>by
  obtain⟨x,p,rfl,_,O,_⟩:=EU m;exact hq _ _ h (rs.set r i) (y _ _ _ O ps)
 |.tup ts,e,mv,v,l,u,P,Q,m,r,rs,ps,h,hq=>by
  obtain⟨es,k,p,rfl,m⟩:=EV m;obtain⟨xs,rfl,h⟩:=h;obtain⟨_,_,rfl,h1,L⟩:=r.inv;exact⟨_,_,rfl,SqT.of h1,by rw[<-L.length];exact RMs.len_tgs (K:=K) h,tgs_ok y ts m L rs ps h hq⟩
theorem tgs_ok{K:X4}{H:Hp}{lim:Nat}{g:Scope}{N:List Str}{all:Bool}{Ψ:St->Prop}(y:∀u i v,i<lim->Ψ u->Ψ (u.set i (some v))):∀(t:ITgs){es:List Expr} {z:List MV} {vs:List V} {l:Sm} {u:St} {P:Sm->Prop} {Q:St->Hp->Prop},chkTgs g N lim all t es=true->
  RMs K H z vs->RS K H l u->Ψ u->wTgs t z l P->(∀j w,P j->RS K H j w->Ψ w->Q w H)->gsOf K t vs u H Q
 |.nil,es,z,vs,l,u,P,Q,m,r,rs,ps,h,hq=>by
  obtain⟨rfl,h⟩:=h;obtain rfl:=r.inv;rw[gsOf];exact⟨rfl,hq _ _ h rs ps⟩
 |.cons t ts,es,z,vs,l,u,P,Q,m,r,rs,ps,h,hq=>by
  obtain⟨e,es,rfl,d,c⟩:=Kt m;obtain⟨x,U,rfl,h⟩:=h;obtain⟨_,_,rfl,R,T⟩:=r.inv;rw[gsOf];exact⟨_,_,rfl,Da y t d R rs ps h λj w h' f q=>tgs_ok y ts c T f q h' hq⟩
end
theorem _rH{K:X4}{own:List Str}{fr:List Nat}(w:RS K H σm σ):RS K H (sCm own fr σm) (sC own fr σ):=by
 refine⟨by simp[sCm,sC],λi m e=>?_⟩
 unfold sCm at e;unfold sC;by_cases hi:i<own.length
 .rw[ZC (by simpa using hi),Xr]at e
  cases q:own[i]? with
  |none=>rw[q]at e;cases e
  |some z=>rw[q]at e;cases e
 .rw[Zh (by simpa using hi),Xb,Xr]at e
  rw[Zh (by simpa using hi),Xb,Xr]
  cases q:fr[i - own.length]? with
  |none=>rw[q]at e;cases e
  |some j=>
   rw[q]at e;have l:σm.getD j none=some m:=Yd e;have y:σm[j]?=some (some m):=by
    rw[Ya]at l;cases u:σm[j]? with
    |none=>rw[u]at l;cases l
    |some o=>rw[u]at l;rw[show o=some m from l]
   obtain⟨v,g,r⟩:=w.2 j m y;refine⟨v,?_,r⟩;show some (σ.getD j none)=_;rw[Ya,g]
   rfl
theorem _lz{own:List Str}{fr:List Nat}(l:i<own.length)(k:Keep (sC own fr σ) σ'):Keep (sC own fr σ) (σ'.set i (some v)):=by
 refine⟨by rw[Ur];exact k.1,λj w h=>?_⟩
 by_cases hij:i=j
 .subst hij;exfalso;unfold sC at h;rw[ZC (by simpa using l),Xr]at h
  cases q:own[i]? with
  |none=>rw[q]at h;cases h
  |some z=>rw[q]at h;cases h
 .rw[Vp,if_neg hij];exact k.2 j w h
theorem _la{y:Expr}(h:WQ y=true):J5 y:=by
 intro o i;cases y<;>first|rfl|cases h
theorem EZ{it:Expr}(h:WR it=true)(env:Env):∀x,BM it env x=pure x:=by
 intro x;cases it<;>first|rfl|cases h
theorem Cok.comp(c:Cok X G Φ){own:List Str}{fr:List Nat}(j:scope.kind=.function)(l:(nC own fr X.N).Nodup):Cok (cxC X scope own fr C fp s₃ H₃) G Φ:=
 ⟨c.room,c.calm,rfl,(by show(if scope.kind.isAnnotationScope then Ir else scope.kind)=.function;rw[j];rfl),l,c.bls,c.gls,c.fnn,c.mon,c.fns,c.mts,c.mks,c.cls⟩
def ttOf(K:X4)(Φ:List (Str×SpM)):IO->TT
 |.none=>tAll
 |.some e=>liT K (wE Φ e)
theorem Kx{X:Cx}{Φ:List (Str×SpM)}(r:∀(j:Nat)f sp,Φ[j]?=some (f,sp)->MonW sp){own:List Str} {fr:List Nat} {p:ISr} {tg:ITg} {u:IO} {elt:IE} {sc:Scope} {N:List Str} {t:Expr}
  (h5:Zc sc N own.length false tg t=true){σ:St} {H:Hp} {Q:VK} (hw:liE X.K (wE Φ (.comp own fr p tg u elt)) σ H Q):ER own fr (liSr X (wSr Φ p)) (gOf X.K tg) (ttOf X.K Φ u) (liE X.K (wE Φ elt)) σ H (λv L=>∃T,Thw X L T/\Q v T):=by
 obtain⟨σm,M,rs,rh,hw⟩:=hw;refine⟨σm,M,rs,rh,mon_sr r p (λS M1 ⟨hz,q⟩=>?_) hw⟩;intro J H1 k1 U W D hD;obtain⟨s,j0,j1,j2,j3⟩:=q D (U.free hD);refine⟨λi m ys T=>m=S.len - i/\i<=S.len/\Kp H1 T/\∃l M2,RH X.K M2 T/\s i l M2,⟨S.len,rfl,YA _,Kp.new hD _,[],_,U.put (Kp.new hD (.lst [])) (o:=.lst []) RMs.nil,j0⟩,?_⟩;rintro i m ys T ⟨rfl,hi,Y,l,M2,z,hj⟩;obtain⟨d1,d2,d3⟩:=j1 i l M2 hj;obtain⟨Z,O⟩:=Kw W Y z d3;by_cases hlt:i<S.len
 .obtain⟨go,yld⟩:=Z i hlt;refine .inr ⟨go,λys' L=>Kp H1 L/\∃l P,RH X.K P L/\s (i+1) l P,λys' L ⟨a,A,P,b,c⟩=>⟨S.len - (i+1),by lia,rfl,hlt,a,A,P,b,c⟩,λx H3 y=>?_⟩
  obtain⟨e3,m,hm,rm⟩:=yld x H3 y;subst e3;have ht:=j2 i m l M2 hm hj;refine Da (Ψ:=Keep (sC own fr σ)) (lim:=own.length) (λB i v hi k=>_lz hi k) tg h5 rm (_rH (rs.mono (k1.trans Y))) ⟨rfl,λ_ _ h=>h⟩ ht λw B n C keep=>⟨keep,?_⟩;have d:∀{E:MH} {F:Hp},Kp H3 F->RH X.K E F->(wE Φ elt w E λy M5=>M5 D=some (.lst l)/\s (i+1) (l++[y]) (updM M5 D (.lst (l++[y]))))->
    liE X.K (wE Φ elt) B F λy H6=>∃R,H6 D=some (.lst R)/\R.length<sizeLine/\Kp H1 (upd H6 D (.lst (R++[y])))/\∃l P,RH X.K P (upd H6 D (.lst (R++[y])))/\s (i+1) l P:=fun{E F} G g q=>by
   refine⟨w,E,C.mono G,g,Xc r elt (λy M5 ⟨hd,hj'⟩=>?_) q⟩;intro v H6 k6 r6 I;obtain⟨R,e,rz⟩:=I.lst hd;have ku:=Kp.upd e rfl (.lst (R++[v]));exact⟨R,e,by rw[<-rz.length];lia,Y.trans (G.trans (k6.trans ku)),_,_,I.put ku (o:=.lst (l++[y])) ((rz.append (.cons r6 .nil)).mono ku),hj'⟩
  cases u with
  |none=>
   rw[wI]at n;rw[if_pos rfl]at n;rw[ttOf];refine _rj ?_;dsimp only;rw[if_pos rfl];exact d (Kp.refl _) z n
  |some e=>
   refine⟨w,M2,C,z,Xc r e (λv E ⟨b,eb,q⟩=>⟨b,eb,λF G g=>YT (λq=>d G g q) (λq=>⟨Y.trans G,_,_,g,q⟩) q⟩) n⟩
 .refine .inl ⟨O i (by lia),?_⟩
  have e:i=S.len:=by lia
  subst e;obtain⟨L,th,k3,rh3⟩:=EY W z (Kv d3);exact⟨L,th,j3 l M2 hj _ _ (k1.trans (Y.trans k3)) (.ref D) rh3⟩
theorem Ky{K:X4}{Φ:List (Str×SpM)}(l:∀(j:Nat)f sp,Φ[j]?=some (f,sp)->MonW sp){op g:CmpOp} {a b d:IE} {U:St} {H:Hp} {Q:VK} (hw:liE K (wE Φ (.chn op g a b d)) U H Q):
  Es (li2 K (wCmp op)) (li2 K (wCmp g)) (liE K (wE Φ a)) (liE K (wE Φ b)) (liE K (wE Φ d)) U H Q:=by
 obtain⟨c,M,O,Z,hw⟩:=hw;rw[Kf]at hw;refine⟨c,M,O,Z,Xc l a (λx M1 A=>?_) hw⟩;intro v X p B P;refine⟨c,M1,O.mono p,P,Xc l b (λy M2 C=>?_) A⟩;intro u o L W R;refine⟨x,y,M2,B.mono L,W,R,VY op (λz D ⟨k,e,E⟩=>?_) C⟩;subst e;intro z s N F r;obtain rfl:=F.inv;refine⟨k,rfl,YT (λq=>?_) (λq=>?_) E⟩
 .refine⟨c,D,O.mono (p.trans (L.trans N)),r,Xc l d (λw G I=>?_) q⟩;intro i n Y J T;exact⟨y,w,G,W.mono (N.trans Y),J,T,VY g (λm h S=>S.on (p.trans (L.trans (N.trans Y)))) I⟩
 .exact q _ _ (p.trans (L.trans N)) (.bl _) r
theorem Kz{o:Expr}{m:Str}{l pos:Pos}{j:List Expr}{env:Env}(u:Ul o m env (eval o env)=eval o env)(w:methodCallForm (j.length+([]:List Z7).length) (Y2 pos (XC j env)) (ZX pos (ZY [] env))=true)(y:(l.endLine==pos.line)=true):
  eval (.Call (.Attribute o m l) j [] pos) env=(do
   let ov<- eval o env
   standAt l.atName
   let(f,first)<- Z6 [ov] (getMethod ov m (do return(<- importBound o env).getD true))
   callWith pos f first (Y2 pos (XC j env)) (ZX pos (ZY [] env))):=by
 rw[arm_eval_Call,u];unfold methodCall calleeOf methodCallPos;rw[w,y];simp only[if_true,VD,Eb,pure_bind]
def trOf(K:X4)(Φ:List (Str×SpM)):IPs->List (TE×TE)
 |.nil=>[]
 |.cons k v r=>(liE K (wE Φ k),liE K (wE Φ v))::trOf K Φ r
theorem KA{G:GI}{j:Scope}{N:List Str}:∀{ps:IPs} {ks:List (Option Expr)} {vs:List Expr},chkPs G ps j N ks vs=true->ks.all (·.isSome)=true/\ks.length=vs.length
 |.nil,ks,vs,h=>by
  obtain⟨rfl,rfl⟩:=Kr h;exact⟨rfl,rfl⟩
 |.cons k v r,ks,vs,h=>by
  obtain⟨x,l,y,u,rfl,rfl,z,m,w⟩:=Ks h;obtain⟨a,b⟩:=KA w;exact⟨by rw[Us,a];rfl,by rw[Yl,Yl,b]⟩
theorem KB{K:X4}{Φ:List (Str×SpM)}(z:∀(j:Nat)f sp,Φ[j]?=some (f,sp)->MonW sp):∀(ps:IPs){w:Sm} {g:St} {M:MH} {H:Hp} {Q:List (V×V)->Hp->Prop},RS K H w g->RH K M H->
  (wPs Φ ps w M λl M2=>∀(d:List (Key×V))m,Kp H m->RKs K m l d->RH K M2 m->Q (d.map λL=>(kV L.1,L.2)) m)->CQ (trOf K Φ ps) g H Q
 |.nil,w,g,M,H,Q,rs,rh,h=>by
  exact h [] H (Kp.refl _) .nil rh
 |.cons k v r,w,g,M,H,Q,rs,rh,h=>by
  refine⟨w,M,rs,rh,Xc z k (λx M1 ⟨P,R,T⟩=>?_) h⟩;intro u E c U q;have W:=VW R U;subst W;refine⟨w,M1,rs.mono c,q,Xc z v (λy M2 Y=>?_) T⟩;intro Z m N A p;refine KB z r (rs.mono (c.trans N)) p (mon_ps z r (λl F B=>?_) Y);intro d C O D e;exact B ((P,Z)::d) C (c.trans (N.trans O)) (.cons (A.mono O) D) e
noncomputable def aob:IE->Bool
 |.and ..=>true
 |.or ..=>true
 |_=>false
structure Snd (X:Cx)(Φ:List (Str×SpM))(ie:IE)(e:Expr):Prop where
 pe:PE X e (liE X.K (wE Φ ie))
 pt:tok ie=true->PT X e (liT X.K (wE Φ ie))
 pw:tok ie=true->aob ie=true->PW X e (liT X.K (wE Φ ie))
theorem Snd.plain(c:Cok X G Φ)(l:PE X e (liE X.K (wE Φ ie)))(u:∀j,isTrue e X.env j=(do let v<- j;standAt e.pos;Z6 [v] (truthy v)))(w:aob ie=false):Snd X Φ ie e:=
 ⟨l,λ_=>(Tj l u).weak λy H Q h=>EW (t:=wE Φ ie) (Xc c.mon ie) h,λ_ h=>by rw[w]at h;cases h⟩
theorem _rf(f:BI):(∃n,f.val=.builtin n)\/∃n,f.val=.type n:=by cases f<;>first|exact .inl ⟨_,rfl⟩|exact .inr ⟨_,rfl⟩
theorem KC{G:GI}{b:IE}{j:Scope}{N:List Str}{op:BoolOp}{vs:List Expr}{p:Pos}(h:chkE G b j N (.BoolOp op vs p)=true):aob b=true:=by revert h;cases b<;>first|exact λ_=>rfl|exact nob
mutual
theorem sE{G:GI}{Φ:List (Str×SpM)}:∀(ie:IE){X:Cx} {e:Expr},Cok X G Φ->chkE G ie X.env.scope X.N e=true->Snd X Φ ie e
 |.var i,X,e,c,h=>by
  obtain⟨x,p,rfl,h1,h2,h3,h4⟩:=_oq h;refine .plain c ?_ (λ_=>rfl) rfl;refine(Iz h1 (_pn h2) h3 h4).weak λU H Q hw=>?_;obtain⟨L,M,P,T,hw⟩:=hw;rw[Ke]at hw;obtain⟨v,e,q⟩:=hw;obtain⟨u,hu,r⟩:=P.2 i v e;exact⟨u,hu,q _ _ (Kp.refl _) r T⟩
 |.int i,X,e,c,h=>by
  obtain⟨k,p,rfl⟩:=_oy h;refine .plain c ?_ (λ_=>rfl) rfl;refine pe_int.weak λU H Q hw=>?_;obtain⟨L,M,P,T,hw⟩:=hw;exact hw _ _ (Kp.refl _) (.int i) T
 |.str i,X,e,c,h=>by
  obtain⟨k,p,rfl⟩:=_os h;refine .plain c ?_ (λ_=>rfl) rfl;refine pe_str.weak λU H Q hw=>?_;obtain⟨L,M,P,T,hw⟩:=hw;exact hw _ _ (Kp.refl _) (.str i) T
 |.bl i,X,e,c,h=>by
  obtain⟨k,p,rfl⟩:=_r0 h;refine .plain c ?_ (λ_=>rfl) rfl;refine pe_bl.weak λU H Q hw=>?_;obtain⟨L,M,P,T,hw⟩:=hw;exact hw _ _ (Kp.refl _) (.bl i) T
 |.non,X,e,c,h=>by
  obtain⟨k,p,rfl⟩:=_ov h;refine .plain c ?_ (λ_=>rfl) rfl;refine pe_non.weak λU H Q hw=>?_;obtain⟨L,M,P,T,hw⟩:=hw;exact hw _ _ (Kp.refl _) .non T
 |.glb x i,X,e,c,h=>by
  obtain⟨p,rfl,h1,h2⟩:=_oA h;obtain⟨g1,g2,g3⟩:=UE h2;obtain⟨tk,hm⟩:=c.gls x i h1;refine .plain c ?_ (λ_=>rfl) rfl;refine(Th (v:=.int i) g1 hm ⟨tk,rfl⟩ g2).weak λU H Q hw=>?_;obtain⟨L,M,P,T,hw⟩:=hw;exact hw _ _ (Kp.refl _) (.int i) T
 |.ty t,X,e,c,h=>by
  obtain⟨p,rfl,h0,h1,h2⟩:=_qV h;obtain⟨g1,g2,g3⟩:=UE h2;refine .plain c ?_ (λ_=>rfl) rfl;refine(Ti (v:=.ty t.name) g1 (c.bls _ h1) (_p4 h0) rfl g3 g2).weak λU H Q hw=>?_;obtain⟨L,M,P,T,hw⟩:=hw;exact hw _ _ (Kp.refl _) (.ty t) T
 |.bin op a b,X,e,c,h=>by
  obtain⟨l,r,p,rfl,h1,h2⟩:=_oF h;refine .plain c ?_ (λ_=>rfl) rfl;refine(TX (_qw op) (sE a c h1).pe (sE b c h2).pe).weak λU H Q hw=>?_;have:wE Φ (.bin op a b)=λU M Q=>wE Φ a U M λx M1=>wE Φ b U M1 λy M2=>wBin op x y M2 Q:=rfl;rw[this]at hw;exact EG (ta:=wE Φ a) (tb:=wE Φ b) (w:=wBin op) (Xc c.mon a) (Xc c.mon b) (JO op) hw
 |.neg a,X,e,c,h=>by
  obtain⟨l,p,rfl,h1⟩:=_ow h;refine .plain c ?_ (λ_=>rfl) rfl;refine(TY _po (sE a c h1).pe).weak λU H Q hw=>?_;obtain⟨L,M,P,T,hw⟩:=hw;refine⟨L,M,P,T,Xc c.mon a (λx M1 ⟨i,e,q⟩=>?_) hw⟩;subst e;intro v Z O W N;obtain rfl:=W.inv;exact⟨i,rfl,q _ _ O (.int _) N⟩
 |.not a,X,e,c,h=>by
  obtain⟨l,p,rfl,h1⟩:=_ou h;have ih:=sE a c h1;refine⟨(Tq ih.pe).weak λU H Q hw=>?_,λD=>(Tk (ih.pt D)).weak λU H Q hw=>?_,λ_ z=>by cases z⟩
  .obtain⟨L,M,P,T,hw⟩:=hw;rw[EK]at hw;refine⟨L,M,P,T,Xc c.mon a (λx M1 ⟨i,e,q⟩=>?_) hw⟩;subst e;intro v Z O W N;obtain rfl:=W.inv;exact⟨i,rfl,q _ _ O (.bl _) N⟩
  .obtain⟨L,M,P,T,hw⟩:=hw;rw[EK]at hw;refine⟨L,M,P,T,Xc c.mon a (λx M1 ⟨i,e,b,e2,q⟩=>⟨i,e,λH' k rh'=>?_⟩) hw⟩;cases e2;exact q H' k rh'
 |.cmp op a b,X,e,c,h=>by
  obtain⟨l,r,p,rfl,h1,h2,h3⟩:=_oD h;have rd:∀U H Q,liE X.K (wE Φ (.cmp op a b)) U H Q->tOp (li2 X.K (wCmp op)) (liE X.K (wE Φ a)) (liE X.K (wE Φ b)) U H Q:=λU H Q hw=>by
   have:wE Φ (.cmp op a b)=λU M Q=>wE Φ a U M λx M1=>wE Φ b U M1 λy M2=>wCmp op x y M2 Q:=rfl;rw[this]at hw;exact EG (ta:=wE Φ a) (tb:=wE Φ b) (w:=wCmp op) (Xc c.mon a) (Xc c.mon b) (VY op) hw
  refine⟨(_nN (VZ c.room op) (sE a c h1).pe (sE b c h2).pe h3).weak rd,λ_=>(_ny (VZ c.room op) (sE a c h1).pe (sE b c h2).pe h3).weak λU H Q hw=>?_,λ_ z=>by cases z⟩
  exact rd U H _ (EW (t:=wE Φ (.cmp op a b)) (Xc c.mon _) hw)
 |.chn op op' a b d,X,e,c,h=>by
  obtain⟨l,m,r,p,rfl,h1,h2,h3,h4⟩:=_oE h;refine⟨(_lh (VZ c.room op) (VZ c.room op') (sE a c h1).pe (sE b c h2).pe (sE d c h3).pe h4).weak λU H Q hw=>Ky c.mon hw,
   λ_=>(_l6 (VZ c.room op) (VZ c.room op') (sE a c h1).pe (sE b c h2).pe (sE d c h3).pe h4).weak λU H Q hw=>?_,λ_ z=>by cases z⟩
  exact Ky c.mon (EW (t:=wE Φ (.chn op op' a b d)) (Xc c.mon _) hw)
 |.and a b,X,e,c,h=>by
  obtain⟨l,r,rest,p,rfl,h1,h2⟩:=_oG h;have ih:=sE a c h1;have hb:PE X (.BoolOp .And (r::rest) p) (liE X.K (wE Φ b)):=by
   rcases h2 with⟨rfl,h2⟩|h2
   .exact IA (sE b c h2).pe
   .exact(sE b c h2).pe
  have hw':tok (.and a b)=true->PW X (.BoolOp .And (l::r::rest) p) (liT X.K (wE Φ (.and a b))):=λD=>by
   have D:(tok a&&tok b)=true:=D;rw[XY]at D;have hb2:PW X (.BoolOp .And (r::rest) p) (liT X.K (wE Φ b)):=by
    rcases h2 with⟨rfl,h2⟩|h2
    .exact pw_and1 ((sE b c h2).pt D.2)
    .refine(sE b c h2).pw D.2 ?_;exact KC h2
   refine(pw_and (ih.pt D.1) hb2).weak λU H Q hw=>?_;obtain⟨L,M,P,T,hw⟩:=hw;rw[EL]at hw;refine⟨L,M,P,T,Xc c.mon a (λx M1 ⟨k,e,q⟩=>⟨k,e,λZ O N=>?_⟩) hw⟩;refine YT (λq=>⟨L,M1,P.mono O,N,Ku (t:=wE Φ b) (Xc c.mon b) O q⟩) (λq=>let⟨b,e,q⟩:=q;MV.noConfusion e λeb=>eb▸q Z O N) q
  refine⟨(To ih.pe hb).weak λU H Q hw=>?_,λD=>(hw' D).pt,λD _=>hw' D⟩;obtain⟨L,M,P,T,hw⟩:=hw;rw[EL]at hw;refine⟨L,M,P,T,Xc c.mon a (λx M1 ⟨k,e,q⟩=>?_) hw⟩;subst e;intro v Z O W N;obtain rfl:=W.inv;refine⟨k,rfl,YT (λq=>⟨L,M1,P.mono O,N,Xc c.mon b (λm M' B=>B.on O) q⟩) (λq=>q _ _ O (.bl _) N) q⟩
 |.or a b,X,e,c,h=>by
  obtain⟨l,r,rest,p,rfl,h1,h2⟩:=_qX h;have ih:=sE a c h1;have hb:PE X (.BoolOp .Or (r::rest) p) (liE X.K (wE Φ b)):=by
   rcases h2 with⟨rfl,h2⟩|h2
   .exact IA (sE b c h2).pe
   .exact(sE b c h2).pe
  have hw':tok (.or a b)=true->PW X (.BoolOp .Or (l::r::rest) p) (liT X.K (wE Φ (.or a b))):=λD=>by
   have D:(tok a&&tok b)=true:=D;rw[XY]at D;have hb2:PW X (.BoolOp .Or (r::rest) p) (liT X.K (wE Φ b)):=by
    rcases h2 with⟨rfl,h2⟩|h2
    .exact pw_or1 ((sE b c h2).pt D.2)
    .refine(sE b c h2).pw D.2 ?_;exact KC h2
   refine(pw_or (ih.pt D.1) hb2).weak λU H Q hw=>?_;obtain⟨L,M,P,T,hw⟩:=hw;rw[x_or]at hw;refine⟨L,M,P,T,Xc c.mon a (λx M1 ⟨k,e,q⟩=>⟨k,e,λZ O N=>?_⟩) hw⟩;refine YT (λq=>let⟨b,e,q⟩:=q;MV.noConfusion e λeb=>eb▸q Z O N) (λq=>⟨L,M1,P.mono O,N,Ku (t:=wE Φ b) (Xc c.mon b) O q⟩) q
  refine⟨(Tp ih.pe hb).weak λU H Q hw=>?_,λD=>(hw' D).pt,λD _=>hw' D⟩;obtain⟨L,M,P,T,hw⟩:=hw;rw[x_or]at hw;refine⟨L,M,P,T,Xc c.mon a (λx M1 ⟨k,e,q⟩=>?_) hw⟩;subst e;intro v Z O W N;obtain rfl:=W.inv;refine⟨k,rfl,YT (λq=>q _ _ O (.bl _) N) (λq=>⟨L,M1,P.mono O,N,Xc c.mon b (λm M' B=>B.on O) q⟩) q⟩
 |.ife d a b,X,e,c,h=>by
  obtain⟨t,x,y,p,rfl,h0,h1,h2,h3⟩:=_oz h;refine⟨(Tr ((sE d c h1).pt h0) (sE a c h2).pe (sE b c h3).pe).weak λU H Q hw=>?_,λz=>(by cases z),λz _=>(by cases z)⟩
  obtain⟨L,M,P,T,hw⟩:=hw;rw[Kg]at hw;refine⟨L,M,P,T,Xc c.mon d (λx M1 ⟨k,e,q⟩=>⟨k,e,λZ O N=>?_⟩) hw⟩;exact YT (λq=>⟨L,M1,P.mono O,N,Xc c.mon a (λm M' B=>B.on O) q⟩) (λq=>⟨L,M1,P.mono O,N,Xc c.mon b (λm M' B=>B.on O) q⟩) q
 |.tup es,X,e,c,h=>by
  obtain⟨xs,k,p,rfl,h1⟩:=_or h;refine .plain c ?_ (λ_=>rfl) rfl;refine(_qg (sA es c h1)).weak λU H Q hw=>?_;obtain⟨L,M,P,T,hw⟩:=hw;refine⟨L,M,P,T,mon_es c.mon es (λms M1 ⟨hz,q⟩=>?_) hw⟩;intro vs Z O W N;refine⟨by rw[<-W.length];exact hz,λp hp=>?_⟩
  have Y:=Kp.new hp (.tup vs);exact q _ _ (O.trans Y) (.tup _I (W.mono Y)) (N.kept hp _)
 |.lst es,X,e,c,h=>by
  obtain⟨xs,p,rfl,h1⟩:=_ox h;refine .plain c ?_ (λ_=>rfl) rfl;refine(_qi (sA es c h1)).weak λU H Q hw=>?_;obtain⟨L,M,P,T,hw⟩:=hw;refine⟨L,M,P,T,mon_es c.mon es (λms M1 ⟨hz,q⟩=>?_) hw⟩;intro vs Z O W N;refine⟨by rw[<-W.length];exact hz,λp hp=>?_⟩
  have Y:=Kp.new hp (.lst vs);exact q p (N.free hp) _ _ (O.trans Y) (.ref p) (N.put Y (W.mono Y))
 |.dic,X,e,c,h=>by
  obtain⟨p,rfl⟩:=_oC h;refine .plain c ?_ (λ_=>rfl) rfl;refine pe_dnewK.weak λU H Q hw=>?_;obtain⟨L,M,P,T,hw⟩:=hw;intro p hp;have Y:=Kp.new hp (.dK []);exact hw p (T.free hp) _ _ Y (.ref p) (T.put Y ⟨.nil,C4⟩)
 |.ix a b,X,e,c,h=>by
  obtain⟨l,r,p,rfl,h1,h2,h3⟩:=_qZ h;refine .plain c ?_ (λ_=>rfl) rfl;refine(_sy (_qS (by have:=c.room;lia)) (sE a c h1).pe (sE b c h2).pe (_la h3)).weak λU H Q hw=>?_
  have:wE Φ (.ix a b)=λU M Q=>wE Φ a U M λx M1=>wE Φ b U M1 λy M2=>wIx x y M2 Q:=rfl;rw[this]at hw;exact EG (ta:=wE Φ a) (tb:=wE Φ b) (w:=wIx) (Xc c.mon a) (Xc c.mon b) K2 hw
 |.sl a lo hi,X,e,c,h=>by
  obtain⟨x,l,u,p,p2,rfl,h1,h2,h3⟩:=_qW h;refine .plain c ?_ (λ_=>rfl) rfl;refine(_ld _pw (sE a c h1).pe (sO lo c h2) (sO hi c h3)).weak λU H Q hw=>?_;obtain⟨L,M,P,T,hw⟩:=hw;refine⟨L,M,P,T,Xc c.mon a (λx M1 J=>?_) hw⟩;intro v Z O W N;refine⟨L,M1,P.mono O,N,mon_o c.mon lo (λl M2 S=>?_) J⟩;intro H2 Y A;refine⟨L,M2,P.mono (O.trans Y),A,mon_o c.mon hi (λu M3 q3=>?_) S⟩;intro H3 k3 rh3;exact⟨x,M3,W.mono (Y.trans k3),rh3,K4 (λm M' B=>B.on (O.trans (Y.trans k3))) q3⟩
 |.call j a es,X,e,c,h=>by
  obtain⟨f,p,x,xs,p2,rfl,h1,h2,h3,h4⟩:=_lF h;obtain⟨g1,g2,g3⟩:=UE h2;obtain⟨sp,hj⟩:=c.fnn j f h1;obtain⟨k,fa,fd,ps,hr,F,hm,hk,hb⟩:=c.fns j f sp h1 hj;have ha:PA X (x::xs) (VQ (liE X.K (wE Φ a)) (liA X.K (wEs Φ es))):=WF (sE a c h3).pe (sA es c h4) (YE h3);refine .plain c ?_ (λ_=>rfl) rfl;refine(_nO (E:=E0) F hr g1 hm hk hb .nil CS ha g2 (YE h3) (UF (Ud (pos:=p2) h4)).2).weak λU H Q hw=>?_;obtain⟨L,M,P,T,hw⟩:=hw;rw[Kh]at hw;refine⟨L,M,P,T,Xc c.mon a (λv M1 J=>?_) hw⟩;intro u Z O W N;refine⟨L,M1,P.mono O,N,mon_es c.mon es (λvs M2 ⟨f',sp',e,S⟩=>?_) J⟩;rw[hj]at e;cases e;intro us H2 Y r2 A;refine⟨v::vs,M2,?_,A,c.mon j f sp hj (λm M' B=>B.on (O.trans Y)) S⟩;rw[Vu];exact .cons (W.mono Y) r2
 |.bi f a es,X,e,c,h=>by
  obtain⟨p,x,xs,p2,rfl,h1,h2,h3,h4⟩:=_r1 h;obtain⟨g1,g2,g3⟩:=UE h2;have ha:PA X (x::xs) (VQ (liE X.K (wE Φ a)) (liA X.K (wEs Φ es))):=WF (sE a c h3).pe (sA es c h4) (YE h3);have hv:=_p5 f;have hcall:=_p2 (X:=X) c.calm f;have hp:PE X (.Call (.Name (f.name:Str) p) (x::xs) [] p2) (tCB (liW X.K (wBi f)) (VQ (liE X.K (wE Φ a)) (liA X.K (wEs Φ es)))):=by
   rcases _rf f with⟨n,hf⟩|⟨n,hf⟩<;>rw[hf]at hv hcall
   .exact _li hcall g1 (c.bls _ h1) hv ha g3 g2 (YE h3) (UF (Ud (pos:=p2) h4)).2
   .exact _j1 hcall g1 (c.bls _ h1) hv ha g3 g2 (YE h3) (UF (Ud (pos:=p2) h4)).2
  refine .plain c ?_ (λ_=>rfl) rfl;refine hp.weak λU H Q hw=>?_;obtain⟨L,M,P,T,hw⟩:=hw;refine⟨L,M,P,T,Xc c.mon a (λv M1 J=>?_) hw⟩;intro u Z O W N;refine⟨L,M1,P.mono O,N,mon_es c.mon es (λvs M2 S=>?_) J⟩;intro us H2 Y r2 A;exact⟨v::vs,M2,.cons (W.mono Y) r2,A,K7 f (λm M' B=>B.on (O.trans Y)) S⟩
 |.b2 f a,X,e,c,h=>by
  obtain⟨p,p',x,p2,p2',rfl,h1,h2,h3,h4,h5⟩:=_r2 h;obtain⟨g1,g2,g3⟩:=UE h3;obtain⟨O,Y,k3⟩:=UE h4;have hv:YH (f.out:Str)=some f.outV:=by cases f<;>decide+kernel
  have hv':YH (f.inn:Str)=some (.type f.inn):=by cases f<;>decide+kernel
  have hp:PE X (.Call (.Name (f.out:Str) p) [.Call (.Name (f.inn:Str) p') [x] [] p2'] [] p2) (λU H Q=>liE X.K (wE Φ a) U H λv Z=>li1 X.K (wB2 f) v Z Q):=by
   have hc:=_p3 (X:=X) c.calm f;cases f with
   |lrng=>exact _j2 (p:=p) (p':=p') (pos:=p2) (pos':=p2') hc g1 (c.bls _ h1) hv O (c.bls _ h2) hv' (sE a c h5).pe g3 g2 k3 Y (YE h5)
   |ssrt=>exact EE (p:=p) (p':=p') (pos:=p2) (pos':=p2') hc g1 (c.bls _ h1) hv O (c.bls _ h2) hv' (sE a c h5).pe g3 g2 k3 Y (YE h5)
   |lset=>exact EE (p:=p) (p':=p') (pos:=p2) (pos':=p2') hc g1 (c.bls _ h1) hv O (c.bls _ h2) hv' (sE a c h5).pe g3 g2 k3 Y (YE h5)
   |tset=>exact EE (p:=p) (p':=p') (pos:=p2) (pos':=p2') hc g1 (c.bls _ h1) hv O (c.bls _ h2) hv' (sE a c h5).pe g3 g2 k3 Y (YE h5)
  refine .plain c ?_ (λ_=>rfl) rfl;refine hp.weak λU H Q hw=>?_;obtain⟨L,M,P,T,hw⟩:=hw;refine⟨L,M,P,T,Xc c.mon a (λv M1 J=>?_) hw⟩;intro u Z O W N;exact⟨v,M1,W,N,K9 f (λm M' B=>B.on O) J⟩
 |.st3 a,X,e,c,h=>absurd h XG
 |.mxd a,X,e,c,h=>absurd h XG
 |.mt m o es,X,e,c,h=>by
  obtain⟨ob,ap,args,cp,rfl,h1,h2,h3,h4⟩:=_qY h;have slot:PySem.Slot m.ty (m.name:Str) m.id/\typeOf (.builtin m.id)=pure (.type "method_descriptor"):=by
   cases m
   .exact⟨PySem.F.slot_list_append,PySem.F.type_list_append⟩
   .exact⟨PySem.F.slot_list_extend,PySem.F.type_list_extend⟩
  have plain:PlainAttrs m.ty:=by
   cases m<;>first|exact PySem.F.plainAttrs_list|exact PySem.F.plainAttrs_dict|exact PySem.F.plainAttrs_str
  have hu1:X.A.units+1<cLine:=by have:=c.room;lia
  have tyL:∀{Z:Hp} {M1:MH} {mx:MV} {v:V},RH X.K M1 Z->RM X.K Z mx v->mtOk m mx M1->tyV X.K m.ty v Z:=by
   intro Z M1 mx v T r hm;cases m
   all_goals
    obtain⟨a,xs,rfl,hm⟩:=hm;obtain rfl:=r.inv;obtain⟨vs,e,_⟩:=T.lst hm;exact .inl ⟨rfl,vs,SqL.of e⟩
  refine .plain c ?_ (λ_=>rfl) rfl;cases args with
  |nil=>
   refine(_qk plain slot.1 slot.2 (Kb hu1 m) (sE o c h2).pe (WY h2) h1).weak λU H Q hw=>?_;obtain⟨L,M,P,T,hw⟩:=hw;refine⟨L,M,P,T,Xc c.mon o (λv M1 ⟨q0,J⟩=>?_) hw⟩;intro u Z O W N;cases es with
   |cons _ _=>exact absurd h3 XG
   |nil=>
    exact⟨tyL N W q0,v,[],M1,W,.nil,N,EJ (λm M' B=>B.on O) J⟩
  |cons x xs=>
   cases es with
   |nil=>cases ES h3
   |cons a es=>
    have h3':=h3;obtain⟨x',xs',e',h3⟩:=ET h3;cases e';have ha:=sA (.cons a es) c h3';have hall:=UF (pos:=cp) (Ud (env:=X.env) (pos:=cp) h3');refine(_sz plain slot.1 slot.2 (Kb hu1 m) (sE o c h2).pe ha (WY h2) ?_ h1 (YE h3.1) (UF (Ud (pos:=cp) h3.2)).2).weak λU H Q hw=>?_
    .rw[hall.1];simp only[Cn,XY,decide_eq_true_eq];refine⟨rfl,?_⟩;simp at h4 ⊢;lia
    obtain⟨L,M,P,T,hw⟩:=hw;refine⟨L,M,P,T,Xc c.mon o (λv M1 ⟨q0,J⟩=>?_) hw⟩;intro u Z O W N;refine⟨tyL N W q0,L,M1,P.mono O,N,mon_es c.mon (.cons a es) (λvs M2 S=>?_) J⟩;intro us H2 Y r2 A;exact⟨v,vs,M2,W.mono Y,r2,A,EJ (λm M' B=>B.on (O.trans Y)) S⟩
 |.comp own fr src tg test elt,X,e,c,h=>by
  obtain⟨x,t,it,ifs,scope,p,rfl,h1,h2,h3,h4,h5,h6,h7⟩:=Kq h;refine .plain c ?_ (λ_=>rfl) rfl;refine(_lg own fr (g:=gOf X.K tg) (te:=liE X.K (wE Φ elt)) (λe s h=>by rw[c.nox]at h;exact h) c.calm h1 (sSr src (tg:=t) c h4) (λC fp s₃ H₃=>sTg (X:=cxC X scope own fr C fp s₃ H₃) (lim:=own.length) (all:=false) c.calm h3 (λz=>by cases z) tg h5) (tt:=ttOf X.K Φ test) (λC fp s₃ H₃=>sI (X:=cxC X scope own fr C fp s₃ H₃) test (c.comp (VT h1).kind h3) h6)
   (λC fp s₃ H₃=>(sE (X:=cxC X scope own fr C fp s₃ H₃) elt (c.comp (VT h1).kind h3) h7).pe) (EZ h2 _)).thaw.weak λU H Q hw=>?_
  exact Kx c.mon h5 hw
 |.fld cn o f,X,e,c,h=>by
  obtain⟨ob,p,rfl,h1,h2⟩:=_oB h;obtain⟨C,hC,cl,na⟩:=c.cls cn f h1;refine .plain c ?_ (λ_=>rfl) rfl;refine(_qj (sE o c h2).pe (WY h2)).weak λU H Q hw=>?_;obtain⟨L,M,P,T,hw⟩:=hw;refine⟨L,M,P,T,Xc c.mon o (λv M1 ⟨a,fs,y,e,e2,e3,q⟩=>?_) hw⟩;subst e;intro u Z O W N;obtain rfl:=W.inv;obtain⟨C',dx,vs,g1,g2,g3⟩:=N.ins e2;rw[hC]at g2;cases g2;rcases CZ (f:=f) g3 with⟨z1,z2⟩|⟨x',u',z1,z2,r'⟩
  .rw[e3]at z1;cases z1
  .rw[e3]at z1;cases z1;exact⟨a,C,dx,vs,u',rfl,g1,cl,na,z2,q _ _ O r' N⟩
 |.mcall j cn m o es,X,e,c,h=>by
  obtain⟨ob,ap,args,cp,rfl,h1,h2,h3,h8,h9⟩:=_jw h;have hform:methodCallForm (args.length+([]:List Z7).length) (Y2 cp (XC args X.env)) (ZX cp (ZY [] X.env))=true:=by
   unfold methodCallForm;have e0:ZX cp (ZY [] X.env)=[]:=rfl;rw[(UF (Ud (pos:=cp) h3)).1,e0];simp only[Cn,XY,decide_eq_true_eq];refine⟨rfl,?_⟩;simp at h9 ⊢;lia
  obtain⟨fn,sp,hj,k,C,fa,fd,ps,hr,F,hC,cl,hm,hb⟩:=c.mts j cn m h1;refine .plain c ?_ (λ_=>rfl) rfl;cases args with
  |nil=>
   refine(_le (E:=E0) (sE o c h2).pe cl hm F hr hb .nil CS (Kz (WY h2) hform h8)).weak λU H Q hw=>?_;obtain⟨L,M,P,T,hw⟩:=hw;refine⟨L,M,P,T,Xc c.mon o (λv M1 ⟨a,fs,e,e2,e3,q⟩=>?_) hw⟩;subst e;intro u Z O W N;obtain rfl:=W.inv;obtain⟨C',dx,vs,g1,g2,g3⟩:=N.ins e2;rw[hC]at g2;cases g2;have hn:vs.lookup m=none:=by
    rcases CZ (f:=m) g3 with⟨_,z2⟩|⟨x',u',z1,_⟩
    .exact z2
    .rw[e3]at z1;cases z1
   cases es with
   |cons _ _=>exact absurd h3 XG
   |nil=>
    obtain⟨f',sp',e4,S⟩:=q;rw[hj]at e4;cases e4;exact⟨a,dx,vs,rfl,g1,hn,[.ref a],M1,.cons (.ref a) .nil,N,c.mon j fn sp hj (λm M' B=>B.on O) S⟩
  |cons x xs=>
   cases es with
   |nil=>cases ES h3
   |cons a0 es=>
    have h3':=h3;obtain⟨x',xs',e',h4,h5⟩:=ET h3;cases e';refine(_nJ (E:=E0) (sE o c h2).pe cl hm F hr hb .nil CS (sA (.cons a0 es) c h3') (YE h4) (UF (Ud (pos:=cp) h5)).2 (Kz (WY h2) hform h8)).weak λU H Q hw=>?_;obtain⟨L,M,P,T,hw⟩:=hw;refine⟨L,M,P,T,Xc c.mon o (λv M1 ⟨a,fs,e,e2,e3,q⟩=>?_) hw⟩;subst e;intro u Z O W N;obtain rfl:=W.inv;obtain⟨C',dx,vs,g1,g2,g3⟩:=N.ins e2;rw[hC]at g2;cases g2;have hn:vs.lookup m=none:=by
     rcases CZ (f:=m) g3 with⟨_,z2⟩|⟨x',u',z1,_⟩
     .exact z2
     .rw[e3]at z1;cases z1
    refine⟨a,dx,vs,rfl,g1,hn,L,M1,P.mono O,N,mon_es c.mon (.cons a0 es) (λws M2 ⟨f',sp',e4,S⟩=>?_) q⟩;rw[hj]at e4;cases e4;intro us H2 Y r2 A;refine⟨.ref a::ws,M2,?_,A,c.mon j fn sp hj (λm M' B=>B.on (O.trans Y)) S⟩;rw[Vu];exact .cons (.ref a) r2
 |.make j cn a es,X,e,c,h=>by
  obtain⟨p,x,xs,p2,rfl,h1,h2,h3,h4⟩:=_lD h;obtain⟨g1,g2,g3⟩:=UE h2;obtain⟨fn,sp,hj,k,C,fa,fd,ps,hr,F,hC,hm,mk,hb⟩:=c.mks j cn h1;have ha:PA X (x::xs) (VQ (liE X.K (wE Φ a)) (liA X.K (wEs Φ es))):=WF (sE a c h3).pe (sA es c h4) (YE h3);refine .plain c ?_ (λ_=>rfl) rfl;refine(_nK (E:=E0) mk F hr g1 hm hb .nil CS ha g2 (YE h3) (UF (Ud (pos:=p2) h4)).2).weak λU H Q hw=>?_;obtain⟨L,M,P,T,hw⟩:=hw;refine⟨L,M,P,T,Xc c.mon a (λv M1 J=>?_) hw⟩;intro u Z O W N;refine⟨L,M1,P.mono O,N,mon_es c.mon es (λvs M2 ⟨f',sp',e,S⟩=>?_) J⟩;rw[hj]at e;cases e;intro us H2 Y r2 A;intro q dx B hdx ne;have kk:Kp H2 (upd (upd H2 dx (.own q)) q (.ins C dx [])):=(Kp.new hdx _).trans (Kp.new (by rw[XN ne.symm];exact B) _)
  refine⟨.ref q::v::vs,updM M2 q (.ins cn []),?_,?_,c.mon j fn sp hj (λm M' ⟨z,hq'⟩=>?_) (S q (A.free B))⟩
  .rw[Vu];exact .cons (.ref q) (.cons ((W.mono Y).mono kk) (r2.mono kk))
  .have k3:=Kp.new (H:=H2) hdx (.own q);have rh3:RH X.K M2 (upd H2 dx (.own q)):=A.kept hdx _;exact rh3.put (Kp.new (by rw[XN ne.symm];exact B) _) (o:=.ins cn []) ⟨hC,.nil⟩
  .subst z;intro v' H' k' r' rh';obtain rfl:=r'.inv;exact⟨rfl,hq' _ _ ((O.trans Y).trans (kk.trans k')) (.ref q) rh'⟩
 |.disp ps,X,e,c,h=>by
  obtain⟨ks,vs,p,rfl,h1,h2,h3⟩:=_lE h;refine .plain c ?_ (λ_=>rfl) rfl;obtain⟨hall,hlen⟩:=KA h3;refine(_nM (sP ps c h3) hall hlen h1 h2).weak λU H Q hw=>?_;obtain⟨L,M,P,T,hw⟩:=hw;intro q B;have O:=Kp.new B (.dK []);refine KB c.mon ps (P.mono O) (T.put O (o:=.dic []) ⟨.nil,C4⟩) (mon_ps c.mon ps (λl M2 ⟨e,e2,S⟩=>?_) (hw q (T.free B)));intro l' H2 Y rl A;obtain⟨vs2,e3,r3,nd3⟩:=A.dic e;obtain rfl:=r3.inv;refine⟨e3,l',rfl,by rw[<-rl.length];exact e2,?_⟩
  have k3:=Kp.upd e3 rfl (.dK (VR [] l'));have pa:=D3 rl (c:=[]) (c':=[]) .nil C4;exact S _ _ (O.trans (Y.trans k3)) (.ref q) (A.put k3 (o:=.dic (Yj l)) ⟨pa.1.mono k3,pa.2⟩)
theorem sP:∀(ps:IPs){X:Cx} {pos:Pos} {ks:List (Option Expr)} {vs:List Expr},Cok X G Φ->chkPs G ps X.env.scope X.N ks vs=true->PPs X pos ks vs (trOf X.K Φ ps)
 |.nil,X,pos,ks,vs,c,h=>by
  obtain⟨rfl,rfl⟩:=Kr h;exact _nB
 |.cons k v r,X,pos,ks,vs,c,h=>by
  obtain⟨x,ks',y,vs',rfl,rfl,h1,h2,h3⟩:=Ks h;exact _l9 (sE k c h1).pe (sE v c h2).pe (sP r c h3)
theorem sA{G:GI}{Φ:List (Str×SpM)}:∀(ies:IEs){X:Cx} {es:List Expr},Cok X G Φ->chkEs G ies X.env.scope X.N es=true->PA X es (liA X.K (wEs Φ ies))
 |.nil,X,es,c,h=>by
  cases es with
  |cons _ _=>cases ES h
  |nil=>
   refine pa_nil.weak λU H Q hw=>?_;obtain⟨L,M,P,T,hw⟩:=hw;exact hw _ _ (Kp.refl _) .nil T
 |.cons a as,X,es,c,h=>by
  cases es with
  |nil=>cases h
  |cons x xs=>
   obtain⟨x',xs',e',h⟩:=ET h;cases e';refine(WF (sE a c h.1).pe (sA as c h.2) (YE h.1)).weak λU H Q hw=>?_;have:wEs Φ (.cons a as)=λU M Q=>wE Φ a U M λv M1=>wEs Φ as U M1 λvs M2=>Q (v::vs) M2:=rfl;rw[this]at hw;exact _oi (te:=wE Φ a) (t:=wEs Φ as) (Xc c.mon a) (mon_es c.mon as) hw
theorem sO{G:GI}{Φ:List (Str×SpM)}:∀(io:IO){X:Cx} {e:Option Expr},Cok X G Φ->chkO G io X.env.scope X.N e=true->PO X e (liO X.K (wO Φ io))
 |.none,X,e,c,h=>by
  cases e with
  |some _=>cases _i1 h
  |none=>
   intro pq s U H Q I hw;refine _nE pq s U H Q I ?_;obtain⟨L,M,P,T,hw⟩:=hw;exact hw _ (Kp.refl _) T
 |.some a,X,e,c,h=>by
  cases e with
  |none=>exact absurd h XG
  |some x=>
   obtain⟨x',e',h⟩:=_i0 h;cases e';intro pq s U H Q I hw;refine _nD (sE a c h).pe pq s U H Q I ?_;obtain⟨L,M,P,T,hw⟩:=hw;refine⟨L,M,P,T,Xc c.mon a (λv M1 ⟨i,e,q⟩=>?_) hw⟩;subst e;intro u Z O W N;obtain rfl:=W.inv;exact⟨i,rfl,q Z O N⟩
theorem sI{G:GI}{Φ:List (Str×SpM)}:∀(io:IO){X:Cx} {es:List Expr},Cok X G Φ->chkI G io X.env.scope X.N es=true->PTs X es (ttOf X.K Φ io)
 |.none,X,es,c,h=>by
  cases es with
  |cons _ _=>cases _i3 h
  |nil=>exact .inl ⟨rfl,rfl⟩
 |.some a,X,es,c,h=>by
  obtain⟨x,rfl,h1,h2⟩:=_i2 h;exact .inr ⟨x,rfl,(sE a c h2).pt h1⟩
theorem sSr{G:GI}{Φ:List (Str×SpM)}:∀(s:ISr){X:Cx} {tg e:Expr},Cok X G Φ->chkSr G s X.env.scope X.N e=true->PI X tg e (liSr X (wSr Φ s))
 |.seq a,X,tg,e,c,h=>by
  refine(_nH (sE a c h).pe).weak λU H R hw=>?_;obtain⟨L,M,P,T,hw⟩:=hw;refine⟨L,M,P,T,Xc c.mon a (λv M1 q=>?_) hw⟩;intro u Z O W N;rcases q with⟨xs,e,q⟩|⟨b,xs,e,hb,q⟩|q|⟨z,e,q⟩
  .rcases e with e|e
   .subst e;obtain⟨_,_,rfl,h1,J⟩:=W.inv;exact .inl ⟨_,rfl,.inr (.inl ⟨_,SqT.of h1,q _ _ O N (.inl ⟨_,_,h1,J,rfl⟩)⟩)⟩
   .subst e;obtain⟨_,_,rfl,h1,J⟩:=W.inv;exact .inl ⟨_,rfl,.inl ⟨_,h1.sq,q _ _ O N (.inr ⟨_,_,h1,J,rfl⟩)⟩⟩
  .subst e;obtain rfl:=W.inv;obtain⟨vs,e2,_⟩:=N.lst hb;exact .inl ⟨_,rfl,.inl ⟨_,SqL.of e2,q _ _ O N rfl⟩⟩
  .exact q.elim
  .subst e;obtain rfl:=W.inv;exact .inr ⟨z,rfl,q _ _ O N rfl⟩
 |.rng a,X,tg,e,c,h=>by
  obtain⟨p,x,p2,rfl,h2,h3,h4⟩:=_ot h;refine(TU (UE h3).1 (c.bls _ h2) (WF (sE a c h4).pe pa_nil (YE h4)) (YE h4)).weak λU H R hw=>?_;obtain⟨L,M,P,T,hw⟩:=hw;refine⟨L,M,P,T,Xc c.mon a (λv M1 ⟨j,e,J,S,q⟩=>?_) hw⟩;subst e;intro u Z O W N;obtain rfl:=W.inv;exact⟨j,rfl,J,S,q _ _ O N rfl⟩
end
end L2
namespace L2
set_option genInjectivity false
set_option genCtorIdx false
open PySem PySem.Spec PyProof.Rows
mutual
inductive IS where
 |pass|brk|cnt|never
 |ret (e:IE)|retN
 |set (i:Nat)(e:IE)
 |asg (t:ITgs)(e:IE)
 |put (o i e:IE)
 |fset (c:Str)(o:IE)(f:Str)(e:IE)
 |expr (e:IE)
 |ite (c:IE)(a b:ISs)
 |for_ (t:ITg)(s:ISr)(b:ISs)
 |while_ (c:IE)(b:ISs)
inductive ISs where|nil|cons (s:IS)(r:ISs)
end
structure EndM where
 nx:Sm->MH->Prop
 rt:QM
 ct:Sm->MH->Prop:=λ_ _=>False
mutual
def wS(Φ:List (Str×SpM)):IS->EndM->Sm->MH->Prop
 |.pass,D,j,M=>D.nx j M
 |.brk,_,_,_=>False
 |.cnt,D,j,M=>D.ct j M
 |.never,_,_,_=>False
 |.ret e,D,j,M=>wE Φ e j M D.rt
 |.retN,D,_,M=>D.rt .non M
 |.set i e,D,j,M=>wE Φ e j M λv M1=>D.nx (j.set i (some v)) M1
 |.asg t e,D,j,M=>wE Φ e j M λv M1=>∃xs,v=.tup xs/\wTgs t xs j λl=>D.nx l M1
 |.put o i e,D,j,M=>wE Φ e j M λv M1=>wE Φ o j M1 λx M2=>wE Φ i j M2 λy z=>wPut x y v z λg=>D.nx j g
 |.fset c o f e,D,j,M=>wE Φ e j M λv M1=>wE Φ o j M1 λx M2=>∃a fs,x=.ref a/\M2 a=some (.ins c fs)/\fs.length<1000/\D.nx j (updM M2 a (.ins c (putM fs f v)))
 |.expr e,D,j,M=>wE Φ e j M λ_ M1=>D.nx j M1
 |.ite c a b,D,j,M=>wE Φ c j M λx M1=>onB x λk=>(if k=true then wSs Φ a D j M1 else wSs Φ b D j M1)
 |.for_ t s b,D,j,M=>wSr Φ s j M λS M1=>∃J:Nat->Sm->MH->Prop,J 0 j M1/\(∀i j M,J i j M->S.ok M)/\
   (∀i x j M,S.items[i]?=some x->J i j M->wTg t x j λw=>wSs Φ b {nx:=J (i+1),rt:=λv M=>S.okT M/\D.rt v (S.thaw M),ct:=J (i+1)} w M)/\∀j M,J S.len j M->D.nx j (S.thaw M)
 |.while_ c b,D,j,M=>∃J:Nat->Sm->MH->Prop,(∃m,J m j M)/\∀m j M,J m j M->wE Φ c j M λx M1=>∃k,x=.bl k/\
   (if k=true then wSs Φ b {nx:=λl M'=>∃u,u<m/\J u l M',rt:=D.rt,ct:=λl M'=>∃u,u<m/\J u l M'} j M1 else D.nx j M1)
def wSs(Φ:List (Str×SpM)):ISs->EndM->Sm->MH->Prop
 |.nil,D,j,M=>D.nx j M
 |.cons s r,D,j,M=>wS Φ s {nx:=λj M=>wSs Φ r D j M,rt:=D.rt,ct:=D.ct} j M
end
theorem KD{Φ:List (Str×SpM)}{c:IE}{a b:ISs}{D:EndM}{j:Sm}{M:MH}:wS Φ (.ite c a b) D j M=wE Φ c j M λx M1=>∃k,x=.bl k/\(if k=true then wSs Φ a D j M1 else wSs Φ b D j M1):=by rw[wS];simp only[W0]
structure EndM.Le (D D':EndM):Prop where
 nx:∀σ M,D.nx σ M->D'.nx σ M
 rt:∀v M,D.rt v M->D'.rt v M
 ct:∀σ M,D.ct σ M->D'.ct σ M
mutual
theorem F0{Φ:List (Str×SpM)}(u:∀(j:Nat)f sp,Φ[j]?=some (f,sp)->MonW sp):∀(s:IS){D g:EndM} {w:Sm} {M:MH},D.Le g->wS Φ s D w M->wS Φ s g w M
 |.pass,D,g,w,M,l,h=>by exact l.nx _ _ h
 |.brk,D,g,w,M,l,h=>h.elim
 |.cnt,D,g,w,M,l,h=>by exact l.ct _ _ h
 |.never,D,g,w,M,l,h=>h.elim
 |.ret e,D,g,w,M,l,h=>by exact Xc u e l.rt h
 |.retN,D,g,w,M,l,h=>by exact l.rt _ _ h
 |.set i e,D,g,w,M,l,h=>by exact Xc u e (λv M1 h1=>l.nx _ _ h1) h
 |.asg t e,D,g,w,M,l,h=>by exact Xc u e (λv M1 ⟨xs,e,h1⟩=>⟨xs,e,mon_tgs t (λL h2=>l.nx _ _ h2) h1⟩) h
 |.put o i e,D,g,w,M,l,h=>by
  exact Xc u e (λv M1 h1=>Xc u o (λx M2 h2=>Xc u i (λy Y h3=>Kc (λZ h4=>l.nx _ _ h4) h3) h2) h1) h
 |.fset c o f e,D,g,w,M,l,h=>by
  exact Xc u e (λv M1 h1=>Xc u o (λx M2 ⟨a,fs,N,O,P,h2⟩=>⟨a,fs,N,O,P,l.nx _ _ h2⟩) h1) h
 |.expr e,D,g,w,M,l,h=>by exact Xc u e (λv M1 h1=>l.nx _ _ h1) h
 |.ite c a b,D,g,w,M,l,h=>by
  rw[KD]at h ⊢;exact Xc u c (λx M1 ⟨k,e,h1⟩=>⟨k,e,YT (mon_ss u a l) (mon_ss u b l) h1⟩) h
 |.for_ t s b,D,g,w,M,l,h=>by
  refine mon_sr u s (λS M1 ⟨J,q,p,R,T⟩=>⟨J,q,p,λi x w M U d=>?_,λw M d=>l.nx _ _ (T w M d)⟩) h;exact V5 t (λW h2=>by refine mon_ss u b ?_ h2;exact⟨λ_ _ z=>z,λ_ _ z=>⟨z.1,l.rt _ _ z.2⟩,λ_ _ z=>z⟩) (R i x w M U d)
 |.while_ c b,D,g,w,M,l,h=>by
  obtain⟨J,q,p⟩:=h;refine⟨J,q,λm w M d=>Xc u c (λx M1 ⟨k,e,h1⟩=>⟨k,e,YT (λz=>by refine mon_ss u b ?_ z;exact⟨λ_ _ z=>z,l.rt,λ_ _ z=>z⟩) (l.nx _ _) h1⟩) (p m w M d)⟩
theorem mon_ss{Φ:List (Str×SpM)}(u:∀(j:Nat)f sp,Φ[j]?=some (f,sp)->MonW sp):∀(s:ISs){D g:EndM} {w:Sm} {M:MH},D.Le g->wSs Φ s D w M->wSs Φ s g w M
 |.nil,D,g,w,M,l,h=>by exact l.nx _ _ h
 |.cons s r,D,g,w,M,l,h=>by
  refine F0 u s ?_ h;exact⟨λw M h1=>mon_ss u r l h1,l.rt,l.ct⟩
end
theorem _ra{Φ:List (Str×SpM)}(u:∀(j:Nat)f sp,Φ[j]?=some (f,sp)->MonW sp){s:IS} {r:ISs} {D:EndM} {l:Sm} {M:MH} (P:Sm->MH->Prop)(h1:wS Φ s {nx:=P,rt:=D.rt,ct:=D.ct} l M)(h2:∀l M,P l M->wSs Φ r D l M):wSs Φ (.cons s r) D l M:=by
 refine F0 u s ?_ h1;exact⟨h2,λ_ _ z=>z,λ_ _ z=>z⟩
noncomputable def KE:Expr->Bool
 |.Tuple ..=>false|_=>true
noncomputable def WZ:Expr->Bool
 |.ListComp ..=>false|.SetComp ..=>false|.DictComp ..=>false|_=>true
noncomputable def KF:Stmt->Bool|.Continue _=>true|_=>false
noncomputable def KG:Stmt->Option (Option Expr)|.Return v _=>some v|_=>none
noncomputable def A0:Stmt->Option (List Expr×Expr)|.Assign ts v _=>some (ts,v)|_=>none
noncomputable def asEx:Stmt->Option Expr|.Expr v _=>some v|_=>none
noncomputable def KH:Stmt->Option (Expr×List Stmt×List Stmt)|.If t x y _=>some (t,x,y)|_=>none
noncomputable def KI:Stmt->Option (Expr×Expr×List Stmt×List Stmt)|.For t i b r _=>some (t,i,b,r)|_=>none
noncomputable def asWh:Stmt->Option (Expr×List Stmt×List Stmt)|.While t b r _=>some (t,b,r)|_=>none
section
variable{e:Stmt}
theorem _lC(h:KF e=true):∃p,e=.Continue p:=by revert h;cases e<;>first|exact nob|(intro h;cases h;exact⟨_,rfl⟩)
theorem _m4{x:Option Expr}(h:KG e=some x):∃p,e=.Return x p:=by revert h;cases e<;>first|exact nos|(intro h;cases h;exact⟨_,rfl⟩)
theorem Db{x:List Expr×Expr}(h:A0 e=some x):∃p,e=.Assign x.1 x.2 p:=by revert h;cases e<;>first|exact nos|(intro h;cases h;exact⟨_,rfl⟩)
theorem _pb{x:Expr}(h:asEx e=some x):∃p,e=.Expr x p:=by revert h;cases e<;>first|exact nos|(intro h;cases h;exact⟨_,rfl⟩)
theorem _m6{x:Expr×List Stmt×List Stmt}(h:KH e=some x):∃p,e=.If x.1 x.2.1 x.2.2 p:=by revert h;cases e<;>first|exact nos|(intro h;cases h;exact⟨_,rfl⟩)
theorem _m7{x:Expr×Expr×List Stmt×List Stmt}(h:KI e=some x):∃p,e=.For x.1 x.2.1 x.2.2.1 x.2.2.2 p:=by revert h;cases e<;>first|exact nos|(intro h;cases h;exact⟨_,rfl⟩)
theorem _p9{x:Expr×List Stmt×List Stmt}(h:asWh e=some x):∃p,e=.While x.1 x.2.1 x.2.2 p:=by revert h;cases e<;>first|exact nos|(intro h;cases h;exact⟨_,rfl⟩)
end
mutual
def chkS(G:GI)(j:Scope)(N:List Str):IS->Stmt->Bool
 |.pass,_=>false
 |.brk,_=>false
 |.cnt,s=>KF s
 |.never,_=>true
 |.ret e,s=>(KG s).any λo=>o.any λx=>chkE G e j N x
 |.retN,_=>false
 |.set i e,s=>(A0 s).any λq=>(the1 q.1).any λt=>(YZ t).any λx=>decide (N[i]?=some x)&&locB j x&&chkE G e j N q.2
 |.asg t e,s=>(A0 s).any λq=>(the1 q.1).any λg=>(W4 g).any λes=>chkTgs j N N.length true t es&&chkE G e j N q.2&&KE q.2
 |.put o i e,s=>(A0 s).any λq=>(the1 q.1).any λt=>(W5 t).any λa=>chkE G o j N a.1&&chkE G i j N a.2&&WQ a.2&&chkE G e j N q.2
 |.fset c o f e,s=>(A0 s).any λq=>(the1 q.1).any λt=>(V7 t).any λa=>decide (a.2.1=f)&&G.cls.contains (c,f)&&chkE G o j N a.1&&chkE G e j N q.2
 |.expr e,s=>(asEx s).any λv=>chkE G e j N v&&WZ v
 |.ite c a b,s=>(KH s).any λq=>tok c&&chkE G c j N q.1&&chkSs G j N a q.2.1&&chkSs G j N b q.2.2
 |.for_ t r b,s=>(KI s).any λq=>Zc j N N.length true t q.1&&chkSr G r j N q.2.1&&WR q.2.1&&chkSs G j N b q.2.2.1&&non0 q.2.2.2
 |.while_ c b,s=>(asWh s).any λq=>tok c&&chkE G c j N q.1&&chkSs G j N b q.2.1&&non0 q.2.2
def chkSs(G:GI)(j:Scope)(N:List Str):ISs->List Stmt->Bool
 |.nil,l=>non0 l
 |.cons s r,l=>(hd1 l).any λq=>chkS G j N s q.1&&chkSs G j N r q.2
end
def liD(K:X4)(H:Hp)(D:Ends):EndM where
 nx:=λl M=>∀u j,Kp H j->RS K j l u->RH K M j->D.nx u j
 rt:=Dn K H D.rt
 ct:=λl M=>∀u j,Kp H j->RS K j l u->RH K M j->D.ct u j
theorem liD.on{K:X4}{H w:Hp}{D:Ends}(k:Kp H w):(liD K H D).Le (liD K w D):=
 ⟨λ_ _ h j l u=>h j l (k.trans u),λ_ _ h=>h.on k,λ_ _ h j l u=>h j l (k.trans u)⟩
def liSt(K:X4)(t:EndM->Sm->MH->Prop):TS:=λD l H=>∃j M,RS K H j l/\RH K M H/\t (liD K H D) j M
theorem _iC{e:Expr}{x:Str}{p:Pos}{ln:Nat}{env:Env}(h:WZ e=true):Zz e (some (.Name x p)) ln env=pure false:=by cases e<;>first|rfl|cases h
theorem _iB{e:Expr}{ln:Nat}{env:Env}(h:WZ e=true):Zz e none ln env=pure false:=by cases e<;>first|rfl|cases h
theorem _kS{e:Expr}{es:List Expr}{k:Nat}{p:Pos}{ln:Nat}{env:Env}:Zz e (some (.Tuple es k p)) ln env=pure false:=by cases e<;>rfl
theorem _kU{e a:Expr}{f:Str}{p:Pos}{ln:Nat}{env:Env}:Zz e (some (.Attribute a f p)) ln env=pure false:=by cases e<;>rfl
theorem _kT{e a b:Expr}{p:Pos}{ln:Nat}{env:Env}:Zz e (some (.Subscript a b p)) ln env=pure false:=by cases e<;>rfl
theorem _iD{elt:Expr}{gs:List Comprehension}{scope:Scope}{pos p:Pos}{x:Str}{ln:Nat}{env:Env}:∃b:Bool,Zz (.ListComp elt gs scope pos) (some (.Name x p)) ln env=pure b:=⟨_,rfl⟩
theorem _oU{G:GI}{l:IE}{w:Scope}{N:List Str}{e:Expr}(h:chkE G l w N e=true):WZ e=true\/∃own fr u tg j elt,l=.comp own fr u tg j elt:=by
 revert h;cases e<;>first
  |exact λ_=>.inl rfl
  |(cases l<;>first
    |exact nob
    |exact λ_=>.inr ⟨_,_,_,_,_,_,rfl⟩)
section
variable{G:GI}{sc:Scope}{N:List Str}{st:Stmt}
theorem _lL(h:chkS G sc N .cnt st=true):∃p,st=.Continue p:=by exact _lC h
theorem _lH{e:IE}(h:chkS G sc N (.ret e) st=true):∃x p,st=.Return (some x) p/\chkE G e sc N x=true:=by
 replace h:=Xg h;obtain⟨o,j,h⟩:=h;obtain⟨p,rfl⟩:=_m4 j;replace h:=Xg h;obtain⟨x,rfl,h⟩:=h;exact⟨x,p,rfl,h⟩
theorem _lG{i:Nat}{e:IE}(h:chkS G sc N (.set i e) st=true):∃x j v p,st=.Assign [.Name x j] v p/\N[i]?=some x/\locB sc x=true/\chkE G e sc N v=true:=by
 replace h:=Xg h;obtain⟨⟨g,v⟩,l,h⟩:=h;obtain⟨p,rfl⟩:=Db l;replace h:=Xg h;obtain⟨t,u,h⟩:=h;obtain rfl:=_t u;replace h:=Xg h;obtain⟨x,w,h⟩:=h;obtain⟨j,rfl⟩:=_b w;replace h:=Xe h;obtain⟨h,y⟩:=h;replace h:=Xe h;obtain⟨z,m⟩:=h;exact⟨x,j,v,p,rfl,XJ z,m,y⟩
theorem _lM{t:ITgs}{e:IE}(h:chkS G sc N (.asg t e) st=true):∃es k pt v p,st=.Assign [.Tuple es k pt] v p/\chkTgs sc N N.length true t es=true/\chkE G e sc N v=true/\KE v=true:=by
 replace h:=Xg h;obtain⟨⟨m,v⟩,j,h⟩:=h;obtain⟨p,rfl⟩:=Db j;replace h:=Xg h;obtain⟨g,l,h⟩:=h;obtain rfl:=_t l;replace h:=Xg h;obtain⟨es,u,h⟩:=h;obtain⟨k,pt,rfl⟩:=D6 u;replace h:=Xe h;obtain⟨h,w⟩:=h;replace h:=Xe h;obtain⟨y,z⟩:=h;exact⟨es,k,pt,v,p,rfl,y,z,w⟩
theorem _lI{o i e:IE}(h:chkS G sc N (.put o i e) st=true):∃a b pt v p,st=.Assign [.Subscript a b pt] v p/\chkE G o sc N a=true/\chkE G i sc N b=true/\WQ b=true/\chkE G e sc N v=true:=by
 replace h:=Xg h;obtain⟨⟨d,v⟩,j,h⟩:=h;obtain⟨p,rfl⟩:=Db j;replace h:=Xg h;obtain⟨g,l,h⟩:=h;obtain rfl:=_t l;replace h:=Xg h;obtain⟨⟨a,b⟩,u,h⟩:=h;obtain⟨pt,rfl⟩:=D7 u;replace h:=Xe h;obtain⟨h,w⟩:=h;replace h:=Xe h;obtain⟨h,y⟩:=h;replace h:=Xe h;obtain⟨z,m⟩:=h;exact⟨a,b,pt,v,p,rfl,z,m,y,w⟩
theorem _jy{c f:Str}{o e:IE}(h:chkS G sc N (.fset c o f e) st=true):∃a pt v p,st=.Assign [.Attribute a f pt] v p/\G.cls.contains (c,f)=true/\chkE G o sc N a=true/\chkE G e sc N v=true:=by
 replace h:=Xg h;obtain⟨⟨d,v⟩,j,h⟩:=h;obtain⟨p,rfl⟩:=Db j;replace h:=Xg h;obtain⟨g,l,h⟩:=h;obtain rfl:=_t l;replace h:=Xg h;obtain⟨⟨a,q,pt⟩,u,h⟩:=h;obtain rfl:=WX u;simp only[XY]at h;obtain⟨⟨⟨w,y⟩,z⟩,m⟩:=h;obtain rfl:=XJ w;exact⟨a,pt,v,p,rfl,y,z,m⟩
theorem _jz{e:IE}(h:chkS G sc N (.expr e) st=true):∃v p,st=.Expr v p/\chkE G e sc N v=true/\WZ v=true:=by
 replace h:=Xg h;obtain⟨v,j,h⟩:=h;obtain⟨p,rfl⟩:=_pb j;exact⟨v,p,rfl,Xe h⟩
theorem _lJ{c:IE}{a b:ISs}(h:chkS G sc N (.ite c a b) st=true):∃t x y p,st=.If t x y p/\tok c=true/\chkE G c sc N t=true/\chkSs G sc N a x=true/\chkSs G sc N b y=true:=by
 replace h:=Xg h;obtain⟨⟨t,x,y⟩,j,h⟩:=h;obtain⟨p,rfl⟩:=_m6 j;replace h:=Xe h;obtain⟨h,l⟩:=h;replace h:=Xe h;obtain⟨h,u⟩:=h;replace h:=Xe h;obtain⟨w,z⟩:=h;exact⟨t,x,y,p,rfl,w,z,u,l⟩
theorem _lK{t:ITg}{s:ISr}{b:ISs}(h:chkS G sc N (.for_ t s b) st=true):∃tg it j p,st=.For tg it j [] p/\Zc sc N N.length true t tg=true/\chkSr G s sc N it=true/\WR it=true/\chkSs G sc N b j=true:=by
 replace h:=Xg h;obtain⟨⟨tg,it,j,l⟩,u,h⟩:=h;obtain⟨p,rfl⟩:=_m7 u;replace h:=Xe h;obtain⟨h,w⟩:=h;replace h:=Xe h;obtain⟨h,y⟩:=h;replace h:=Xe h;obtain⟨h,z⟩:=h;replace h:=Xe h;obtain⟨m,g⟩:=h;obtain rfl:=Yq w;exact⟨tg,it,j,p,rfl,m,g,z,y⟩
theorem _i5{c:IE}{b:ISs}(h:chkS G sc N (.while_ c b) st=true):∃t j p,st=.While t j [] p/\tok c=true/\chkE G c sc N t=true/\chkSs G sc N b j=true:=by
 replace h:=Xg h;obtain⟨⟨l,j,u⟩,w,h⟩:=h;obtain⟨p,rfl⟩:=_p9 w;replace h:=Xe h;obtain⟨h,y⟩:=h;replace h:=Xe h;obtain⟨h,z⟩:=h;replace h:=Xe h;obtain⟨m,g⟩:=h;obtain rfl:=Yq y;exact⟨l,j,p,rfl,m,g,z⟩
theorem _jx{j:List Stmt}(h:chkSs G sc N .nil j=true):j=[]:=by
 exact Yq h
theorem _i4{s:IS}{r:ISs}{j:List Stmt}(h:chkSs G sc N (.cons s r) j=true):∃x xs,j=x::xs/\chkS G sc N s x=true/\chkSs G sc N r xs=true:=by
 replace h:=Xg h;obtain⟨⟨x,xs⟩,l,h⟩:=h;exact⟨x,xs,Uc l,Xe h⟩
end
mutual
theorem sS{G:GI}{Φ:List (Str×SpM)}:∀(is:IS){X:Cx} {st:Stmt},Cok X G Φ->(∀x,X.fn x=true)->chkS G X.env.scope X.N is st=true->PS X st (liSt X.K (wS Φ is))
 |.pass,X,st,c,hf,h=>absurd h XG
 |.brk,X,st,c,hf,h=>absurd h XG
 |.cnt,X,st,c,hf,h=>by
  obtain⟨p,rfl⟩:=_lL h;refine ps_continue.weak λD Z H hw=>?_;obtain⟨j,M,L,T,hw⟩:=hw;exact hw Z H (Kp.refl _) L T
 |.never,X,st,c,hf,h=>by
  refine ps_never.weak λD Z H hw=>?_;obtain⟨j,M,L,T,hw⟩:=hw;exact hw
 |.ret e,X,st,c,hf,h=>by
  obtain⟨v,p,rfl,h⟩:=_lH h;refine(Tx (sE e c h).pe).weak λD Z H hw=>?_;obtain⟨j,M,L,T,hw⟩:=hw;exact⟨j,M,L,T,hw⟩
 |.retN,X,st,c,hf,h=>absurd h XG
 |.set i e,X,st,c,hf,h=>by
   obtain⟨x,px,v,p,rfl,h1,h2,h3⟩:=_lG h;have rd:∀D Z H,liSt X.K (wS Φ (.set i e)) D Z H->liE X.K (wE Φ e) Z H λv H1=>D.nx (Z.set i (some v)) H1:=λD Z H hw=>by
    obtain⟨j,M,L,T,hw⟩:=hw;refine⟨j,M,L,T,Xc c.mon e (λv M1 q=>?_) hw⟩;intro u H1 O r1 N;exact q _ _ O ((L.mono O).set r1 i) N
   rcases _oU h3 with hn|⟨own,fr,src,tg,test,elt,rfl⟩
   .exact(IF c.nd h1 (D9 h2) (sE e c h3).pe (_iC hn) (.inl (hf _))).weak rd
   .obtain⟨y,t,it,ifs,scope,p3,rfl,i1,i2,i3,i4,i5,i6,i7⟩:=Kq h3;obtain⟨b,hb⟩:=_iD (elt:=y) (gs:=[⟨t,it,ifs,0⟩]) (scope:=scope) (pos:=p3) (p:=px) (x:=x) (ln:=p.line) (env:=X.env);cases b with
    |false=>exact(IF c.nd h1 (D9 h2) (sE _ c h3).pe hb (.inl (hf _))).weak rd
    |true=>
     refine(_g2 own fr (g:=gOf X.K tg) (te:=liE X.K (wE Φ elt)) (tt:=ttOf X.K Φ test) c.nd h1 (D9 h2) (λe s h=>by rw[c.nox]at h;exact h) c.calm i1 (sSr src (tg:=t) c i4)
      (λC fp E F=>sTg (X:=cxC X scope own fr C fp E F) (lim:=own.length) (all:=false) c.calm i3 (λz=>by cases z) tg i5) (λC fp E F=>sI (X:=cxC X scope own fr C fp E F) test (c.comp (VT i1).kind i3) i6)
      (λC fp E F=>(sE (X:=cxC X scope own fr C fp E F) elt (c.comp (VT i1).kind i3) i7).pe) hb (EZ i2 _) (.inl (hf _))).thaw.weak λD Z H hw=>?_
     exact Kx c.mon i5 (rd D Z H hw)
 |.asg t e,X,st,c,hf,h=>by
   obtain⟨es,k,pt,v,p,rfl,h1,h2,h3⟩:=_lM h;have hT:Zc X.env.scope X.N X.N.length true (.tup t) (.Tuple es k pt)=true:=h1;refine(ID (sE e c h2).pe (sTg (lim:=X.N.length) (all:=true) c.calm c.nd (λ_=>hf) (.tup t) hT) (_kS (e:=v) (es:=es) (k:=k) (p:=pt) (ln:=p.line) (env:=X.env)) (by cases v<;>first|rfl|cases h3) rfl).weak λD Z H hw=>?_
   obtain⟨j,M,L,T,hw⟩:=hw;refine⟨j,M,L,T,Xc c.mon e (λv M1 ⟨xs,e,q⟩=>?_) hw⟩;intro u H1 O r1 N;refine Da (Ψ:=λ_=>True) (lim:=X.N.length) (λ_ _ _ _ z=>z) (.tup t) hT r1 (L.mono O) trivial (P:=λl=>(liD X.K H D).nx l M1) ⟨xs,e,q⟩ λw l q' U _=>?_;exact q' _ _ O U N
 |.put o i e,X,st,c,hf,h=>by
   obtain⟨a,b,pt,v,p,rfl,h1,h2,h3,h4⟩:=_lI h;have hg:PG X (.Subscript a b pt) (gSub (liE X.K (wE Φ o)) (liE X.K (wE Φ i)) (Kd X.K)):=TH (sE o c h1).pe (sE i c h2).pe (_nf (by have:=c.room;lia)) (by intro v;cases b<;>first|rfl|cases h3)
   refine(ID (sE e c h4).pe hg (_kT (e:=v) (a:=a) (b:=b) (p:=pt) (ln:=p.line) (env:=X.env)) rfl rfl).weak λD Z H hw=>?_;obtain⟨j,M,L,T,hw⟩:=hw;refine⟨j,M,L,T,Xc c.mon e (λv M1 q1=>?_) hw⟩;intro u H1 O r1 N;refine⟨j,M1,L.mono O,N,Xc c.mon o (λx M2 q2=>?_) q1⟩;intro u2 H2 Q r2 Y;refine⟨j,M2,L.mono (O.trans Q),Y,Xc c.mon i (λy M3 q3=>?_) q2⟩;intro u3 H3 A r3 rh3;refine⟨x,y,v,M3,r2.mono A,r3,r1.mono (Q.trans A),rh3,Kc (λM4 q4=>?_) q3⟩;intro H4 k4 rh4;have kk:=O.trans (Q.trans (A.trans k4));exact q4 _ _ kk (L.mono kk) rh4
 |.fset cn o f e,X,st,c,hf,h=>by
  obtain⟨a,pt,v,p,rfl,h1,h2,h3⟩:=_jy h;obtain⟨C,hC,cl,na⟩:=c.cls cn f h1;refine(_qc (sE o c h2).pe (sE e c h3).pe _kU).weak λD Z H hw=>?_;obtain⟨j,M,L,T,hw⟩:=hw;refine⟨j,M,L,T,Xc c.mon e (λv M1 q1=>?_) hw⟩;intro u H1 O r1 N;refine⟨j,M1,L.mono O,N,Xc c.mon o (λx M2 ⟨b,fs,e1,e2,e3,q2⟩=>?_) q1⟩;subst e1;intro u2 H2 Q r2 Y;obtain rfl:=r2.inv;obtain⟨C',dx,vs,g1,g2,g3⟩:=Y.ins e2;rw[hC]at g2;cases g2;have A:=Kp.upd g1 rfl (.ins C dx (putF f u vs));have kk:=O.trans (Q.trans A);refine⟨b,C,dx,vs,rfl,g1,cl,na,by rw[<-g3.length];exact e3,?_⟩
  exact q2 _ _ kk (L.mono kk) (Y.put A (o:=.ins cn (putM fs f v)) ⟨hC,(JN (r1.mono Q) g3).mono A⟩)
 |.expr e,X,st,c,hf,h=>by
  obtain⟨v,p,rfl,h1,h2⟩:=_jz h;refine(Tw (sE e c h1).pe (_iB h2)).weak λD Z H hw=>?_;obtain⟨j,M,L,T,hw⟩:=hw;refine⟨j,M,L,T,Xc c.mon e (λv M1 q=>?_) hw⟩;intro u H1 O r1 N;exact q _ _ O (L.mono O) N
 |.ite d a b,X,st,c,hf,h=>by
  obtain⟨t,x,y,p,rfl,h1,h2,h3,h4⟩:=_lJ h;refine(Tz ((sE d c h2).pt h1) (sSs a c hf h3) (sSs b c hf h4)).weak λD Z H hw=>?_;obtain⟨j,M,L,T,hw⟩:=hw;rw[KD]at hw;refine⟨j,M,L,T,Xc c.mon d (λx M1 ⟨k,e,q⟩=>⟨k,e,λH1 O N=>?_⟩) hw⟩;exact YT (λq=>⟨j,M1,L.mono O,N,mon_ss c.mon a (liD.on O) q⟩) (λq=>⟨j,M1,L.mono O,N,mon_ss c.mon b (liD.on O) q⟩) q
 |.for_ t s b,X,st,c,hf,h=>by
   obtain⟨tg,it,body,p,rfl,h1,h2,h3,h4⟩:=_lK h;refine(TW (by rw[c.nox];exact PassesOwn.never) c.calm (sSr s (tg:=tg) c h2) (sTg (lim:=X.N.length) (all:=true) c.calm c.nd (λ_=>hf) t h1) (sSs b c hf h4) (EZ h3 _)).thaw.weak λD Z H hw=>?_
   obtain⟨j,M,L,T,hw⟩:=hw;refine⟨j,M,L,T,mon_sr c.mon s (λS M1 ⟨J,j0,j1,j2,j3⟩=>?_) hw⟩;intro I H1 O N sit;refine⟨λi m l B=>m=S.len - i/\i<=S.len/\Kp H1 B/\∃w M',RS X.K B w l/\RH X.K M' B/\J i w M',⟨_,rfl,YA _,Kp.refl _,j,M1,L.mono O,N,j0⟩,?_⟩;rintro i m σ2 H2 ⟨rfl,hi,Q,R,M2,n,Y,hj⟩;obtain⟨goes,stops⟩:=Kw sit Q Y (j1 i R M2 hj);by_cases hlt:i<S.len
   .obtain⟨go,yld⟩:=goes i hlt;refine .inr ⟨go,λl B=>Kp H1 B/\∃w M',RS X.K B w l/\RH X.K M' B/\J (i+1) w M',λl B ⟨a,z⟩=>⟨S.len - (i+1),by lia,rfl,hlt,a,z⟩,λx B y=>?_⟩
    obtain⟨e,m,hm,rm⟩:=yld x B y;subst e;refine Da (Ψ:=λ_=>True) (lim:=X.N.length) (λ_ _ _ _ z=>z) t h1 rm n trivial (j2 i m R M2 hm hj) λσm3 σ3 q rs3 _=>?_;refine⟨σm3,M2,rs3,Y,?_⟩;refine mon_ss c.mon b ?_ q;refine⟨λl M' z σv H3 A U W=>⟨Q.trans A,l,M',U,W,z⟩,λv M' z u H3 A r3 W=>?_,λl M' z σv H3 A U W=>⟨Q.trans A,l,M',U,W,z⟩⟩
    .obtain⟨H4,th,k4,rh4⟩:=EY sit W z.1;exact⟨H4,th,z.2 u H4 (O.trans (Q.trans (A.trans k4))) (r3.mono k4) rh4⟩
   .have e:i=S.len:=by lia
    subst e;obtain⟨H4,th,k4,rh4⟩:=EY sit Y (Kv (j1 _ R M2 hj));exact .inl ⟨stops _ (Xf _),H4,th,j3 R M2 hj _ _ (O.trans (Q.trans k4)) (n.mono k4) rh4⟩
 |.while_ d b,X,st,c,hf,h=>by
   obtain⟨tst,body,p,rfl,h1,h2,h3⟩:=_i5 h;refine(TK (by rw[c.nox];exact PassesOwn.never) ((sE d c h2).pt h1) (sSs b c hf h3)).weak λD Z H hw=>?_
   obtain⟨j,M,L,T,hw⟩:=hw;obtain⟨J,⟨m0,j0⟩,j1⟩:=hw;refine⟨λm l B=>Kp H B/\∃w M',RS X.K B w l/\RH X.K M' B/\J m w M',⟨m0,Kp.refl _,j,M,L,T,j0⟩,?_⟩;rintro m σ2 H2 ⟨Q,R,M2,n,Y,hj⟩;refine⟨R,M2,n,Y,Xc c.mon d (λx M1 ⟨k,e,q⟩=>⟨k,e,λH3 A rh3=>?_⟩) (j1 m R M2 hj)⟩;refine YT (λq=>?_) (λq=>q _ _ (Q.trans A) (n.mono A) rh3) q;refine⟨λl B=>∃m',m'<m/\Kp H B/\∃w M',RS X.K B w l/\RH X.K M' B/\J m' w M',λl B z=>z,R,M1,n.mono A,rh3,?_⟩;refine mon_ss c.mon b ?_ q;refine⟨?_,λv M' z=>z.on (Q.trans A),?_⟩
   .rintro l M' ⟨m',hm,z⟩ σv H4 k4 U W;exact⟨m',hm,Q.trans (A.trans k4),l,M',U,W,z⟩
   .rintro l M' ⟨m',hm,z⟩ σv H4 k4 U W;exact⟨m',hm,Q.trans (A.trans k4),l,M',U,W,z⟩
theorem sSs{G:GI}{Φ:List (Str×SpM)}:∀(is:ISs){X:Cx} {sts:List Stmt},Cok X G Φ->(∀x,X.fn x=true)->chkSs G X.env.scope X.N is sts=true->PSs X sts (liSt X.K (wSs Φ is))
 |.nil,X,sts,c,hf,h=>by
   cases _jx h;refine pss_nil.weak λD Z H hw=>?_;obtain⟨j,M,L,T,hw⟩:=hw;exact hw Z H (Kp.refl _) L T
 |.cons s r,X,sts,c,hf,h=>by
   obtain⟨x,xs,rfl,h1,h2⟩:=_i4 h;refine(Tt (sS s c hf h1) (sSs r c hf h2)).weak λD Z H hw=>?_;obtain⟨j,M,L,T,hw⟩:=hw;refine⟨j,M,L,T,?_⟩;refine F0 c.mon s ?_ hw;refine⟨λl M' z σv H1 O U W=>?_,λv M' z=>z,λl M' z=>z⟩;exact⟨l,M',U,W,mon_ss c.mon r (liD.on O) z⟩
end
end L2
namespace L2
open PySem PySem.Spec PyProof.Rows
structure Fts (P:Xw)(w:Xn)(K:X4)(mg:Str->Option X0)(base:Heap)(k:Nat)(G:GI)(Φ:List (Str×SpM)):Prop where
 bls:∀x,G.bl.contains x=true->mg x=none
 gls:∀x i,G.gl.lookup x=some i->∃tk,mg x=some (.int i tk)
 fnn:∀(j:Nat)f,G.fns[j]?=some f->∃sp,Φ[j]?=some (f,sp)
 mon:∀(j:Nat)f sp,Φ[j]?=some (f,sp)->MonW sp
 fns:∀(j:Nat)f sp,G.fns[j]?=some f->Φ[j]?=some (f,sp)->∃fa fd ps,FnOk P w K mg base CX0 k fa fd ps (liSp K sp)/\mg f=some (.ref fa)/\YQ K (.ref fa)=true/\Binds K fd ps []
 mts:∀(j:Nat)c m,G.mts.contains (j,c,m)=true->∃f sp,Φ[j]?=some (f,sp)/\∃C fa fd ps,FnOk P w K mg base CX0 k fa fd ps (liSp K sp)/\XA K Xp c=some (some (.ref C))/\Cls K C/\Meth K C m fa/\Binds K fd ps []
 mks:∀(j:Nat)c,G.mks.contains (j,c)=true->∃f sp,Φ[j]?=some (f,sp)/\∃k' C fa fd ps,k'+1<=k/\FnOk P w K mg base CX0 k' fa fd ps (liSp K sp)/\XA K Xp c=some (some (.ref C))/\mg c=some (.ref C)/\Mk K C fa/\Binds K fd ps []
 cls:∀c f,G.cls.contains (c,f)=true->∃C,XA K Xp c=some (some (.ref C))/\Cls K C/\NoAttr K C f
noncomputable def A3(n:Nat)(vs:List MV):Sm:=vs.map some++Xj (n - vs.length) none
theorem _kV{K:X4}(r:RMs K H ms vs):RS K H (A3 N.length ms) (ZJ N vs):=by
 unfold A3 ZJ;have j:=r.length;refine⟨by simp[j],λi m e=>?_⟩
 by_cases hi:i<ms.length
 .rw[ZC (by simpa using hi),Xr]at e
  cases q:ms[i]? with
  |none=>rw[q]at e;cases e
  |some x=>
   rw[q]at e;have l:x=m:=Yd (Yd e);subst l;obtain⟨u,w,y⟩:=r.get q;exact⟨u,by rw[ZC (by simpa [<-j]using hi),Xr,w];rfl,y⟩
 .rw[Zh (by simpa using hi),DQ]at e
  split at e<;>cases e
theorem Fun.okM{K:X4}{st:Stmt}{k:Nat}
  (F:Fun K x qual st f fd)(S:FnScope N ps (X5 st))(T:Fts P w K mg base k G Φ)(y:ISs)(R:chkSs G (X5 st) N y (Xi st)=true)
  (len:∀vs M Q,sp vs M Q->vs.length=ps.length)(h:∀vs M Q,sp vs M Q->wSs Φ y {nx:=λ_ M'=>Q .non M',rt:=Q} (A3 N.length vs) M):FnOk P w K mg base CX0 (k+1) f fd ps (liSp K sp):=by
 refine F.ok S (λvs H Q E d=>?_) λp A l s H vs Q E g d=>?_
 .obtain⟨e,M,r,O,q⟩:=d;rw[<-r.length];exact len _ _ _ q
 obtain⟨e,M,r,O,q⟩:=d;have c:Cok (cxOf CX0 P w K mg base N qual (X5 st) f p A l s H E).nox G Φ:=
  ⟨(by have:=g.un;show(A.deeper _).units+70<cLine;lia),rfl,rfl,(by show(if(X5 st).kind.isAnnotationScope then Ir else(X5 st).kind)=.function;rw[S.kind];rfl),S.nd,T.bls,T.gls,T.fnn,T.mon,
   (λj f sp U u=>let⟨fa,fd,ps,F,hm,hk,hb⟩:=T.fns j f sp U u;⟨k,fa,fd,ps,g,F,hm,hk,hb⟩),
   (λj c m h=>let⟨f,sp,u,C,fa,fd,ps,F,hC,cl,hm,hb⟩:=T.mts j c m h;⟨f,sp,u,k,C,fa,fd,ps,g,F,hC,cl,hm,hb⟩),
   (λj c h=>let⟨f,sp,u,k',C,fa,fd,ps,hk,F,hC,hm,mk1,hb⟩:=T.mks j c h;⟨f,sp,u,k',C,fa,fd,ps,g.mono hk,F,hC,hm,mk1,hb⟩),T.cls⟩
 refine⟨_,sSs y c (λ_=>rfl) R,A3 N.length e,M,_kV r,O,?_⟩;refine mon_ss T.mon y ?_ (h e M _ q);exact⟨λB M' z W D Y Z L=>z _ _ Y .non L,λv M' z=>z,λ_ _ z=>z.elim⟩
noncomputable def KJ:SpM:=λl M Q=>∃j:List Int,l=[.frl (j.map .int)]/\j.length<=63/\∀u,Q (.bl true) u
def Dc(K:X4):Sp:=λl H Q _=>∃(a:Addr) (j:List Int),l=[.ref a]/\FrL K H a (j.map V.int)/\j.length<=63/\∀u,Q (.bl true) u
theorem _oj{K:X4}{k:Nat}(F:FnOk P w K mg base CX0 k f fd ps (liSp K KJ)):FnOk P w K mg base CX0 k f fd ps (Dc K):=
 F.imp λy H Q E ⟨a,j,e,l,u,q⟩=>by
  subst e;refine⟨[.frl (j.map .int)],λ_=>none,.cons (.frl l (RMs.ints j)) .nil,λ_ _ z=>(by cases z),j,rfl,u,λm=>?_⟩
  intro v g k r d;cases r;exact q _
theorem _r4{K:X4}(o:Only H)(h:SqL K H a vs):FrL K H a vs:=by
 rcases h with(h|⟨j,h⟩)|h
 .rcases o a with z|⟨j,l,z⟩
  .rw[h]at z;cases z
  .rw[h]at z;cases z
 .exact .inl ⟨j,h⟩
 .exact .inr h
theorem _qH{K:X4}{k:Nat}(g:∀x∈G.bl,mg x=none)(d:∀p∈G.gl,∃tk,mg p.1=some (.int p.2 tk))(z:Φ.map (·.1)=G.fns)
  (r:∀p∈Φ++Ψ,MonW p.2)(L:∀p∈Φ,∃l u ps,FnOk P w K mg base CX0 k l u ps (liSp K p.2)/\mg p.1=some (.ref l)/\YQ K (.ref l)=true/\Binds K u ps [])
  (N:∀q∈G.mts,∃f sp,(Φ++Ψ)[q.1]?=some (f,sp)/\∃C l u ps,FnOk P w K mg base CX0 k l u ps (liSp K sp)/\XA K Xp q.2.1=some (some (.ref C))/\Cls K C/\Meth K C q.2.2 l/\Binds K u ps [])
  (O:∀q∈G.mks,∃f sp,(Φ++Ψ)[q.1]?=some (f,sp)/\∃k' C l u ps,k'+1<=k/\FnOk P w K mg base CX0 k' l u ps (liSp K sp)/\XA K Xp q.2=some (some (.ref C))/\mg q.2=some (.ref C)/\Mk K C l/\Binds K u ps [])
  (R:∀q∈G.cls,∃C,XA K Xp q.1=some (some (.ref C))/\Cls K C/\NoAttr K C q.2):Fts P w K mg base k G (Φ++Ψ)where
 bls:=λx h=>g x (by simpa using h)
 gls:=λx i h=>d (x,i) (VJ h)
 fnn:=λj f h=>by
  rw[<-z,Xr]at h;cases e:Φ[j]? with
  |none=>rw[e]at h;cases h
  |some p=>rw[e]at h;cases h;exact⟨p.2,by rw[ZC (XE.mp e).1,e]⟩
 mon:=λj f sp h=>r (f,sp) (Xu h)
 fns:=λj f sp y h=>by
  rw[<-z,Xr]at y;cases e:Φ[j]? with
  |none=>rw[e]at y;cases y
  |some p=>
   rw[ZC (XE.mp e).1,e]at h;cases h;exact L (f,sp) (Xu e)
 mts:=λj c m h=>N (j,c,m) (by simpa using h)
 mks:=λj c h=>O (j,c) (by simpa using h)
 cls:=λc f h=>R (c,f) (by simpa using h)
theorem _M{K:X4}{k:Nat}(e:Φ++Ψ=Χ)(u:∀x∈G.bl,mg x=none)(y:∀p∈G.gl,∃tk,mg p.1=some (.int p.2 tk))(z:Φ.map (·.1)=G.fns)
  (m:∀p∈Χ,MonW p.2)(g:∀p∈Φ,∃j l ps,FnOk P w K mg base CX0 k j l ps (liSp K p.2)/\mg p.1=some (.ref j)/\YQ K (.ref j)=true/\Binds K l ps [])
  (d:∀q∈G.mts,∃f sp,Χ[q.1]?=some (f,sp)/\∃C j l ps,FnOk P w K mg base CX0 k j l ps (liSp K sp)/\XA K Xp q.2.1=some (some (.ref C))/\Cls K C/\Meth K C q.2.2 j/\Binds K l ps [])
  (c:∀q∈G.mks,∃f sp,Χ[q.1]?=some (f,sp)/\∃k' C j l ps,k'+1<=k/\FnOk P w K mg base CX0 k' j l ps (liSp K sp)/\XA K Xp q.2=some (some (.ref C))/\mg q.2=some (.ref C)/\Mk K C j/\Binds K l ps [])
  (r:∀q∈G.cls,∃C,XA K Xp q.1=some (some (.ref C))/\Cls K C/\NoAttr K C q.2):Fts P w K mg base k G Χ:=by
 subst e;exact _qH u y z m g d c r
structure Fn1 (K:X4)(x:Str)(st:Stmt)(f:Addr)(d:Xd):Prop where
 a:XA K Xp x=some (some (.ref f))
 F:Fun K x x st f d
structure FnT (K:X4)(mg:Str->Option X0)(x:Str)(ps:List Str)(st:Stmt)(f:Addr)(d:Xd):Prop where
 F:Fun K x x st f d
 b:Binds K d ps []
 m:mg x=some (.ref f)
structure Mt1 (K:X4)(C:Addr)(m qual:Str)(st:Stmt)(f:Addr)(d:Xd):Prop where
 M:Meth K C m f
 F:Fun K m qual st f d
theorem mt_mk{K:X4}{C:Addr}{x j:Str}{st:Stmt}{f:Addr}{d:X0}{q z:Option Addr}{y:Array (Option X0)}{kV w m u g:X0}(a:XV K (.ref C) x=some (some (.ref f)))(i:Cb K (.ref f)=true)
  (l:K.lookup f=some ⟨d,q,.func (ZG x j (UC st) (Xi st) (X5 st) .none kV w m z u g),y⟩)(c:C9 K u j=true)(k:YQ K (.ref f)=true):Mt1 K C x j st f (ZG x j (UC st) (Xi st) (X5 st) .none kV w m z u g):=⟨⟨a,i,k⟩,fun_mk l c k⟩
theorem Fn1.t{K:X4}{st:Stmt}(H:Fn1 K x st f d)(X:K.In h)(G:h.Ns Xp mg)
  (b:∀(kV j u:X0)(w:Option Addr)(l y:X0)(us:List X0),us.length=ps.length->bindArgs (ZG x x (UC st) (Xi st) (X5 st) .none kV j u w l y) ⟨us,[]⟩=pure (ps.zip us)):FnT K mg x ps st f d:=⟨H.F,H.F.binds b,Yy X G H.a⟩
theorem Fn1.bt{K:X4}{st:Stmt}(H:Fn1 K x st f d)
  (r:∀(kV j u:X0)(w:Option Addr)(l z v:X0),bindArgs (ZG x x (UC st) (Xi st) (X5 st) .none kV j u w l z) ⟨[v],[]⟩=pure [(y,v)])(s:X2)(v:X0):BindsTo s d ⟨[v],[]⟩ [(y,v)]:=by
 obtain⟨_,_,kV,j,u,w,l,z,_,rfl,_⟩:=H.F.ex;exact .of_eq (r kV j u w l z v)
theorem us0{p:List X0->Prop}(h:p [])(us:List X0)(j:us.length=0):p us:=by cases us with|nil=>exact h|cons _ _=>cases j
theorem us1{p:List X0->Prop}(h:∀l,p [l])(us:List X0)(j:us.length=1):p us:=by cases us with|nil=>cases j|cons a r=>exact us0 (p:=λr=>p (a::r)) (h a) r (WC j)
theorem us2{p:List X0->Prop}(h:∀l u,p [l,u])(us:List X0)(j:us.length=2):p us:=by cases us with|nil=>cases j|cons a r=>exact us1 (p:=λr=>p (a::r)) (h a) r (WC j)
theorem us3{p:List X0->Prop}(h:∀l u w,p [l,u,w])(us:List X0)(j:us.length=3):p us:=by cases us with|nil=>cases j|cons a r=>exact us2 (p:=λr=>p (a::r)) (h a) r (WC j)
theorem us4{p:List X0->Prop}(h:∀l u w y,p [l,u,w,y])(us:List X0)(j:us.length=4):p us:=by cases us with|nil=>cases j|cons a r=>exact us3 (p:=λr=>p (a::r)) (h a) r (WC j)
theorem us5{p:List X0->Prop}(h:∀l u w y z,p [l,u,w,y,z])(us:List X0)(j:us.length=5):p us:=by cases us with|nil=>cases j|cons a r=>exact us4 (p:=λr=>p (a::r)) (h a) r (WC j)
section
variable{M:MH}{Q:QM}{i j:Int}{x y:MV}{a b:Addr}
theorem _st:wBin .Add (.int i) (.int j) M Q=Q (.int (i+j)) M:=rfl
theorem _rW:wBin .Sub (.int i) (.int j) M Q=Q (.int (i - j)) M:=rfl
theorem _sg:wBin .Mult (.int i) (.int j) M Q=(CMul i j/\Q (.int (i*j)) M):=rfl
theorem _q2:wBin .FloorDiv (.int i) (.int j) M Q=(WL i j/\Q (.int (i/j)) M):=rfl
theorem _sh:wBin .Mod (.int i) (.int j) M Q=(0<j/\Q (.int (i%j)) M):=rfl
theorem _s7:wBin .Pow (.int i) (.int j) M Q=(CPow i j/\Q (.int (i^j.toNat)) M):=rfl
theorem _s2:wBin .LShift (.int i) (.int j) M Q=(CPow i j/\Q (.int (i*2^j.toNat)) M):=rfl
theorem _sr:wBin .BitAnd (.int i) (.int j) M Q=Q (.int (CH i j)) M:=rfl
theorem _rK:wBin .BitXor (.int i) (.int j) M Q=Q (.int (CI i j)) M:=rfl
theorem _q6{x y:Str}:wBin .Add (.str x) (.str y) M Q=(x.length+y.length<=sizeLine/\Q (.str (x++y)) M):=rfl
theorem _pP{x:Str}:wBin .Mult (.str x) (.int i) M Q=(x.length<=16/\ -1000<=i/\i<=1000/\Q (.str (Txt.mul x i)) M):=rfl
theorem _q5:wBin .Add (.tup xs) (.tup ys) M Q=(xs≠ []/\xs.length+ys.length<=sizeLine/\Q (.tup (xs++ys)) M):=rfl
theorem _pO:wBin .Mult (.tup xs) (.int i) M Q=(xs≠ []/\1<=i/\xs.length*i.toNat<=1000000/\Q (.tup (Xj i.toNat xs).flatten) M):=rfl
theorem _pQ:wBin .Mult (.ref a) (.int i) M Q=∃xs,M a=some (.lst xs)/\ -(2^63)<=i/\i<2^63/\xs.length*i.toNat<=sizeLine/\∀p,M p=none->Q (.ref p) (updM M p (.lst (Xj i.toNat xs).flatten)):=rfl
theorem q_lt:wCmp .Lt (.int i) (.int j) M Q=Q (.bl (decide (i<j))) M:=propext ⟨fun⟨_,_,e,f,h⟩=>by cases e;cases f;exact h,λh=>⟨i,j,rfl,rfl,h⟩⟩
theorem q_le:wCmp .LtE (.int i) (.int j) M Q=Q (.bl (decide (i<=j))) M:=propext ⟨λh=>Or.elim h (fun⟨_,_,e,f,h⟩=>by cases e;cases f;exact h) (fun⟨_,_,e,_⟩=>nomatch e),λh=>Or.inl ⟨i,j,rfl,rfl,h⟩⟩
theorem _si{x y:Str}:wCmp .LtE (.str x) (.str y) M Q=Q (.bl (!decide (y.cps.toList<x.cps.toList))) M:=propext ⟨λh=>Or.elim h (fun⟨_,_,e,_⟩=>nomatch e) (fun⟨_,_,e,f,h⟩=>by cases e;cases f;exact h),λh=>Or.inr ⟨x,y,rfl,rfl,h⟩⟩
theorem q_gt:wCmp .Gt (.int i) (.int j) M Q=Q (.bl (decide (j<i))) M:=propext ⟨fun⟨_,_,e,f,h⟩=>by cases e;cases f;exact h,λh=>⟨i,j,rfl,rfl,h⟩⟩
theorem _sp:wCmp .Eq (.int i) (.int j) M Q=Q (.bl (decide (i=j))) M:=rfl
theorem _se:wCmp .NotEq (.int i) (.int j) M Q=Q (.bl (!decide (i=j))) M:=rfl
theorem _so{x y:Str}:wCmp .Eq (.str x) (.str y) M Q=Q (.bl (decide (x=y))) M:=rfl
theorem _sc{x y:Str}:wCmp .NotEq (.str x) (.str y) M Q=Q (.bl (!decide (x=y))) M:=rfl
theorem _sf{x y:Bool}:wCmp .NotEq (.bl x) (.bl y) M Q=Q (.bl (!decide (x=y))) M:=rfl
theorem q_is:wCmp .Is x .non M Q=Q (.bl (UD x)) M:=propext ⟨λh=>Or.elim h (λh=>h.2) (fun⟨_,e,_⟩=>nomatch e),λh=>Or.inl ⟨rfl,h⟩⟩
theorem _nv:wCmp .IsNot x .non M Q=Q (.bl (!UD x)) M:=propext ⟨λh=>Or.elim h (λh=>h.2) (fun⟨_,e,_⟩=>nomatch e),λh=>Or.inl ⟨rfl,h⟩⟩
theorem _sd:wCmp .NotEq (.ref a) y M Q=wEq (.ref a) y M λb=>Q (.bl (!b)) M:=rfl
theorem _sn{xs:List MV}{y:MV}:wCmp .Eq (.tup xs) y M Q=wEq (.tup xs) y M λb=>Q (.bl b) M:=rfl
theorem q_in:wCmp .In x y M Q=wIn x y M λb=>Q (.bl b) M:=rfl
theorem _sb:wCmp .NotIn x y M Q=wIn x y M λb=>Q (.bl (!b)) M:=rfl
theorem KL{k:Bool->Prop}(h:M a=some (.lst xs))(l:M b=some (.lst []))(q:k xs.isEmpty):wEq (.ref a) (.ref b) M k:=.inr (.inr (.inl ⟨a,b,xs,rfl,rfl,h,l,q⟩))
theorem _oR{xs ys:List MV}{k:Bool->Prop}(f:xs.all Y9=true)(g:ys.all Y9=true)(q:k (eqTV (xs.map toV) (ys.map toV))):wEq (.tup xs) (.tup ys) M k:=.inl ⟨xs,ys,rfl,rfl,f,g,q⟩
theorem _lS{k:Bool->Prop}(n:eqS x y=none)(h:Alike M m x y)(le:m<=60)(q:k true):wEq x y M k:=by
 unfold wEq;rw[n];exact .inr (.inl ⟨m,le,h,q⟩)
theorem Alike.flat(n:Nat)(f:Y9 x=true):Alike M n x x:=by
 cases n<;>rw[Alike]
 .exact⟨f,rfl⟩
 .exact .inl ⟨f,rfl⟩
theorem Alike.tup(e:xs.length=ys.length)(h:∀(i:Nat)u v,xs[i]?=some u->ys[i]?=some v->Alike M n u v):Alike M (n+1) (.tup xs) (.tup ys):=by
 rw[Alike];exact .inr (.inl ⟨xs,ys,rfl,rfl,e,h⟩)
def ixO(o:Option MO)(y:MV)(M:MH)(Q:QM):Prop:=match o with
 |some (.lst xs)=>∃i v,y=.int i/\atI xs i=some v/\Q v M
 |some (.dic kvs)=>∃l v,keyM y=some l/\valM kvs l=some v/\Q v M
 |some (.fdic _ kvs)=>∃l v,keyM y=some l/\valM kvs l=some v/\Q v M
 |_=>False
theorem KM:wIx (.ref a) y M Q=ixO (M a) y M Q:=propext ⟨λh=>by
  rcases h with⟨w,i,v,e,r⟩|⟨l,u,v,e,r⟩|⟨o,l,u,v,e,r⟩
  .rw[e];exact⟨i,v,r⟩
  .rw[e];exact⟨u,v,r⟩
  .rw[e];exact⟨u,v,r⟩,λh=>by
  cases e:M a with
  |none=>rw[e]at h;exact h.elim
  |some o=>
   rw[e]at h;cases o with
   |lst w=>obtain⟨i,v,r⟩:=h;exact .inl ⟨w,i,v,e,r⟩
   |dic l=>obtain⟨u,v,r⟩:=h;exact .inr (.inl ⟨l,u,v,e,r⟩)
   |ins _ _=>exact h.elim
   |fdic o l=>obtain⟨u,v,r⟩:=h;exact .inr (.inr ⟨o,l,u,v,e,r⟩)⟩
theorem KN:ixO (some (.lst xs)) (.int i) M Q=∃v,atI xs i=some v/\Q v M:=propext ⟨fun⟨_,v,e,h⟩=>by cases e;exact⟨v,h⟩,fun⟨v,h⟩=>⟨i,v,rfl,h⟩⟩
theorem _nt{l:List (Key×MV)}{x:Str}:ixO (some (.dic l)) (.str x) M Q=∃v,valM l (Xm x)=some v/\Q v M:=propext ⟨fun⟨_,v,e,h⟩=>by cases e;exact⟨v,h⟩,fun⟨v,h⟩=>⟨_,v,rfl,h⟩⟩
theorem KO:wIx (.tup xs) (.int i) M Q=∃v,atI xs i=some v/\Q v M:=propext ⟨fun⟨_,v,e,h⟩=>by cases e;exact⟨v,h⟩,fun⟨v,h⟩=>⟨i,v,rfl,h⟩⟩
theorem _sk:wIx (.frl xs) (.int i) M Q=∃v,atI xs i=some v/\Q v M:=propext ⟨fun⟨_,v,e,h⟩=>by cases e;exact⟨v,h⟩,fun⟨v,h⟩=>⟨i,v,rfl,h⟩⟩
theorem _sj:wIx (.str z) (.int i) M Q=(z.length<=sizeLine/\∃c,atI z.cps.toList i=some c/\Q (.str ⟨#[c]⟩) M):=propext ⟨fun⟨_,c,e,l,u⟩=>by cases e;exact⟨l,c,u⟩,fun⟨l,c,u⟩=>⟨i,c,rfl,l,u⟩⟩
theorem _s1{lo:Option Int}:wSl (.frl xs) lo hi M Q=∀p,M p=none->Q (.ref p) (updM M p (.lst (cutM xs lo hi))):=rfl
theorem _s0{lo:Option Int}:wSl (.tup xs) lo hi M Q=Q (.tup (cutM xs lo hi)) M:=rfl
theorem _pT:wBi .len [.tup xs] M Q=Q (.int xs.length) M:=rfl
theorem _pW:wBi .len [.frl xs] M Q=Q (.int xs.length) M:=rfl
theorem _pU:wBi .len [.str z] M Q=(z.length<=sizeLine/\Q (.int z.length) M):=rfl
noncomputable def lenO(o:Option MO)(M:MH)(Q:QM):Prop:=match o with
 |some (.lst xs)=>Q (.int xs.length) M
 |some (.dic kvs)=>Q (.int kvs.length) M
 |_=>False
theorem _pV:wBi .len [.ref a] M Q=lenO (M a) M Q:=propext ⟨λh=>by
  rcases h with⟨u,e,h⟩|⟨l,e,h⟩<;>(rw[e];exact h),λh=>by
  cases e:M a with
  |none=>rw[e]at h;exact h.elim
  |some o=>
   rw[e]at h;cases o with
   |lst u=>exact .inl ⟨u,e,h⟩
   |dic l=>exact .inr ⟨l,e,h⟩
   |ins _ _=>exact h.elim
   |fdic _ _=>exact h.elim⟩
theorem _ns:lenO (some (.lst xs)) M Q=Q (.int xs.length) M:=rfl
def isO(o:Option Ty7)(c:Ty7)(M:MH)(Q:QM):Prop:=match o with
 |some T=>c≠.none/\Q (.bl (isTy T c)) M
 |none=>False
theorem _sl:wBi .isinst [x,.ty c] M Q=isO (tyM M x) c M Q:=propext (by
 have e:wBi .isinst [x,.ty c] M Q=∃T,tyM M x=some T/\c≠.none/\Q (.bl (isTy T c)) M:=by cases x<;>rfl
 rw[e];exact⟨fun⟨T,e,h⟩=>by rw[e];exact h,λh=>by
  cases e:tyM M x with
  |none=>rw[e]at h;exact h.elim
  |some T=>rw[e]at h;exact⟨T,rfl,h⟩⟩)
def isO2(o:Option Ty7)(c d:Ty7)(M:MH)(Q:QM):Prop:=match o with
 |some T=>c≠.none/\d≠.none/\Q (.bl (isTy T c||isTy T d)) M
 |none=>False
theorem _q0:wBi .isinst [x,.tup [.ty c,.ty d]] M Q=isO2 (tyM M x) c d M Q:=propext (by
 have e:wBi .isinst [x,.tup [.ty c,.ty d]] M Q=∃T,tyM M x=some T/\c≠.none/\d≠.none/\Q (.bl (isTy T c||isTy T d)) M:=by cases x<;>rfl
 rw[e];exact⟨fun⟨T,e,h⟩=>by rw[e];exact h,λh=>by
  cases e:tyM M x with
  |none=>rw[e]at h;exact h.elim
  |some T=>rw[e]at h;exact⟨T,rfl,h⟩⟩)
theorem _nu:isO2 (some T) c d M Q=(c≠.none/\d≠.none/\Q (.bl (isTy T c||isTy T d)) M):=rfl
theorem _pZ:isO (some T) c M Q=(c≠.none/\Q (.bl (isTy T c)) M):=rfl
theorem _rO:tyM M (.int i)=some .int:=rfl
theorem _rM{k:Str}:tyM M (.str k)=some .str:=rfl
theorem _rL:tyM M (.tup xs)=some .tuple:=rfl
noncomputable def tyO:Option MO->Option Ty7
 |some (.lst _)=>some .list
 |some (.dic _)=>some .dict
 |_=>none
theorem _rN:tyM M (.ref a)=tyO (M a):=by
 cases e:M a with
 |none=>simp[tyM,tyO,e]
 |some o=>cases o<;>simp[tyM,tyO,e]
theorem _pI:tyO (some (.lst xs))=some .list:=rfl
theorem _ss:wBi .all [.ref a] M Q=∃bs:List Bool,M a=some (.lst (bs.map MV.bl))/\Q (.bl (bs.all id)) M:=rfl
theorem _nx:wBi .dictL [.ref a] M Q=∃ps:List (Key×MV),M a=some (.lst (ps.map prM))/\∀p,M p=none->Q (.ref p) (updM M p (.dic (Yj ps))):=rfl
theorem _nq:wBi .list [.tup xs] M Q=∀p,M p=none->Q (.ref p) (updM M p (.lst xs)):=rfl
theorem _nr:wBi .list [.ref a] M Q=∃xs,M a=some (.lst xs)/\∀p,M p=none->Q (.ref p) (updM M p (.lst xs)):=rfl
theorem _pJ:wBi .tuple [.ref a] M Q=∃xs,M a=some (.lst xs)/\Q (.tup xs) M:=rfl
theorem _nw:wBi .dict [.tup xs] M Q=∃ps:List (Key×MV),xs=ps.map prM/\∀p,M p=none->Q (.ref p) (updM M p (.dic (Yj ps))):=rfl
theorem _q3:wBi .dict [.ref a] M Q=∃l,M a=some (.dic l)/\∀p,M p=none->Q (.ref p) (updM M p (.dic l)):=rfl
def apO(o:Option MO)(a:Addr)(y:MV)(M:MH)(Q:QM):Prop:=match o with
 |some (.lst xs)=>xs.length<sizeLine/\Q .non (updM M a (.lst (xs++[y])))
 |_=>False
theorem _sq:wMts .append (.ref a) [y] M Q=apO (M a) a y M Q:=propext ⟨fun⟨l,e,h⟩=>by rw[e];exact h,λh=>by
  cases e:M a with
  |none=>rw[e]at h;exact h.elim
  |some o=>
   rw[e]at h;cases o with
   |lst l=>exact⟨l,e,h⟩
   |dic u=>exact h.elim
   |ins _ _=>exact h.elim
   |fdic _ _=>exact h.elim⟩
theorem _q4:apO (some (.lst xs)) a y M Q=(xs.length<sizeLine/\Q .non (updM M a (.lst (xs++[y])))):=rfl
theorem _sm:wMts .extend (.ref a) [.ref b] M Q=∃xs,M a=some (.lst xs)/\∃ys,M b=some (.lst ys)/\xs.length+ys.length<=sizeLine/\Q .non (updM M a (.lst (xs++ys))):=rfl
theorem _pN:mtOk .append x M=(∃a xs,x=.ref a/\M a=some (.lst xs)):=rfl
theorem _pM:mtOk .extend x M=(∃a xs,x=.ref a/\M a=some (.lst xs)):=rfl
def puO(o:Option MO)(a:Addr)(i v:MV)(M:MH)(Q:MH->Prop):Prop:=match o with
 |some (.lst xs)=>∃k j,i=.int k/\ixN xs.length k=some j/\Q (updM M a (.lst (xs.set j v)))
 |some (.dic kvs)=>∃l,keyM i=some l/\kvs.length<sizeLine/\Q (updM M a (.dic (putM kvs l v)))
 |_=>False
theorem _s6:wPut (.ref a) x v M R=puO (M a) a x v M R:=propext ⟨λh=>by
  rcases h with⟨w,k,j,e,r⟩|⟨l,u,e,r⟩
  .rw[e];exact⟨k,j,r⟩
  .rw[e];exact⟨u,r⟩,λh=>by
  cases e:M a with
  |none=>rw[e]at h;exact h.elim
  |some o=>
   rw[e]at h;cases o with
   |lst w=>obtain⟨k,j,r⟩:=h;exact .inl ⟨w,k,j,e,r⟩
   |dic l=>obtain⟨u,r⟩:=h;exact .inr ⟨l,u,e,r⟩
   |ins _ _=>exact h.elim
   |fdic _ _=>exact h.elim⟩
theorem _pL:puO (some (.lst xs)) a (.int i) v M R=∃j,ixN xs.length i=some j/\R (updM M a (.lst (xs.set j v))):=propext ⟨fun⟨_,j,e,h⟩=>by cases e;exact⟨j,h⟩,fun⟨j,h⟩=>⟨i,j,rfl,h⟩⟩
theorem _np:puO (some (.dic kvs)) a (.str z) v M R=(kvs.length<sizeLine/\R (updM M a (.dic (putM kvs (Xm z) v)))):=propext ⟨fun⟨_,e,h⟩=>by cases e;exact h,λh=>⟨_,rfl,h⟩⟩
noncomputable def srO(o:Option MO)(a:Addr)(M:MH)(Q:Src->MH->Prop):Prop:=match o with
 |some (.lst xs)=>Q (.lst a xs) M
 |_=>False
noncomputable def srV(v:MV)(M:MH)(Q:Src->MH->Prop):Prop:=(∃l,(v=.tup l\/v=.frl l)/\Q (.tup l) M)\/(∃a l,v=.ref a/\M a=some (.lst l)/\Q (.lst a l) M)\/False\/∃z,v=.str z/\Q (.str z) M
theorem _s3:wSr Φ (.seq e) σ M R=wE Φ e σ M λv M1=>srV v M1 R:=rfl
theorem _rZ:srV (.ref a) M R=srO (M a) a M R:=propext ⟨λh=>by
  rcases h with⟨l,e,h⟩|⟨b,l,e,f,h⟩|h|⟨z,e,_⟩
  .rcases e with e|e<;>cases e
  .cases e;rw[f];exact h
  .exact h.elim
  .exact(nomatch e),λh=>by
  cases e:M a with
  |none=>rw[e]at h;exact h.elim
  |some o=>
   rw[e]at h;cases o with
   |lst l=>exact .inr (.inl ⟨a,l,rfl,e,h⟩)
   |dic u=>exact h.elim
   |ins _ _=>exact h.elim
   |fdic _ _=>exact h.elim⟩
theorem _rY:srV (.str z) M R=R (.str z) M:=propext ⟨λh=>by
  rcases h with⟨l,e,h⟩|⟨_,_,e,_⟩|h|⟨_,e,h⟩
  .rcases e with e|e<;>exact(nomatch e)
  .exact(nomatch e)
  .exact h.elim
  .cases e;exact h,λh=>.inr (.inr (.inr ⟨z,rfl,h⟩))⟩
theorem _rR:Src.thaw M (.tup xs)=M:=rfl
theorem _rQ:Src.thaw M (.lst a xs)=M:=rfl
theorem _rP:Src.thaw M (.rng i n)=M:=rfl
theorem _sa:Src.okT M (.tup xs)=True:=rfl
theorem _s9:Src.okT M (.lst a xs)=True:=rfl
theorem _s8:Src.okT M (.rng i n)=True:=rfl
theorem _pK:srO (some (.lst xs)) a M R=R (.lst a xs) M:=rfl
theorem _rX:srV (.tup zs) M R=R (.tup zs) M:=propext ⟨λh=>by
  rcases h with⟨l,e,h⟩|h
  .rcases e with e|e
   .cases e;exact h
   .exact nomatch e
  .rcases h with⟨_,_,e,_⟩|h|⟨_,e,_⟩<;>first|exact h.elim|exact(nomatch e),λh=>.inl ⟨zs,.inl rfl,h⟩⟩
noncomputable def rgV(v:MV)(M:MH)(Q:Src->MH->Prop):Prop:=∃j,v=.int j/\ -(2^62)<=j/\j<2^62/\Q (.rng 0 j.toNat) M
theorem _s4:wSr Φ (.rng e) σ M R=wE Φ e σ M λv M1=>rgV v M1 R:=rfl
theorem _s5:rgV (.int i) M R=(-(2^62)<=i/\i<2^62/\R (.rng 0 i.toNat) M):=propext ⟨fun⟨_,e,h⟩=>by cases e;exact h,λh=>⟨i,rfl,h⟩⟩
theorem _pS:wBi .max [.int i,.int j] M Q=Q (.int (if j>i then j else i)) M:=rfl
theorem _pR:wBi .min [.int i,.int j] M Q=Q (.int (if j<i then j else i)) M:=rfl
theorem _q1{k:Bool}:wBi .int [.bl k] M Q=Q (.int (if k then 1 else 0)) M:=rfl
end
theorem v_s{k:MV->Prop}:onV (some (some v)) k=k v:=rfl
theorem b_0{k:Bool->Prop}:onB (.bl b) k=k b:=rfl
theorem f_s{k:SpM->Prop}:onF (some (f,sp)) k=k sp:=rfl
theorem _sN:wE Φ (.var i) σ M Q=onV σ[i]? (λv=>Q v M):=rfl
theorem _sU:wE Φ (.int i) σ M Q=(Q (.int i) M):=rfl
theorem _sP:wE Φ (.str x) σ M Q=(Q (.str x) M):=rfl
theorem e_bl:wE Φ (.bl b) σ M Q=(Q (.bl b) M):=rfl
theorem _sR:wE Φ (.non) σ M Q=(Q .non M):=rfl
theorem _sW:wE Φ (.glb x i) σ M Q=(Q (.int i) M):=rfl
theorem e_ty:wE Φ (.ty c) σ M Q=(Q (.ty c) M):=rfl
theorem _t1:wE Φ (.bin op a b) σ M Q=(wE Φ a σ M λx M1=>wE Φ b σ M1 λy M2=>wBin op x y M2 Q):=rfl
theorem _sS:wE Φ (.neg a) σ M Q=(wE Φ a σ M λx M1=>∃i,x=.int i/\Q (.int (-i)) M1):=rfl
theorem _sQ:wE Φ (.not a) σ M Q=(wE Φ a σ M λx M1=>onB x λb=>Q (.bl (!b)) M1):=rfl
theorem _sZ:wE Φ (.cmp op a b) σ M Q=(wE Φ a σ M λx M1=>wE Φ b σ M1 λy M2=>wCmp op x y M2 Q):=rfl
theorem _t0:wE Φ (.chn op op' a b c) σ M Q=(wE Φ a σ M λx M1=>wE Φ b σ M1 λy M2=>wCmp op x y M2 λz j=>onB z λk=>(if k=true then wE Φ c σ j λw l=>wCmp op' y w l Q else Q (.bl false) j)):=rfl
theorem _t2:wE Φ (.and a b) σ M Q=(wE Φ a σ M λx M1=>onB x λc=>(if c=true then wE Φ b σ M1 Q else Q (.bl false) M1)):=rfl
theorem e_or:wE Φ (.or a b) σ M Q=(wE Φ a σ M λx M1=>onB x λc=>(if c=true then Q (.bl true) M1 else wE Φ b σ M1 Q)):=rfl
theorem _sV:wE Φ (.ife c a b) σ M Q=(wE Φ c σ M λx M1=>onB x λk=>(if k=true then wE Φ a σ M1 Q else wE Φ b σ M1 Q)):=rfl
theorem _sO:wE Φ (.tup es) σ M Q=(wEs Φ es σ M λvs M1=>vs.length<=sizeLine/\Q (.tup vs) M1):=rfl
theorem _sT:wE Φ (.lst es) σ M Q=(wEs Φ es σ M λvs M1=>vs.length<=sizeLine/\∀p,M1 p=none->Q (.ref p) (updM M1 p (.lst vs))):=rfl
theorem _sY{Φ:List (Str×SpM)}{j:Sm}{M:MH}{Q:QM}:wE Φ (.dic) j M Q=(∀p,M p=none->Q (.ref p) (updM M p (.dic []))):=rfl
theorem e_ix:wE Φ (.ix a b) σ M Q=(wE Φ a σ M λx M1=>wE Φ b σ M1 λy M2=>wIx x y M2 Q):=rfl
theorem e_sl{lo:IO}:wE Φ (.sl a lo hi) σ M Q=(wE Φ a σ M λx M1=>wO Φ lo σ M1 λl M2=>wO Φ hi σ M2 λh j=>wSl x l h j Q):=rfl
theorem _r8:wE Φ (.call j e es) σ M Q=(wE Φ e σ M λv M1=>wEs Φ es σ M1 λvs M2=>onF Φ[j]? λsp=>sp (v::vs) M2 Q):=rfl
theorem e_b2:wE Φ (.b2 f e) σ M Q=(wE Φ e σ M λv M1=>wB2 f v M1 Q):=rfl
theorem e_bi:wE Φ (.bi f e es) σ M Q=(wE Φ e σ M λv M1=>wEs Φ es σ M1 λvs M2=>wBi f (v::vs) M2 Q):=rfl
theorem e_mt:wE Φ (.mt m o es) σ M Q=(wE Φ o σ M λx M1=>mtOk m x M1/\wEs Φ es σ M1 λvs M2=>wMts m x vs M2 Q):=rfl
theorem _sX:wE Φ (.fld c o f) σ M Q=(wE Φ o σ M λx M1=>∃a fs v,x=.ref a/\M1 a=some (.ins c fs)/\valM fs f=some v/\Q v M1):=rfl
theorem _oS:wE Φ (.mcall j c m o es) σ M Q=(wE Φ o σ M λx M1=>∃a fs,x=.ref a/\M1 a=some (.ins c fs)/\valM fs m=none/\wEs Φ es σ M1 λvs M2=>∃f sp,Φ[j]?=some (f,sp)/\sp (.ref a::vs) M2 Q):=rfl
theorem _r6:wE Φ (.make j c e es) σ M Q=(wE Φ e σ M λv M1=>wEs Φ es σ M1 λvs M2=>∃f sp,Φ[j]?=some (f,sp)/\∀p,M2 p=none->sp (.ref p::v::vs) (updM M2 p (.ins c [])) λu l=>u=.non/\Q (.ref p) l):=rfl
theorem _r7{Φ:List (Str×SpM)}{j:Sm}{M:MH}{Q:QM}{ps:IPs}:wE Φ (.disp ps) j M Q=(∀p,M p=none->wPs Φ ps j (updM M p (.dic [])) λl M2=>M2 p=some (.dic [])/\l.length<=15/\Q (.ref p) (updM M2 p (.dic (Yj l)))):=rfl
theorem Dd{own:List Str}{fr:List Nat}:wE Φ (.comp own fr src tg test elt) σ M Q=(wSr Φ src σ M λS M1=>S.len<sizeLine/\∀D,M1 D=none->∃J:Nat->List MV->MH->Prop,J 0 [] (updM M1 D (.lst []))/\
   (∀i ys M2,J i ys M2->M2 D=some (.lst ys)/\ys.length<=i/\S.ok M2)/\
   (∀i x ys M2,S.items[i]?=some x->J i ys M2->wTg tg x (sCm own fr σ) λj=>wI Φ test j M2 λb l=>
    if b=true then wE Φ elt j l λy u=>u D=some (.lst ys)/\J (i+1) (ys++[y]) (updM u D (.lst (ys++[y])))else J (i+1) ys l)/\
   ∀ys M2,J S.len ys M2->Q (.ref D) (S.thaw M2)):=rfl
theorem De{M M':MH}{S:Src}(h:S.okF M):S.thaw M'=M':=by
 cases S<;>first|rfl|exact h.elim
theorem _N{own:List Str}{fr:List Nat}{p:Type}(xs:List p)(f g:p->MV)
  (O:wSr Φ src σ M λS M1=>S.items=xs.map f/\xs.length<sizeLine/\S.okF M1/\M1=M)
  (P:∀x∈xs,∀M',(∀a o,M a=some o->M' a=some o)->wTg tg (f x) (sCm own fr σ) λl=>wE Φ elt l M' λy M2=>y=g x/\M2=M')
  (u:∀(j:Nat)f sp,Φ[j]?=some (f,sp)->MonW sp)(q:∀D,M D=none->Q (.ref D) (updM M D (.lst (xs.map g)))):wE Φ (.comp own fr src tg .none elt) σ M Q:=by
 rw[Dd];refine mon_sr u src (λS M1 ⟨L,R,w,T⟩=>?_) O;subst T;have N:S.len=xs.length:=by rw[<-S.items_len,L,Xb]
 refine⟨by rw[N];exact R,λD m=>⟨λi d M2=>M2=updM M1 D (.lst d)/\d=(xs.take i).map g,⟨rfl,by simp⟩,?_,?_,?_⟩⟩
 .rintro i d M2 ⟨rfl,rfl⟩;refine⟨Xa,by rw[Xb,Yf];lia,?_⟩
  cases S with
  |tup _=>trivial
  |rng _ _=>trivial
  |str _=>trivial
  |lst a U=>
   have:a≠D:=by intro e;subst e;have w:M1 a=some (.lst U):=w;rw[w]at m;cases m
   show updM M1 D _ a=_;rw[X8 this];exact w
 .rintro i x d M2 c ⟨rfl,rfl⟩;rw[L]at c;have r:i<xs.length:=by have:=(XE.mp c).1;rw[Xb]at this;exact this
  rw[Xr,X7 r]at c;cases c;refine V5 tg (λl h=>?_) (P xs[i] (XQ r) (updM M1 D (.lst ((xs.take i).map g))) (λa o e=>by
   rw[X8 (by intro z;subst z;rw[e]at m;cases m)];exact e))
  rw[wI,if_pos rfl];refine Xc u elt (λy M2 ⟨W,Y⟩=>?_) h;subst W Y;refine⟨Xa,YK,?_⟩;rw[Zk,X7 r,XX]
  rfl
 .rintro d M2 ⟨rfl,rfl⟩;rw[N,UR (Xf _),De w];exact q D m
theorem _kb{own:List Str}{fr:List Nat}{O:Type}(xs:List O)(f g:O->MV)
  (Z:wSr Φ src σ M λS M1=>S.items=xs.map f/\xs.length<sizeLine/\S.okF M1/\∀a o,M a=some o->M1 a=some o)
  (A:∀x∈xs,∀M',(∀a o,M a=some o->M' a=some o)->wTg tg (f x) (sCm own fr σ) λm=>wE Φ elt m M' λy M2=>y=g x/\∀a o,M' a=some o->M2 a=some o)
  (d:∀(j:Nat)f sp,Φ[j]?=some (f,sp)->MonW sp)(q:∀D M',M D=none->(∀a o,M a=some o->M' a=some o)->M' D=some (.lst (xs.map g))->Q (.ref D) M'):wE Φ (.comp own fr src tg .none elt) σ M Q:=by
 rw[Dd];refine mon_sr d src (λS M1 ⟨P,B,R,p⟩=>?_) Z;have T:S.len=xs.length:=by rw[<-S.items_len,P,Xb]
 have L:∀D,M1 D=none->M D=none:=λD l=>by
  cases e:M D with
  |none=>rfl
  |some o=>rw[p _ _ e]at l;cases l
 have U:∀{a D:Addr} {o:MO},M1 a=some o->M1 D=none->a≠D:=λh W z=>by subst z;rw[h]at W;cases W
 refine⟨by rw[T];exact B,λD l=>⟨λi c M2=>(∀a o,M1 a=some o->M2 a=some o)/\M2 D=some (.lst c)/\c=(xs.take i).map g,⟨λa o e=>by rw[X8 (U e l)];exact e,Xa,by simp⟩,?_,?_,?_⟩⟩
 .rintro i c M2 ⟨u,w,rfl⟩;refine⟨w,by rw[Xb,Yf];lia,?_⟩
  cases S with
  |tup _=>trivial
  |rng _ _=>trivial
  |str _=>trivial
  |lst a E=>exact u _ _ R
 .rintro i x c M2 r ⟨u,w,rfl⟩;rw[P]at r;have N:i<xs.length:=by have:=(XE.mp r).1;rw[Xb]at this;exact this
  rw[Xr,X7 N]at r;cases r;refine V5 tg (λm h=>?_) (A xs[i] (XQ N) M2 (λa o e=>u _ _ (p _ _ e)));rw[wI,if_pos rfl];refine Xc d elt (λy F ⟨C,Y⟩=>?_) h;subst C;refine⟨Y _ _ w,λa o e=>by rw[X8 (U e l)];exact Y _ _ (u _ _ e),Xa,?_⟩
  rw[Zk,X7 N,XX]
  rfl
 .rintro c M2 ⟨u,w,rfl⟩;rw[T,UR (Xf _)]at w;rw[De R];exact q D M2 (L D l) (λa o e=>u _ _ (p _ _ e)) w
theorem _rV:wTg (.nm i) v σ R=R (σ.set i (some v)):=rfl
theorem _rS:wTg (.tup ts) (.tup xs) σ R=wTgs ts xs σ R:=by
 exact propext ⟨fun⟨_,e,h⟩=>by cases e;exact h,λh=>⟨_,rfl,h⟩⟩
theorem _rU{t:ITg}:wTgs (.cons t ts) (v::r) σ R=wTg t v σ λj=>wTgs ts r j R:=by
 exact propext ⟨fun⟨_,_,e,h⟩=>by cases e;exact h,λh=>⟨_,_,rfl,h⟩⟩
theorem _rT:wTgs .nil [] σ R=R σ:=propext ⟨λh=>h.2,λh=>⟨rfl,h⟩⟩
section
variable{M:MH}
theorem Alike.tupFlat{xs:List MV}(n:Nat)(f:xs.all Y9=true):Alike M (n+1) (.tup xs) (.tup xs):=
 .tup rfl λi u v e j=>by
  rw[e]at j;cases j;exact .flat n (US.mp f u (Xu e))
theorem _i8{xs:List MV}{k:Bool->Prop}(f:xs.all Y9=true)(q:k true):wEq (.tup xs) (.tup xs) M k:=_lS rfl (.tupFlat 0 f) (by decide) q
end
section
variable{Φ:List (Str×SpM)}{D:EndM}{σ:Sm}{M:MH}
theorem _rC:wSs Φ .nil D σ M=D.nx σ M:=rfl
theorem _pB:wSs Φ (.cons s r) D σ M=wS Φ s {nx:=λσ M=>wSs Φ r D σ M,rt:=D.rt,ct:=D.ct} σ M:=rfl
theorem _rF:wS Φ .cnt D σ M=D.ct σ M:=rfl
theorem _rA:wS Φ (.ret e) D σ M=wE Φ e σ M D.rt:=rfl
theorem _rz:wS Φ (.set i e) D σ M=wE Φ e σ M λv M1=>D.nx (σ.set i (some v)) M1:=rfl
theorem _rG{t:ITgs}:wS Φ (.asg t e) D σ M=wE Φ e σ M λv M1=>∃xs,v=.tup xs/\wTgs t xs σ λj=>D.nx j M1:=rfl
theorem _rB:wS Φ (.put o i e) D σ M=wE Φ e σ M λv M1=>wE Φ o σ M1 λx M2=>wE Φ i σ M2 λy j=>wPut x y v j λl=>D.nx σ l:=rfl
theorem _pz:wS Φ (.fset c o f e) D σ M=wE Φ e σ M λv M1=>wE Φ o σ M1 λx M2=>∃a fs,x=.ref a/\M2 a=some (.ins c fs)/\fs.length<1000/\D.nx σ (updM M2 a (.ins c (putM fs f v))):=rfl
theorem _pA:wS Φ (.expr e) D σ M=wE Φ e σ M λ_ M1=>D.nx σ M1:=rfl
theorem _rD:wS Φ (.ite c a b) D σ M=wE Φ c σ M λx M1=>onB x λk=>(if k=true then wSs Φ a D σ M1 else wSs Φ b D σ M1):=rfl
theorem _rE{t:ITg}:wS Φ (.for_ t s b) D σ M=wSr Φ s σ M λS M1=>∃J:Nat->Sm->MH->Prop,J 0 σ M1/\(∀i σ M,J i σ M->S.ok M)/\
   (∀i x σ M,S.items[i]?=some x->J i σ M->wTg t x σ λj=>wSs Φ b {nx:=J (i+1),rt:=λv M=>S.okT M/\D.rt v (S.thaw M),ct:=J (i+1)} j M)/\∀σ M,J S.len σ M->D.nx σ (S.thaw M):=rfl
theorem _nl:wS Φ (.while_ c b) D σ M=∃J:Nat->Sm->MH->Prop,(∃m,J m σ M)/\∀m σ M,J m σ M->wE Φ c σ M λx M1=>∃k,x=.bl k/\
   (if k=true then wSs Φ b {nx:=λj M'=>∃l,l<m/\J l j M',rt:=D.rt,ct:=λj M'=>∃l,l<m/\J l j M'} σ M1 else D.nx σ M1):=rfl
theorem _qD:wO Φ .none σ M Q=Q none M:=rfl
theorem _qC:wO Φ (.some e) σ M Q=wE Φ e σ M λv M1=>∃i,v=.int i/\Q (some i) M1:=rfl
theorem _r5:wEs Φ .nil σ M Q=Q [] M:=rfl
theorem _oQ:wEs Φ (.cons e es) σ M Q=wE Φ e σ M λv M1=>wEs Φ es σ M1 λvs M2=>Q (v::vs) M2:=rfl
theorem _qa{Q:List (Key×MV)->MH->Prop}:wPs Φ .nil σ M Q=Q [] M:=rfl
theorem _nA{k v:IE}{r:IPs}{Q:List (Key×MV)->MH->Prop}:wPs Φ (.cons k v r) σ M Q=wE Φ k σ M λx M1=>∃j,keyM x=some j/\wE Φ v σ M1 λy M2=>wPs Φ r σ M2 λl u=>Q ((j,y)::l) u:=rfl
end
section
variable{Φ:List (Str×SpM)}{σ σ':Sm}{M M':MH}{Q:QM}{x x' y y' z z':MV}{o o':Option MO}{vs vs':List MV}
end
end L2
namespace My
open PySem L2
noncomputable def top(i:Nat):Stmt:=PySem.Challenge.pw_bellferry_k53_when_an_island_waits.main.body.getD i (.Pass ⟨0,0,0,0⟩)
abbrev A4:Stmt:=top 13
abbrev A5:Stmt:=top 14
abbrev A6:Stmt:=top 15
abbrev A7:Stmt:=top 16
abbrev A8:Stmt:=top 17
abbrev A9:Stmt:=top 18
abbrev Aa:Stmt:=top 20
abbrev Ac:Stmt:=top 21
abbrev Ad:Stmt:=top 23
abbrev Ae:Stmt:=top 24
abbrev Af:Stmt:=top 25
abbrev Ag:Stmt:=top 26
abbrev Ah:Stmt:=top 27
abbrev Ai:Stmt:=top 28
abbrev Aj:Stmt:=YS (top 30) 0
abbrev Ak:Stmt:=YS (top 30) 1
abbrev Al:Stmt:=YS (top 30) 2
abbrev Am:Stmt:=YS (top 30) 3
abbrev An:Stmt:=YS (top 30) 4
abbrev Ao:Stmt:=YS (top 31) 0
abbrev Ap:Stmt:=YS (top 31) 1
abbrev Aq:Stmt:=YS (top 31) 2
abbrev Ar:Stmt:=top 33
abbrev As:Stmt:=top 34
abbrev At:Stmt:=top 35
abbrev Au:Stmt:=top 36
abbrev Av:Stmt:=top 37
abbrev Aw:Stmt:=top 38
abbrev Ax:Stmt:=top 40
abbrev Ay:Stmt:=top 41
abbrev Az:Stmt:=top 42
abbrev AA:Stmt:=top 43
abbrev AB:Stmt:=top 54
abbrev AC:Stmt:=top 55
abbrev AD:Stmt:=top 56
abbrev AE:Stmt:=top 57
abbrev AF:Stmt:=top 58
abbrev AG:Stmt:=top 59
abbrev AH:Stmt:=top 60
abbrev AI:Stmt:=top 61
abbrev AJ:Stmt:=top 62
abbrev AK:Stmt:=top 63
abbrev AL:Stmt:=top 64
abbrev AM:Stmt:=top 65
abbrev AN:Stmt:=top 66
abbrev AO:Stmt:=top 67
abbrev AQ:Stmt:=top 68
abbrev AR:Stmt:=top 69
abbrev AS:Stmt:=top 72
abbrev AT:Stmt:=top 73
abbrev AU:Stmt:=top 74
abbrev AV:Stmt:=YS (top 75) 0
abbrev AW:Stmt:=YS (top 75) 1
abbrev AX:Stmt:=YS (top 75) 2
abbrev AY:Stmt:=YS (top 75) 3
abbrev AZ:Stmt:=YS (top 75) 4
abbrev B0:Stmt:=YS (top 75) 7
abbrev B1:Stmt:=YS (top 75) 8
abbrev B3:Stmt:=top 77
abbrev B4:Stmt:=top 79
abbrev B5:Stmt:=top 80
abbrev B6:Stmt:=top 81
abbrev B7:Stmt:=top 82
abbrev B8:Stmt:=top 83
abbrev B9:Stmt:=top 84
abbrev Ba:Stmt:=top 85
abbrev Bb:Stmt:=top 86
abbrev Bc:Stmt:=top 87
set_option genInjectivity false in
set_option genSizeOf false in
structure Adr where
 fR:Addr
 dX:Xd
 iH:Addr
 cZ:Xd
 dM:Addr
 fJ:Xd
 ee:Addr
 dk:Xd
 dw:Addr
 gG:Xd
 iy:Addr
 eC:Xd
 dz:Addr
 fP:Xd
 iI:Addr
 hG:Xd
 fW:Addr
 dl:Xd
 fB:Addr
 dF:Xd
 df:Addr
 fL:Xd
 fV:Addr
 gX:Xd
 dD:Addr
 gP:Xd
 fA:Addr
 eL:Xd
 aT:Addr
 bp:Xd
 cv:Addr
 br:Xd
 bA:Addr
 bc:Xd
 bm:Addr
 bE:Xd
 bd:Addr
 bH:Xd
 aU:Addr
 cq:Xd
 bP:Addr
 bV:Xd
 bj:Addr
 bB:Xd
 fX:Addr
 ef:Xd
 gJ:Addr
 ip:Xd
 cL:Addr
 fN:Xd
 fZ:Addr
 dr:Xd
 cJ:Addr
 fH:Xd
 gH:Addr
 gC:Xd
 fc:Addr
 gI:Xd
 ij:Addr
 eh:Xd
 gq:Addr
 dh:Xd
 cH:Addr
 cY:Xd
 dG:Addr
 eD:Xd
 i0:Addr
 d0:Xd
 cx:Addr
 b9:Xd
 gY:Addr
 cT:Xd
 fj:Addr
 eP:Xd
 fM:Addr
 gZ:Xd
 gF:Addr
 ff:Xd
 fi:Addr
 ik:Xd
 fz:Addr
 iJ:Xd
 iA:Addr
 iq:Xd
 fk:Addr
 eU:Xd
 dU:Addr
 eX:Xd
 fK:Addr
 dB:Xd
 il:Addr
 gT:Xd
 fh:Addr
 gQ:Xd
 gK:Addr
 dH:Xd
 i9:Addr
 gL:Xd
 cV:Addr
 eY:Xd
 gE:Addr
 eE:Xd
 aS:Addr
 c9:Xd
 cf:Addr
 bR:Xd
 ca:Addr
 ce:Xd
 cb:Addr
 bO:Xd
 c7:Addr
 bQ:Xd
 cu:Addr
 bX:Xd
 bK:Addr
 bI:Xd
 gh:Addr
 cE:Xd
 cI:Addr
 cX:Xd
 cK:Addr
 cy:Xd
 dq:Addr
 fY:Xd
 gM:Addr
 eZ:Xd
 dm:Addr
 fu:Xd
 cM:Addr
 dY:Xd
 e9:Addr
 ga:Xd
 gU:Addr
 fT:Xd
 de:Addr
 em:Xd
 aj:Addr
 aq:Addr
 aa:Addr
structure Txt (K:X4)(mg:Str->Option X0)(t:Adr):Prop where
 aW:FnT K mg "is_whole" ["value"] A4 t.fR t.dX
 aG:FnT K mg "is_width" ["number"] A5 t.iH t.cZ
 aB:FnT K mg "two_to" ["exponent"] A6 t.dM t.fJ
 bS:FnT K mg "fits" ["width","number"] A7 t.ee t.dk
 aE:FnT K mg "cut" ["width","number"] A8 t.dw t.gG
 bU:FnT K mg "amid" ["old","new","choice"] A9 t.iy t.eC
 aV:FnT K mg "code_of" ["n"] Aa t.dz t.fP
 bo:FnT K mg "number_of" ["word"] Ac t.iI t.hG
 aQ:FnT K mg "first_sign" ["word"] Ad t.fW t.dl
 aY:FnT K mg "shown" ["sign","word","moment"] Ae t.fB t.dF
 bg:FnT K mg "first_sight" ["word","stages"] Af t.df t.fL
 aR:FnT K mg "sampled" ["sign","since","choice"] Ag t.fV t.gX
 bC:FnT K mg "moved" ["sight","word"] Ah t.dD t.gP
 bW:FnT K mg "used" ["sight"] Ai t.fA t.eL
 eO:Fun K "__init__" "Side.__init__" Aj t.aT t.bp
 di:Binds K t.bp ["self","turn","stages"] []
 iM:Meth K t.aj "__init__" t.aT
 cS:Fun K "ring_ahead" "Side.ring_ahead" Ak t.cv t.br
 aZ:Binds K t.br ["self"] []
 cr:Meth K t.aj "ring_ahead" t.cv
 gc:Fun K "less_the_seen" "Side.less_the_seen" Al t.bA t.bc
 bL:Binds K t.bc ["self"] []
 bu:Meth K t.aj "less_the_seen" t.bA
 dc:Fun K "grow" "Side.grow" Am t.bm t.bE
 b7:Binds K t.bE ["self"] []
 cj:Meth K t.aj "grow" t.bm
 gB:Fun K "show_and_see" "Side.show_and_see" An t.bd t.bH
 bN:Binds K t.bH ["self","moment","choice","other_sign"] []
 be:Meth K t.aj "show_and_see" t.bd
 fq:Fun K "__init__" "Ferry.__init__" Ao t.aU t.cq
 cO:Binds K t.cq ["self","k","stages"] []
 iO:Meth K t.aq "__init__" t.aU
 cB:Fun K "ring_giver" "Ferry.ring_giver" Ap t.bP t.bV
 ge:Binds K t.bV ["self","moment","choice","word"] []
 hZ:Meth K t.aq "ring_giver" t.bP
 fO:Fun K "ring_taker" "Ferry.ring_taker" Aq t.bj t.bB
 dZ:Binds K t.bB ["self","moment","choice","wished"] []
 dW:Meth K t.aq "ring_taker" t.bj
 aw:FnT K mg "parts_within" ["T"] Ar t.fX t.ef
 ax:FnT K mg "size_of" ["T"] As t.gJ t.ip
 ay:FnT K mg "names_read" ["T"] At t.cL t.fN
 aI:FnT K mg "vars_in" ["T"] Au t.fZ t.dr
 aP:FnT K mg "worth_of_two" ["form","left","right","width"] Av t.cJ t.fH
 ai:FnT K mg "worth" ["T","width","words"] Aw t.gH t.gC
 bD:FnT K mg "wish" ["width","steps","number","words"] Ax t.fc t.gI
 aN:FnT K mg "number_after" ["width","steps","number","words"] Ay t.ij t.eh
 aF:FnT K mg "words_after" ["width","step","words","word"] Az t.gq t.dh
 bn:FnT K mg "after" ["width","steps","number","words","word"] AA t.cH t.cY
 cm:FnT K mg "is_name" ["text"] AB t.dG t.eD
 aM:FnT K mg "refuse_name" ["text","earlier"] AC t.i0 t.d0
 ao:FnT K mg "refuse_unknown" ["name","known"] AD t.cx t.b9
 aO:FnT K mg "refuse_ferry_names" ["ferries"] AE t.gY t.cT
 bJ:FnT K mg "refuse_variables" ["width","pairs"] AF t.fj t.eP
 bf:FnT K mg "refuse_term" ["T","known"] AG t.fM t.gZ
 c8:FnT K mg "refuse_step" ["step","known","count","ferry_names"] AH t.gF t.ff
 b0:FnT K mg "refuse_island" ["width","island","ferry_names"] AI t.fi t.ik
 aJ:FnT K mg "refuse_islands" ["width","islands","ferry_names"] AJ t.fz t.iJ
 aL:FnT K mg "refuse_ferry" ["ferry","island_names"] AK t.iA t.iq
 bF:FnT K mg "refuse_wrong_end" ["name","step","givers","takers"] AL t.fk t.eU
 aK:FnT K mg "refuse_wrong_ends" ["islands","ferries"] AM t.dU t.eX
 am:FnT K mg "frozen" ["value"] AN t.fK t.dB
 ck:FnT K mg "made" ["width","islands","ferries"] AO t.il t.gT
 bZ:FnT K mg "one_called" ["row","name"] AQ t.fh t.gQ
 bw:FnT K mg "island_of" ["world","name"] AR t.gK t.dH
 bz:FnT K mg "what_alone" ["asked"] AS t.i9 t.gL
 bh:FnT K mg "is_wish_of" ["asked","ferry_name"] AT t.cV t.eY
 aH:FnT K mg "looked_up" ["named","name"] AU t.gE t.eE
 eB:Fun K "__init__" "Run.__init__" AV t.aS t.c9
 iw:Binds K t.c9 ["self","world"] []
 iN:Meth K t.aa "__init__" t.aS
 dL:Fun K "ring" "Run.ring" AW t.cf t.bR
 fS:Binds K t.bR ["self","name","choice"] []
 dt:Meth K t.aa "ring" t.cf
 iD:Fun K "ring_ferry" "Run.ring_ferry" AX t.ca t.ce
 gR:Binds K t.ce ["self","ferry","name","choice","asked"] []
 cU:Meth K t.aa "ring_ferry" t.ca
 cF:Fun K "go_on" "Run.go_on" AY t.cb t.bO
 fI:Binds K t.bO ["self","name","steps","word"] []
 gA:Meth K t.aa "go_on" t.cb
 fU:Fun K "number" "Run.number" AZ t.c7 t.bQ
 iE:Binds K t.bQ ["self","name"] []
 gW:Meth K t.aa "number" t.c7
 gS:Fun K "given" "Run.given" B0 t.cu t.bX
 iF:Binds K t.bX ["self","name"] []
 dC:Meth K t.aa "given" t.cu
 dO:Fun K "taken" "Run.taken" B1 t.bK t.bI
 cA:Binds K t.bI ["self","name"] []
 gg:Meth K t.aa "taken" t.bK
 ci:FnT K mg "_law_cell_at" ["script","k"] B3 t.gh t.cE
 aX:FnT K mg "_law_name" ["number","k"] B4 t.cI t.cX
 b8:FnT K mg "_law_term" ["number","names"] B5 t.cK t.cy
 bq:FnT K mg "_law_step" ["number","name","names","ferries","many"] B6 t.dq t.fY
 bY:FnT K mg "_law_island" ["number","k","naming","ferries","around"] B7 t.gM t.eZ
 bv:FnT K mg "_law_things" ["script","around"] B8 t.dm t.fu
 bM:FnT K mg "_law_rings" ["cells","islands"] B9 t.cM t.dY
 cw:FnT K mg "_law_number" ["word"] Ba t.e9 t.ga
 bG:FnT K mg "_law_used" ["samples","stages"] Bb t.gU t.fT
 dJ:FnT K mg "law" ["script"] Bc t.de t.em
 ae:XA K Xp "Side"=some (some (.ref t.aj))
 fQ:mg "Side"=some (.ref t.aj)
 ak:Cls K t.aj
 eW:Mk K t.aj t.aT
 gz:NoAttr K t.aj "turn"
 dy:NoAttr K t.aj "total"
 dA:NoAttr K t.aj "sign"
 dQ:NoAttr K t.aj "sight"
 aA:XA K Xp "Ferry"=some (some (.ref t.aq))
 cN:mg "Ferry"=some (.ref t.aq)
 aC:Cls K t.aq
 cQ:Mk K t.aq t.aU
 iG:NoAttr K t.aq "places"
 iB:NoAttr K t.aq "giver"
 gN:NoAttr K t.aq "taker"
 ab:XA K Xp "Run"=some (some (.ref t.aa))
 dE:mg "Run"=some (.ref t.aa)
 ac:Cls K t.aa
 ii:Mk K t.aa t.aS
 fF:NoAttr K t.aa "world"
 ft:NoAttr K t.aa "moment"
 iz:NoAttr K t.aa "next_numbers"
 cP:NoAttr K t.aa "words_now"
 iK:NoAttr K t.aa "steps_so_far"
 du:NoAttr K t.aa "boats"
 cD:NoAttr K t.aa "given_so_far"
 iu:NoAttr K t.aa "taken_so_far"
 cR:mg "all"=none
 fD:mg "bool"=none
 dS:mg "dict"=none
 iL:mg "int"=none
 iC:mg "isinstance"=none
 dR:mg "len"=none
 cC:mg "list"=none
 dj:mg "max"=none
 dP:mg "min"=none
 dI:mg "range"=none
 fv:mg "set"=none
 hV:mg "sorted"=none
 cW:mg "tuple"=none
 eQ:∃tk,mg "MOST_WIDTH"=some (.int 64 tk)
 eG:∃tk,mg "MOST_LETTERS"=some (.int 8 tk)
 fw:∃tk,mg "MOST_ISLANDS"=some (.int 5 tk)
 cG:∃tk,mg "MOST_FERRIES"=some (.int 6 tk)
 gk:∃tk,mg "MOST_VARS"=some (.int 6 tk)
 eJ:∃tk,mg "MOST_STEPS"=some (.int 12 tk)
 gD:∃tk,mg "MOST_PARTS"=some (.int 30 tk)
 gO:∃tk,mg "MOST_DEPTH"=some (.int 8 tk)
 fG:∃tk,mg "MOST_K"=some (.int 3 tk)
 i8:∃tk,mg "MOST_STAGES"=some (.int 3 tk)
 ic:∃tk,mg "BITS_A_FERRY"=some (.int 8 tk)
theorem _g0:FnScope ["value"] ["value"] (X5 A4):=mkSc
theorem _fZ:FnScope ["number"] ["number"] (X5 A5):=mkSc
theorem _iM:FnScope ["exponent","answer","k"] ["exponent"] (X5 A6):=mkSc
theorem _nj:FnScope ["width","number"] ["width","number"] (X5 A7):=mkSc
theorem _py:FnScope ["width","number"] ["width","number"] (X5 A8):=mkSc
theorem _nk:FnScope ["old","new","choice"] ["old","new","choice"] (X5 A9):=mkSc
theorem _hJ:FnScope ["n"] ["n"] (X5 Aa):=mkSc
theorem _eu:FnScope ["word","n","above"] ["word"] (X5 Ac):=mkSc
theorem _dF:FnScope ["word"] ["word"] (X5 Ad):=mkSc
theorem _l0:FnScope ["sign","word","moment"] ["sign","word","moment"] (X5 Ae):=mkSc
theorem _cq:FnScope ["word","stages"] ["word","stages"] (X5 Af):=mkSc
theorem _hH:FnScope ["sign","since","choice"] ["sign","since","choice"] (X5 Ag):=mkSc
theorem _l1:FnScope ["sight","word"] ["sight","word"] (X5 Ah):=mkSc
theorem _nh:FnScope ["sight"] ["sight"] (X5 Ai):=mkSc
theorem _aK:FnScope ["self","turn","stages"] ["self","turn","stages"] (X5 Aj):=mkSc
theorem _8n:FnScope ["self"] ["self"] (X5 Ak):=mkSc
theorem _5w:FnScope ["self"] ["self"] (X5 Al):=mkSc
theorem _eC:FnScope ["self"] ["self"] (X5 Am):=mkSc
theorem _6R:FnScope ["self","moment","choice","other_sign","seen"] ["self","moment","choice","other_sign"] (X5 An):=mkSc
theorem _9l:FnScope ["self","k","stages"] ["self","k","stages"] (X5 Ao):=mkSc
theorem _7X:FnScope ["self","moment","choice","word","words","gives"] ["self","moment","choice","word"] (X5 Ap):=mkSc
theorem _7W:FnScope ["self","moment","choice","wished","word","place"] ["self","moment","choice","wished"] (X5 Aq):=mkSc
theorem _bd:FnScope ["T"] ["T"] (X5 Ar):=mkSc
theorem _hG:FnScope ["T","parts","deepest","part","size"] ["T"] (X5 As):=mkSc
theorem _dD:FnScope ["T","names","part"] ["T"] (X5 At):=mkSc
theorem _hF:FnScope ["T"] ["T"] (X5 Au):=mkSc
theorem _bb:FnScope ["form","left","right","width"] ["form","left","right","width"] (X5 Av):=mkSc
theorem _kZ:FnScope ["T","width","words","first"] ["T","width","words"] (X5 Aw):=mkSc
theorem _ng:FnScope ["width","steps","number","words","step"] ["width","steps","number","words"] (X5 Ax):=mkSc
theorem _be:FnScope ["width","steps","number","words","step"] ["width","steps","number","words"] (X5 Ay):=mkSc
theorem _cm:FnScope ["width","step","words","word","behind"] ["width","step","words","word"] (X5 Az):=mkSc
theorem _l2:FnScope ["width","steps","number","words","word"] ["width","steps","number","words","word"] (X5 AA):=mkSc
theorem _hI:FnScope ["text"] ["text"] (X5 AB):=mkSc
theorem _cp:FnScope ["text","earlier"] ["text","earlier"] (X5 AC):=mkSc
theorem KP:FnScope ["name","known"] ["name","known"] (X5 AD):=mkSc
theorem _5v:FnScope ["ferries","earlier","ferry"] ["ferries"] (X5 AE):=mkSc
theorem _7V:FnScope ["width","pairs","earlier","pair","name"] ["width","pairs"] (X5 AF):=mkSc
theorem _cn:FnScope ["T","known","size","name"] ["T","known"] (X5 AG):=mkSc
theorem _co:FnScope ["step","known","count","ferry_names"] ["step","known","count","ferry_names"] (X5 AH):=mkSc
theorem _aJ:FnScope ["width","island","ferry_names","known","step"] ["width","island","ferry_names"] (X5 AI):=mkSc
theorem _9j:FnScope ["width","islands","ferry_names","earlier","island"] ["width","islands","ferry_names"] (X5 AJ):=mkSc
theorem _bc:FnScope ["ferry","island_names"] ["ferry","island_names"] (X5 AK):=mkSc
theorem _7U:FnScope ["name","step","givers","takers"] ["name","step","givers","takers"] (X5 AL):=mkSc
theorem _6Q:FnScope ["islands","ferries","givers","takers","island","step"] ["islands","ferries"] (X5 AM):=mkSc
theorem KQ:FnScope ["value"] ["value"] (X5 AN):=mkSc
theorem _ni:FnScope ["width","islands","ferries","island_names","ferry"] ["width","islands","ferries"] (X5 AO):=mkSc
theorem _dC:FnScope ["row","name","one"] ["row","name"] (X5 AQ):=mkSc
theorem _ew:FnScope ["world","name"] ["world","name"] (X5 AR):=mkSc
theorem _dB:FnScope ["asked"] ["asked"] (X5 AS):=mkSc
theorem _dE:FnScope ["asked","ferry_name"] ["asked","ferry_name"] (X5 AT):=mkSc
theorem _ev:FnScope ["named","name"] ["named","name"] (X5 AU):=mkSc
theorem _bg:FnScope ["self","world"] ["self","world"] (X5 AV):=mkSc
theorem _g1:FnScope ["self","name","choice","steps","number","asked","what","samples","j","ferry","told"] ["self","name","choice"] (X5 AW):=mkSc
theorem _9k:FnScope ["self","ferry","name","choice","asked","boat","wished","told"] ["self","ferry","name","choice","asked"] (X5 AX):=mkSc
theorem _eE:FnScope ["self","name","steps","word","went"] ["self","name","steps","word"] (X5 AY):=mkSc
theorem _dH:FnScope ["self","name"] ["self","name"] (X5 AZ):=mkSc
theorem _eF:FnScope ["self","name"] ["self","name"] (X5 B0):=mkSc
theorem _eD:FnScope ["self","name"] ["self","name"] (X5 B1):=mkSc
theorem _bf:FnScope ["script","k"] ["script","k"] (X5 B3):=mkSc
theorem _eB:FnScope ["number","k","letters","fill","other","long","at","sign"] ["number","k"] (X5 B4):=mkSc
theorem _ez:FnScope ["number","names","one","other"] ["number","names"] (X5 B5):=mkSc
theorem _eA:FnScope ["number","name","names","ferries","many","takes","gives","rest"] ["number","name","names","ferries","many"] (X5 B6):=mkSc
theorem _ct:FnScope ["number","k","naming","ferries","around","name","names","pairs","many","ending","steps","j"] ["number","k","naming","ferries","around"] (X5 B7):=mkSc
theorem _cr:FnScope ["script","around","head","naming","width","many","ferries","k","number","giver","taker","ends","islands"] ["script","around"] (X5 B8):=mkSc
theorem _dG:FnScope ["cells","islands","rings","cell"] ["cells","islands"] (X5 B9):=mkSc
theorem _cs:FnScope ["word","number"] ["word"] (X5 Ba):=mkSc
theorem _ey:FnScope ["samples","stages"] ["samples","stages"] (X5 Bb):=mkSc
theorem _px:FnScope ["script","width","islands","ferries","run","samples","ferry","name","choice","steps","number","counts","two","event","seen","far","edge","late","word"] ["script"] (X5 Bc):=mkSc
noncomputable def GB:List Str:=["all","bool","dict","int","isinstance","len","list","max","min","range","set","sorted","tuple"]
noncomputable def GL:List (Str×Int):=[("MOST_WIDTH",64),("MOST_LETTERS",8),("MOST_ISLANDS",5),("MOST_FERRIES",6),("MOST_VARS",6),("MOST_STEPS",12),("MOST_PARTS",30),("MOST_DEPTH",8),("MOST_K",3),("MOST_STAGES",3),("BITS_A_FERRY",8)]
theorem _O{K:X4}{mg:Str->Option X0}{t:Adr}(T:Txt K mg t):∀x∈GB,mg x=none:=(fMc ⟨T.cR,(fMc ⟨T.fD,(fMc ⟨T.dS,(fMc ⟨T.iL,(fMc ⟨T.iC,(fMc ⟨T.dR,(fMc ⟨T.cC,(fMc ⟨T.dj,(fMc ⟨T.dP,(fMc ⟨T.dI,(fMc ⟨T.fv,(fMc ⟨T.hV,(fMc ⟨T.cW,nl0⟩)⟩)⟩)⟩)⟩)⟩)⟩)⟩)⟩)⟩)⟩)⟩)⟩)
theorem _P{K:X4}{mg:Str->Option X0}{t:Adr}(T:Txt K mg t):∀p∈GL,∃tk,mg p.1=some (.int p.2 tk):=(fMc ⟨T.eQ,(fMc ⟨T.eG,(fMc ⟨T.fw,(fMc ⟨T.cG,(fMc ⟨T.gk,(fMc ⟨T.eJ,(fMc ⟨T.gD,(fMc ⟨T.gO,(fMc ⟨T.fG,(fMc ⟨T.i8,(fMc ⟨T.ic,nl0⟩)⟩)⟩)⟩)⟩)⟩)⟩)⟩)⟩)⟩)⟩)
noncomputable def GC:List (Str×Str):=[("Side","turn"),("Side","total"),("Side","sign"),("Side","sight"),("Ferry","places"),("Ferry","giver"),("Ferry","taker"),("Run","world"),("Run","moment"),("Run","next_numbers"),("Run","words_now"),("Run","steps_so_far"),("Run","boats"),("Run","given_so_far"),("Run","taken_so_far")]
theorem _Q{K:X4}{mg:Str->Option X0}{t:Adr}(T:Txt K mg t):∀q∈GC,∃C,XA K Xp q.1=some (some (.ref C))/\Cls K C/\NoAttr K C q.2:=(fMc ⟨⟨_,T.ae,T.ak,T.gz⟩,(fMc ⟨⟨_,T.ae,T.ak,T.dy⟩,(fMc ⟨⟨_,T.ae,T.ak,T.dA⟩,(fMc ⟨⟨_,T.ae,T.ak,T.dQ⟩,(fMc ⟨⟨_,T.aA,T.aC,T.iG⟩,(fMc ⟨⟨_,T.aA,T.aC,T.iB⟩,(fMc ⟨⟨_,T.aA,T.aC,T.gN⟩,(fMc ⟨⟨_,T.ab,T.ac,T.fF⟩,(fMc ⟨⟨_,T.ab,T.ac,T.ft⟩,(fMc ⟨⟨_,T.ab,T.ac,T.iz⟩,(fMc ⟨⟨_,T.ab,T.ac,T.cP⟩,(fMc ⟨⟨_,T.ab,T.ac,T.iK⟩,(fMc ⟨⟨_,T.ab,T.ac,T.du⟩,(fMc ⟨⟨_,T.ab,T.ac,T.cD⟩,(fMc ⟨⟨_,T.ab,T.ac,T.iu⟩,nl0⟩)⟩)⟩)⟩)⟩)⟩)⟩)⟩)⟩)⟩)⟩)⟩)⟩)⟩)⟩)
theorem fE{P:Xw}{w:Xn}{K:X4}{mg:Str->Option X0}{base:Heap}{x:Str}{ps:List Str}{st:Stmt}{f:Addr}{d:Xd}(h:FnT K mg x ps st f d){j k:Nat}{sp:SpM}(o:FnOk P w K mg base CX0 j f d ps (liSp K sp))(l:j<=k:=by decide):∃u y ps,FnOk P w K mg base CX0 k u y ps (liSp K sp)/\mg x=some (.ref u)/\YQ K (.ref u)=true/\Binds K y ps []:=⟨_,_,_,o.mono l,h.m,h.F.kp,h.b⟩
theorem fC{P:Xw}{w:Xn}{K:X4}{mg:Str->Option X0}{base:Heap}{t:Adr}(T:Txt K mg t){k:Nat}{G:GI}{Φ:List (Str×SpM)}(e:Φ.map (·.1)=G.fns)(u:∀p∈Φ,MonW p.2)(y:∀p∈Φ,∃j l ps,FnOk P w K mg base CX0 k j l ps (liSp K p.2)/\mg p.1=some (.ref j)/\YQ K (.ref j)=true/\Binds K l ps [])
  (b:G.bl=GB:=by rfl)(g:G.gl=GL:=by rfl)(c:G.cls=GC:=by rfl)(m:G.mts=[]:=by rfl)(n:G.mks=[]:=by rfl):Fts P w K mg base k G Φ:=
 _M (Vu Φ) (b▸_O T) (g▸_P T) e u y (by rw[m];exact λ_ h=>nomatch h) (by rw[n];exact λ_ h=>nomatch h) (c▸_Q T)
noncomputable def KR:ISs:=.cons (.ret (.and (.bi .isinst (.var 0) (.cons (.ty .int) .nil)) (.not (.bi .isinst (.var 0) (.cons (.ty .bool) .nil))))) .nil
abbrev F1:ISs:=KR
def KS:GI:=⟨GB,GL,[],[],[],GC⟩
theorem _gA:chkSs KS (X5 A4) ["value"] F1 (Xi A4)=true:=by decide+kernel
noncomputable def KU:ISs:=.cons (.ret (.and (.call 0 (.var 0) .nil) (.chn .LtE .LtE (.int 1) (.var 0) (.glb "MOST_WIDTH" 64)))) .nil
abbrev F2:ISs:=KU
def KW:GI:=⟨GB,GL,["is_whole"],[],[],GC⟩
theorem _gz:chkSs KW (X5 A5) ["number"] F2 (Xi A5)=true:=by decide+kernel
noncomputable def KY:ISs:=.cons (.ret (.var 1)) .nil
noncomputable def KZ:ISs:=.cons (.set 1 (.bin .Mult (.var 1) (.int 2))) .nil
def L0:ISs:=.cons (.for_ (.nm 2) (.rng (.var 0)) KZ) KY
def L1:ISs:=.cons (.set 1 (.int 1)) L0
abbrev F3:ISs:=L1
def L3:GI:=⟨GB,GL,[],[],[],GC⟩
theorem _ke:chkSs L3 (X5 A6) ["exponent","answer","k"] F3 (Xi A6)=true:=by decide+kernel
noncomputable def L4:ISs:=.cons (.ret (.and (.call 0 (.var 1) .nil) (.chn .LtE .Lt (.int 0) (.var 1) (.call 1 (.var 0) .nil)))) .nil
abbrev F4:ISs:=L4
def L5:GI:=⟨GB,GL,["is_whole","two_to"],[],[],GC⟩
theorem _oY:chkSs L5 (X5 A7) ["width","number"] F4 (Xi A7)=true:=by decide+kernel
noncomputable def L6:ISs:=.cons (.ret (.bin .Mod (.var 1) (.call 0 (.var 0) .nil))) .nil
abbrev F5:ISs:=L6
def L7:GI:=⟨GB,GL,["two_to"],[],[],GC⟩
theorem _rd:chkSs L7 (X5 A8) ["width","number"] F5 (Xi A8)=true:=by decide+kernel
noncomputable def L8:ISs:=.cons (.ret (.bin .BitXor (.var 0) (.bin .BitAnd (.bin .BitXor (.var 0) (.var 1)) (.var 2)))) .nil
abbrev F6:ISs:=L8
def L9:GI:=⟨GB,GL,[],[],[],GC⟩
theorem _oZ:chkSs L9 (X5 A9) ["old","new","choice"] F6 (Xi A9)=true:=by decide+kernel
noncomputable def La:ISs:=.cons (.ret (.bin .BitXor (.var 0) (.bin .FloorDiv (.var 0) (.int 2)))) .nil
abbrev F7:ISs:=La
def Lb:GI:=⟨GB,GL,[],[],[],GC⟩
theorem _if:chkSs Lb (X5 Aa) ["n"] F7 (Xi Aa)=true:=by decide+kernel
noncomputable def Lc:ISs:=.cons (.ret (.var 1)) .nil
noncomputable def Ld:ISs:=.cons (.set 2 (.bin .FloorDiv (.var 2) (.int 2))) .nil
def Lf:ISs:=.cons (.set 1 (.bin .BitXor (.var 1) (.var 2))) Ld
def Lg:ISs:=.cons (.while_ (.cmp .Gt (.var 2) (.int 0)) Lf) Lc
def Lh:ISs:=.cons (.set 2 (.bin .FloorDiv (.var 0) (.int 2))) Lg
def Li:ISs:=.cons (.set 1 (.var 0)) Lh
abbrev F8:ISs:=Li
def Lj:GI:=⟨GB,GL,[],[],[],GC⟩
theorem _fr:chkSs Lj (X5 Ac) ["word","n","above"] F8 (Xi Ac)=true:=by decide+kernel
noncomputable def Lk:ISs:=.cons (.ret (.tup (.cons (.var 0) (.cons (.var 0) (.cons (.neg (.int 1)) .nil))))) .nil
abbrev F9:ISs:=Lk
def Ll:GI:=⟨GB,GL,[],[],[],GC⟩
theorem _ec:chkSs Ll (X5 Ad) ["word"] F9 (Xi Ad)=true:=by decide+kernel
noncomputable def Lm:ISs:=.cons (.ret (.tup (.cons (.var 1) (.cons (.ix (.var 0) (.int 0)) (.cons (.var 2) .nil))))) .nil
abbrev Fa:ISs:=Lm
def Ln:GI:=⟨GB,GL,[],[],[],GC⟩
theorem _lX:chkSs Ln (X5 Ae) ["sign","word","moment"] Fa (Xi Ae)=true:=by decide+kernel
noncomputable def Lo:ISs:=.cons (.ret (.bin .Mult (.tup (.cons (.var 0) .nil)) (.var 1))) .nil
abbrev Fb:ISs:=Lo
def Lp:GI:=⟨GB,GL,[],[],[],GC⟩
theorem _cO:chkSs Lp (X5 Af) ["word","stages"] Fb (Xi Af)=true:=by decide+kernel
noncomputable def Lq:ISs:=.cons (.ret (.ix (.var 0) (.int 0))) .nil
noncomputable def Lr:ISs:=.cons (.ret (.call 0 (.ix (.var 0) (.int 1)) (.cons (.ix (.var 0) (.int 0)) (.cons (.var 2) .nil)))) .nil
def Ls:ISs:=.cons (.ite (.cmp .Gt (.ix (.var 0) (.int 2)) (.var 1)) Lr .nil) Lq
abbrev Fc:ISs:=Ls
def Lu:GI:=⟨GB,GL,["amid"],[],[],GC⟩
theorem _id:chkSs Lu (X5 Ag) ["sign","since","choice"] Fc (Xi Ag)=true:=by decide+kernel
noncomputable def Lv:ISs:=.cons (.ret (.sl (.bin .Add (.tup (.cons (.var 1) .nil)) (.var 0)) .none (.some (.neg (.int 1))))) .nil
abbrev Fd:ISs:=Lv
def Lw:GI:=⟨GB,GL,[],[],[],GC⟩
theorem _lY:chkSs Lw (X5 Ah) ["sight","word"] Fd (Xi Ah)=true:=by decide+kernel
noncomputable def Lx:ISs:=.cons (.ret (.ix (.var 0) (.neg (.int 1)))) .nil
abbrev Fe:ISs:=Lx
def Ly:GI:=⟨GB,GL,[],[],[],GC⟩
theorem _oW:chkSs Ly (X5 Ai) ["sight"] Fe (Xi Ai)=true:=by decide+kernel
noncomputable def Lz:ISs:=.cons (.fset "Side" (.var 0) "sight" (.call 1 (.call 0 (.int 0) .nil) (.cons (.var 2) .nil))) .nil
def LA:ISs:=.cons (.fset "Side" (.var 0) "sign" (.call 2 (.call 0 (.int 0) .nil) .nil)) Lz
def LB:ISs:=.cons (.fset "Side" (.var 0) "total" (.int 0)) LA
def LC:ISs:=.cons (.fset "Side" (.var 0) "turn" (.var 1)) LB
abbrev Ff:ISs:=LC
def LD:GI:=⟨GB,GL,["code_of","first_sight","first_sign"],[],[],GC⟩
theorem _aV:chkSs LD (X5 Aj) ["self","turn","stages"] Ff (Xi Aj)=true:=by decide+kernel
noncomputable def LF:ISs:=.cons (.ret (.ix (.fld "Side" (.var 0) "sign") (.int 2))) .nil
abbrev Fg:ISs:=LF
def LG:GI:=⟨GB,GL,[],[],[],GC⟩
theorem _95:chkSs LG (X5 Ak) ["self"] Fg (Xi Ak)=true:=by decide+kernel
noncomputable def LH:ISs:=.cons (.ret (.bin .Mod (.bin .Sub (.fld "Side" (.var 0) "total") (.call 0 (.call 1 (.fld "Side" (.var 0) "sight") .nil) .nil)) (.fld "Side" (.var 0) "turn"))) .nil
abbrev Fh:ISs:=LH
def LI:GI:=⟨GB,GL,["number_of","used"],[],[],GC⟩
theorem _6C:chkSs LI (X5 Al) ["self"] Fh (Xi Al)=true:=by decide+kernel
noncomputable def LJ:ISs:=.cons (.fset "Side" (.var 0) "total" (.bin .Add (.fld "Side" (.var 0) "total") (.int 1))) .nil
abbrev Fi:ISs:=LJ
def LK:GI:=⟨GB,GL,[],[],[],GC⟩
theorem _fz:chkSs LK (X5 Am) ["self"] Fi (Xi Am)=true:=by decide+kernel
noncomputable def LL:ISs:=.cons (.ret (.var 4)) .nil
def LM:ISs:=.cons (.fset "Side" (.var 0) "sight" (.call 1 (.fld "Side" (.var 0) "sight") (.cons (.var 4) .nil))) LL
def LN:ISs:=.cons (.fset "Side" (.var 0) "sign" (.call 3 (.fld "Side" (.var 0) "sign") (.cons (.call 0 (.bin .Mod (.fld "Side" (.var 0) "total") (.fld "Side" (.var 0) "turn")) .nil) (.cons (.var 1) .nil)))) LM
def LO:ISs:=.cons (.set 4 (.call 2 (.var 3) (.cons (.mcall 4 "Side" "ring_ahead" (.var 0) .nil) (.cons (.var 2) .nil)))) LN
abbrev Fj:ISs:=LO
def LP:GI:=⟨GB,GL,["code_of","moved","sampled","shown"],[(4,"Side","ring_ahead")],[],GC⟩
theorem _6X:chkSs LP (X5 An) ["self","moment","choice","other_sign","seen"] Fj (Xi An)=true:=by decide+kernel
noncomputable def LQ:ISs:=.cons (.fset "Ferry" (.var 0) "taker" (.make 2 "Side" (.call 1 (.bin .Add (.var 1) (.int 1)) .nil) (.cons (.var 2) .nil))) .nil
def LR:ISs:=.cons (.fset "Ferry" (.var 0) "giver" (.make 2 "Side" (.call 1 (.bin .Add (.var 1) (.int 1)) .nil) (.cons (.var 2) .nil))) LQ
def LS:ISs:=.cons (.fset "Ferry" (.var 0) "places" (.bin .Mult (.lst (.cons (.call 0 (.int 0) .nil) .nil)) (.call 1 (.var 1) .nil))) LR
abbrev Fk:ISs:=LS
def LU:GI:=⟨GB,GL,["first_sign","two_to"],[],[(2,"Side")],GC⟩
theorem _9E:chkSs LU (X5 Ao) ["self","k","stages"] Fk (Xi Ao)=true:=by decide+kernel
noncomputable def LV:ISs:=.cons (.ret (.tup (.cons (.var 5) (.cons (.mcall 3 "Side" "show_and_see" (.fld "Ferry" (.var 0) "giver") (.cons (.var 1) (.cons (.var 2) (.cons (.fld "Side" (.fld "Ferry" (.var 0) "taker") "sign") .nil)))) .nil)))) .nil
def Fl:ISs:=.cons (.fset "Ferry" (.var 0) "places" (.comp ["k"] [1,4,0] (.rng (.bi .len (.var 4) .nil)) (.nm 0) .none (.call 0 (.ix (.fld "Ferry" (.var 3) "places") (.var 0)) (.cons (.ix (.var 2) (.var 0)) (.cons (.var 1) .nil))))) LV
noncomputable def LW:ISs:=.cons (.expr (.mcall 1 "Side" "grow" (.fld "Ferry" (.var 0) "giver") .nil)) .nil
def LX:ISs:=.cons (.put (.var 4) (.bin .Mod (.fld "Side" (.fld "Ferry" (.var 0) "giver") "total") (.bi .len (.var 4) .nil)) (.var 3)) LW
def Fm:ISs:=.cons (.ite (.var 5) LX .nil) Fl
def LY:ISs:=.cons (.set 5 (.and (.cmp .IsNot (.var 3) .non) (.cmp .Lt (.mcall 2 "Side" "less_the_seen" (.fld "Ferry" (.var 0) "giver") .nil) (.bi .len (.var 4) .nil)))) Fm
def LZ:ISs:=.cons (.set 4 (.comp ["place"] [] (.seq (.fld "Ferry" (.var 0) "places")) (.nm 0) .none (.ix (.var 0) (.int 0)))) LY
abbrev Fn:ISs:=LZ
def Mh:GI:=⟨GB,GL,["shown"],[(1,"Side","grow"),(2,"Side","less_the_seen"),(3,"Side","show_and_see")],[],GC⟩
theorem _8h:chkSs Mh (X5 Ap) ["self","moment","choice","word","words","gives"] Fn (Xi Ap)=true:=by decide+kernel
noncomputable def Fo:ISs:=.cons (.ret (.tup (.cons (.var 4) (.cons (.mcall 4 "Side" "show_and_see" (.fld "Ferry" (.var 0) "taker") (.cons (.var 1) (.cons (.var 2) (.cons (.fld "Side" (.fld "Ferry" (.var 0) "giver") "sign") .nil)))) .nil)))) .nil
noncomputable def Mj:ISs:=.cons (.expr (.mcall 1 "Side" "grow" (.fld "Ferry" (.var 0) "taker") .nil)) .nil
def Mm:ISs:=.cons (.set 4 (.call 0 (.var 5) (.cons (.mcall 3 "Side" "ring_ahead" (.fld "Ferry" (.var 0) "taker") .nil) (.cons (.var 2) .nil)))) Mj
def Mn:ISs:=.cons (.set 5 (.ix (.fld "Ferry" (.var 0) "places") (.bin .Mod (.fld "Side" (.fld "Ferry" (.var 0) "taker") "total") (.bi .len (.fld "Ferry" (.var 0) "places") .nil)))) Mm
def Mo:ISs:=.cons (.ite (.and (.var 3) (.cmp .NotEq (.mcall 2 "Side" "less_the_seen" (.fld "Ferry" (.var 0) "taker") .nil) (.int 0))) Mn .nil) Fo
def Mp:ISs:=.cons (.set 4 .non) Mo
abbrev Fp:ISs:=Mp
def Mq:GI:=⟨GB,GL,["sampled"],[(1,"Side","grow"),(2,"Side","less_the_seen"),(3,"Side","ring_ahead"),(4,"Side","show_and_see")],[],GC⟩
theorem _8g:chkSs Mq (X5 Aq) ["self","moment","choice","wished","word","place"] Fp (Xi Aq)=true:=by decide+kernel
noncomputable def Fq:ISs:=.cons (.ret (.bi .list (.sl (.var 0) (.some (.int 1)) .none) .nil)) .nil
noncomputable def Ft:ISs:=.cons (.ret (.lst .nil)) .nil
def Mr:ISs:=.cons (.ite (.or (.cmp .Eq (.ix (.var 0) (.int 0)) (.str "num")) (.cmp .Eq (.ix (.var 0) (.int 0)) (.str "var"))) Ft .nil) Fq
abbrev Fu:ISs:=Mr
def Ms:GI:=⟨GB,GL,[],[],[],GC⟩
theorem _c3:chkSs Ms (X5 Ar) ["T"] Fu (Xi Ar)=true:=by decide+kernel
noncomputable def Mv:ISs:=.cons (.ret (.tup (.cons (.var 1) (.cons (.bin .Add (.var 2) (.int 1)) .nil)))) .nil
noncomputable def Mw:ISs:=.cons (.set 2 (.bi .max (.var 2) (.cons (.ix (.var 4) (.int 1)) .nil))) .nil
def Mz:ISs:=.cons (.set 1 (.bin .Add (.var 1) (.ix (.var 4) (.int 0)))) Mw
def MA:ISs:=.cons (.set 4 (.call 1 (.var 3) .nil)) Mz
def MB:ISs:=.cons (.for_ (.nm 3) (.seq (.call 0 (.var 0) .nil)) MA) Mv
def MC:ISs:=.cons (.set 2 (.int 0)) MB
def MD:ISs:=.cons (.set 1 (.int 1)) MC
abbrev Fv:ISs:=MD
def ME:GI:=⟨GB,GL,["parts_within","size_of"],[],[],GC⟩
theorem _ic:chkSs ME (X5 As) ["T","parts","deepest","part","size"] Fv (Xi As)=true:=by decide+kernel
noncomputable def MF:ISs:=.cons (.ret (.var 1)) .nil
noncomputable def MG:ISs:=.cons (.expr (.mt .extend (.var 1) (.cons (.call 0 (.var 2) .nil) .nil))) .nil
def MI:ISs:=.cons (.for_ (.nm 2) (.seq (.call 1 (.var 0) .nil)) MG) MF
def Fw:ISs:=.cons (.set 1 (.lst .nil)) MI
noncomputable def MJ:ISs:=.cons (.ret (.lst (.cons (.ix (.var 0) (.int 1)) .nil))) .nil
def MK:ISs:=.cons (.ite (.cmp .Eq (.ix (.var 0) (.int 0)) (.str "var")) MJ .nil) Fw
abbrev Fy:ISs:=MK
def ML:GI:=⟨GB,GL,["names_read","parts_within"],[],[],GC⟩
theorem _ea:chkSs ML (X5 At) ["T","names","part"] Fy (Xi At)=true:=by decide+kernel
noncomputable def MM:ISs:=.cons (.ret (.b2 .ssrt (.call 0 (.var 0) .nil))) .nil
abbrev Fz:ISs:=MM
def MN:GI:=⟨GB,GL,["names_read"],[],[],GC⟩
theorem _ib:chkSs MN (X5 Au) ["T"] Fz (Xi Au)=true:=by decide+kernel
noncomputable def MP:ISs:=.cons (.ret (.ife (.cmp .Eq (.var 1) (.var 2)) (.int 1) (.int 0))) .nil
noncomputable def MQ:ISs:=.cons (.ret (.ife (.cmp .Lt (.var 1) (.var 2)) (.int 1) (.int 0))) .nil
def FA:ISs:=.cons (.ite (.cmp .Eq (.var 0) (.str "less")) MQ .nil) MP
noncomputable def MR:ISs:=.cons (.ret (.call 0 (.var 3) (.cons (.bin .Mult (.var 1) (.var 2)) .nil))) .nil
def Df:ISs:=.cons (.ite (.cmp .Eq (.var 0) (.str "times")) MR .nil) FA
noncomputable def MS:ISs:=.cons (.ret (.call 0 (.var 3) (.cons (.bin .Sub (.var 1) (.var 2)) .nil))) .nil
def Bd:ISs:=.cons (.ite (.cmp .Eq (.var 0) (.str "minus")) MS .nil) Df
noncomputable def MU:ISs:=.cons (.ret (.call 0 (.var 3) (.cons (.bin .Add (.var 1) (.var 2)) .nil))) .nil
def MW:ISs:=.cons (.ite (.cmp .Eq (.var 0) (.str "plus")) MU .nil) Bd
abbrev FB:ISs:=MW
def MX:GI:=⟨GB,GL,["cut"],[],[],GC⟩
theorem _c1:chkSs MX (X5 Av) ["form","left","right","width"] FB (Xi Av)=true:=by decide+kernel
noncomputable def MY:ISs:=.cons (.ret (.call 2 (.ix (.var 0) (.int 0)) (.cons (.var 3) (.cons (.call 1 (.ix (.var 0) (.int 2)) (.cons (.var 1) (.cons (.var 2) .nil))) (.cons (.var 1) .nil))))) .nil
noncomputable def MZ:ISs:=.cons (.ret (.call 1 (.ife (.cmp .NotEq (.var 3) (.int 0)) (.ix (.var 0) (.int 2)) (.ix (.var 0) (.int 3))) (.cons (.var 1) (.cons (.var 2) .nil)))) .nil
def FC:ISs:=.cons (.ite (.cmp .Eq (.ix (.var 0) (.int 0)) (.str "pick")) MZ .nil) MY
def FD:ISs:=.cons (.set 3 (.call 1 (.ix (.var 0) (.int 1)) (.cons (.var 1) (.cons (.var 2) .nil)))) FC
noncomputable def N0:ISs:=.cons (.ret (.ix (.var 2) (.ix (.var 0) (.int 1)))) .nil
def Dh:ISs:=.cons (.ite (.cmp .Eq (.ix (.var 0) (.int 0)) (.str "var")) N0 .nil) FD
noncomputable def N1:ISs:=.cons (.ret (.call 0 (.var 1) (.cons (.ix (.var 0) (.int 1)) .nil))) .nil
def N2:ISs:=.cons (.ite (.cmp .Eq (.ix (.var 0) (.int 0)) (.str "num")) N1 .nil) Dh
abbrev FE:ISs:=N2
def N3:GI:=⟨GB,GL,["cut","worth","worth_of_two"],[],[],GC⟩
theorem _lW:chkSs N3 (X5 Aw) ["T","width","words","first"] FE (Xi Aw)=true:=by decide+kernel
noncomputable def FF:ISs:=.cons (.ret (.tup (.cons (.str "own") .nil))) .nil
noncomputable def N4:ISs:=.cons (.ret (.tup (.cons (.str "give") (.cons (.ix (.var 4) (.int 1)) (.cons (.call 0 (.ix (.var 4) (.int 2)) (.cons (.var 0) (.cons (.var 3) .nil))) .nil))))) .nil
def Di:ISs:=.cons (.ite (.cmp .Eq (.ix (.var 4) (.int 0)) (.str "give")) N4 .nil) FF
noncomputable def N5:ISs:=.cons (.ret (.tup (.cons (.str "take") (.cons (.ix (.var 4) (.int 1)) .nil)))) .nil
def FG:ISs:=.cons (.ite (.cmp .Eq (.ix (.var 4) (.int 0)) (.str "take")) N5 .nil) Di
def FH:ISs:=.cons (.set 4 (.ix (.var 1) (.var 2))) FG
noncomputable def FI:ISs:=.cons (.ret .non) .nil
def N6:ISs:=.cons (.ite (.cmp .Eq (.var 2) (.bi .len (.var 1) .nil)) FI .nil) FH
abbrev FJ:ISs:=N6
def N7:GI:=⟨GB,GL,["worth"],[],[],GC⟩
theorem _oV:chkSs N7 (X5 Ax) ["width","steps","number","words","step"] FJ (Xi Ax)=true:=by decide+kernel
noncomputable def Be:ISs:=.cons (.ret (.bin .Add (.var 2) (.int 1))) .nil
noncomputable def N8:ISs:=.cons (.ret (.ix (.var 4) (.int 2))) .nil
def N9:ISs:=.cons (.ite (.and (.cmp .Eq (.ix (.var 4) (.int 0)) (.str "jump")) (.cmp .NotEq (.call 0 (.ix (.var 4) (.int 1)) (.cons (.var 0) (.cons (.var 3) .nil))) (.int 0))) N8 .nil) Be
def Na:ISs:=.cons (.set 4 (.ix (.var 1) (.var 2))) N9
abbrev FK:ISs:=Na
def Nb:GI:=⟨GB,GL,["worth"],[],[],GC⟩
theorem _c4:chkSs Nb (X5 Ay) ["width","steps","number","words","step"] FK (Xi Ay)=true:=by decide+kernel
noncomputable def Bf:ISs:=.cons (.ret (.var 4)) .nil
noncomputable def Nc:ISs:=.cons (.put (.var 4) (.ix (.var 1) (.int 1)) (.call 0 (.ix (.var 1) (.int 2)) (.cons (.var 0) (.cons (.var 2) .nil)))) .nil
def Bg:ISs:=.cons (.ite (.cmp .Eq (.ix (.var 1) (.int 0)) (.str "put")) Nc .nil) Bf
noncomputable def Nd:ISs:=.cons (.put (.var 4) (.ix (.var 1) (.int 2)) (.var 3)) .nil
def Nf:ISs:=.cons (.ite (.cmp .Eq (.ix (.var 1) (.int 0)) (.str "take")) Nd .nil) Bg
def Nh:ISs:=.cons (.set 4 (.bi .dict (.var 2) .nil)) Nf
abbrev FL:ISs:=Nh
def Ni:GI:=⟨GB,GL,["worth"],[],[],GC⟩
theorem _cK:chkSs Ni (X5 Az) ["width","step","words","word","behind"] FL (Xi Az)=true:=by decide+kernel
noncomputable def Nj:ISs:=.cons (.ret (.tup (.cons (.call 0 (.var 0) (.cons (.var 1) (.cons (.var 2) (.cons (.var 3) .nil)))) (.cons (.call 1 (.var 0) (.cons (.ix (.var 1) (.var 2)) (.cons (.var 3) (.cons (.var 4) .nil)))) .nil)))) .nil
abbrev FM:ISs:=Nj
def Nk:GI:=⟨GB,GL,["number_after","words_after"],[],[],GC⟩
theorem _lZ:chkSs Nk (X5 AA) ["width","steps","number","words","word"] FM (Xi AA)=true:=by decide+kernel
noncomputable def Nm:ISs:=.cons (.ret (.and (.chn .LtE .LtE (.int 1) (.bi .len (.var 0) .nil) (.glb "MOST_LETTERS" 8)) (.bi .all (.comp ["sign"] [] (.seq (.var 0)) (.nm 0) .none (.chn .LtE .LtE (.str "a") (.var 0) (.str "z"))) .nil))) .nil
abbrev FN:ISs:=Nm
def Nn:GI:=⟨GB,GL,[],[],[],GC⟩
theorem _ie:chkSs Nn (X5 AB) ["text"] FN (Xi AB)=true:=by decide+kernel
noncomputable def ZcF:ISs:=.cons .never .nil
def No:ISs:=.cons (.ite (.cmp .In (.var 0) (.var 1)) ZcF .nil) .nil
noncomputable def ZcG:ISs:=.cons .never .nil
def Np:ISs:=.cons (.ite (.not (.call 0 (.var 0) .nil)) ZcG .nil) No
abbrev FO:ISs:=Np
def Nq:GI:=⟨GB,GL,["is_name"],[],[],GC⟩
theorem _cN:chkSs Nq (X5 AC) ["text","earlier"] FO (Xi AC)=true:=by decide+kernel
noncomputable def Z9t:ISs:=.cons .never .nil
def FP:ISs:=.cons (.ite (.cmp .NotIn (.var 0) (.var 1)) Z9t .nil) .nil
abbrev Bh:ISs:=FP
def FQ:GI:=⟨GB,GL,[],[],[],GC⟩
theorem Nr:chkSs FQ (X5 AD) ["name","known"] Bh (Xi AD)=true:=by decide+kernel
noncomputable def Nu:ISs:=.cons (.expr (.mt .append (.var 1) (.cons (.ix (.var 2) (.int 0)) .nil))) .nil
def Nv:ISs:=.cons (.expr (.call 0 (.ix (.var 2) (.int 0)) (.cons (.var 1) .nil))) Nu
def Nw:ISs:=.cons (.for_ (.nm 2) (.seq (.var 0)) Nv) .nil
def Ny:ISs:=.cons (.set 1 (.lst .nil)) Nw
abbrev FR:ISs:=Ny
def Nz:GI:=⟨GB,GL,["refuse_name"],[],[],GC⟩
theorem _6B:chkSs Nz (X5 AE) ["ferries","earlier","ferry"] FR (Xi AE)=true:=by decide+kernel
noncomputable def Z88:ISs:=.cons .never .nil
def NA:ISs:=.cons (.ite (.not (.call 0 (.var 0) (.cons (.ix (.var 3) (.int 1)) .nil))) Z88 .nil) .nil
def NB:ISs:=.cons (.expr (.mt .append (.var 2) (.cons (.var 4) .nil))) NA
def NC:ISs:=.cons (.expr (.call 1 (.var 4) (.cons (.var 2) .nil))) NB
def ND:ISs:=.cons (.set 4 (.ix (.var 3) (.int 0))) NC
def NE:ISs:=.cons (.for_ (.nm 3) (.seq (.var 1)) ND) .nil
def NF:ISs:=.cons (.set 2 (.lst .nil)) NE
abbrev FS:ISs:=NF
def NG:GI:=⟨GB,GL,["fits","refuse_name"],[],[],GC⟩
theorem _8f:chkSs NG (X5 AF) ["width","pairs","earlier","pair","name"] FS (Xi AF)=true:=by decide+kernel
noncomputable def NH:ISs:=.cons (.expr (.call 0 (.var 3) (.cons (.var 1) .nil))) .nil
def NI:ISs:=.cons (.for_ (.nm 3) (.seq (.call 2 (.var 0) .nil)) NH) .nil
noncomputable def ZcE:ISs:=.cons .never .nil
def NJ:ISs:=.cons (.ite (.or (.cmp .Gt (.ix (.var 2) (.int 0)) (.glb "MOST_PARTS" 30)) (.cmp .Gt (.ix (.var 2) (.int 1)) (.glb "MOST_DEPTH" 8))) ZcE .nil) NI
def NK:ISs:=.cons (.set 2 (.call 1 (.var 0) .nil)) NJ
abbrev FT:ISs:=NK
def NL:GI:=⟨GB,GL,["refuse_unknown","size_of","vars_in"],[],[],GC⟩
theorem _cL:chkSs NL (X5 AG) ["T","known","size","name"] FT (Xi AG)=true:=by decide+kernel
noncomputable def NM:ISs:=.cons (.expr (.call 1 (.ix (.var 0) (.int 2)) (.cons (.var 1) .nil))) .nil
def NN:ISs:=.cons (.expr (.call 1 (.ix (.var 0) (.int 1)) (.cons (.var 3) .nil))) NM
noncomputable def NO:ISs:=.cons (.expr (.call 0 (.ix (.var 0) (.int 2)) (.cons (.var 1) .nil))) .nil
def NP:ISs:=.cons (.expr (.call 1 (.ix (.var 0) (.int 1)) (.cons (.var 3) .nil))) NO
noncomputable def NQ:ISs:=.cons (.expr (.call 0 (.ix (.var 0) (.int 2)) (.cons (.var 1) .nil))) .nil
def NR:ISs:=.cons (.expr (.call 1 (.ix (.var 0) (.int 1)) (.cons (.var 1) .nil))) NQ
noncomputable def ZbB:ISs:=.cons .never .nil
def NS:ISs:=.cons (.ite (.not (.chn .LtE .LtE (.int 0) (.ix (.var 0) (.int 2)) (.var 2))) ZbB .nil) .nil
def NT:ISs:=.cons (.expr (.call 0 (.ix (.var 0) (.int 1)) (.cons (.var 1) .nil))) NS
def FU:ISs:=.cons (.ite (.cmp .Eq (.ix (.var 0) (.int 0)) (.str "put")) NR NT) .nil
def Dj:ISs:=.cons (.ite (.cmp .Eq (.ix (.var 0) (.int 0)) (.str "give")) NP FU) .nil
def NU:ISs:=.cons (.ite (.cmp .Eq (.ix (.var 0) (.int 0)) (.str "take")) NN Dj) .nil
abbrev FV:ISs:=NU
def NV:GI:=⟨GB,GL,["refuse_term","refuse_unknown"],[],[],GC⟩
theorem _cM:chkSs NV (X5 AH) ["step","known","count","ferry_names"] FV (Xi AH)=true:=by decide+kernel
noncomputable def NW:ISs:=.cons (.expr (.call 0 (.var 4) (.cons (.var 3) (.cons (.bi .len (.ix (.var 1) (.int 2)) .nil) (.cons (.var 2) .nil))))) .nil
def NX:ISs:=.cons (.for_ (.nm 4) (.seq (.ix (.var 1) (.int 2))) NW) .nil
def NY:ISs:=.cons (.set 3 (.comp ["pair"] [] (.seq (.ix (.var 1) (.int 1))) (.nm 0) .none (.ix (.var 0) (.int 0)))) NX
def NZ:ISs:=.cons (.expr (.call 1 (.var 0) (.cons (.ix (.var 1) (.int 1)) .nil))) NY
noncomputable def ZaS:ISs:=.cons .never .nil
def O0:ISs:=.cons (.ite (.cmp .Gt (.bi .len (.ix (.var 1) (.int 2)) .nil) (.glb "MOST_STEPS" 12)) ZaS .nil) NZ
noncomputable def ZaT:ISs:=.cons .never .nil
def O1:ISs:=.cons (.ite (.cmp .Gt (.bi .len (.ix (.var 1) (.int 1)) .nil) (.glb "MOST_VARS" 6)) ZaT .nil) O0
abbrev FW:ISs:=O1
def O2:GI:=⟨GB,GL,["refuse_step","refuse_variables"],[],[],GC⟩
theorem _aU:chkSs O2 (X5 AI) ["width","island","ferry_names","known","step"] FW (Xi AI)=true:=by decide+kernel
noncomputable def O3:ISs:=.cons (.expr (.call 0 (.var 0) (.cons (.var 4) (.cons (.var 2) .nil)))) .nil
def O4:ISs:=.cons (.expr (.mt .append (.var 3) (.cons (.ix (.var 4) (.int 0)) .nil))) O3
def O5:ISs:=.cons (.expr (.call 1 (.ix (.var 4) (.int 0)) (.cons (.var 3) .nil))) O4
def O6:ISs:=.cons (.for_ (.nm 4) (.seq (.var 1)) O5) .nil
def O7:ISs:=.cons (.set 3 (.bi .list (.var 2) .nil)) O6
abbrev FX:ISs:=O7
def O8:GI:=⟨GB,GL,["refuse_island","refuse_name"],[],[],GC⟩
theorem _9C:chkSs O8 (X5 AJ) ["width","islands","ferry_names","earlier","island"] FX (Xi AJ)=true:=by decide+kernel
noncomputable def ZbC:ISs:=.cons .never .nil
def O9:ISs:=.cons (.ite (.not (.chn .LtE .LtE (.int 1) (.ix (.var 0) (.int 4)) (.glb "MOST_STAGES" 3))) ZbC .nil) .nil
noncomputable def ZbD:ISs:=.cons .never .nil
def Oa:ISs:=.cons (.ite (.not (.chn .LtE .LtE (.int 0) (.ix (.var 0) (.int 3)) (.glb "MOST_K" 3))) ZbD .nil) O9
noncomputable def ZbE:ISs:=.cons .never .nil
def Ob:ISs:=.cons (.ite (.cmp .Eq (.ix (.var 0) (.int 1)) (.ix (.var 0) (.int 2))) ZbE .nil) Oa
def Oc:ISs:=.cons (.expr (.call 0 (.ix (.var 0) (.int 2)) (.cons (.var 1) .nil))) Ob
def Od:ISs:=.cons (.expr (.call 0 (.ix (.var 0) (.int 1)) (.cons (.var 1) .nil))) Oc
abbrev FY:ISs:=Od
def Oe:GI:=⟨GB,GL,["refuse_unknown"],[],[],GC⟩
theorem _c2:chkSs Oe (X5 AK) ["ferry","island_names"] FY (Xi AK)=true:=by decide+kernel
noncomputable def Z86:ISs:=.cons .never .nil
def Bi:ISs:=.cons (.ite (.and (.cmp .Eq (.ix (.var 1) (.int 0)) (.str "give")) (.cmp .NotEq (.ix (.var 2) (.ix (.var 1) (.int 1))) (.var 0))) Z86 .nil) .nil
noncomputable def Z87:ISs:=.cons .never .nil
def Of:ISs:=.cons (.ite (.and (.cmp .Eq (.ix (.var 1) (.int 0)) (.str "take")) (.cmp .NotEq (.ix (.var 3) (.ix (.var 1) (.int 1))) (.var 0))) Z87 .nil) Bi
abbrev FZ:ISs:=Of
def Og:GI:=⟨GB,GL,[],[],[],GC⟩
theorem _8e:chkSs Og (X5 AL) ["name","step","givers","takers"] FZ (Xi AL)=true:=by decide+kernel
noncomputable def Oh:ISs:=.cons (.expr (.call 0 (.ix (.var 4) (.int 0)) (.cons (.var 5) (.cons (.var 2) (.cons (.var 3) .nil))))) .nil
def Oi:ISs:=.cons (.for_ (.nm 5) (.seq (.ix (.var 4) (.int 2))) Oh) .nil
def Oj:ISs:=.cons (.for_ (.nm 4) (.seq (.var 0)) Oi) .nil
def Ol:ISs:=.cons (.set 3 (.bi .dictL (.comp ["ferry"] [] (.seq (.var 1)) (.nm 0) .none (.tup (.cons (.ix (.var 0) (.int 0)) (.cons (.ix (.var 0) (.int 2)) .nil)))) .nil)) Oj
def Om:ISs:=.cons (.set 2 (.bi .dictL (.comp ["ferry"] [] (.seq (.var 1)) (.nm 0) .none (.tup (.cons (.ix (.var 0) (.int 0)) (.cons (.ix (.var 0) (.int 1)) .nil)))) .nil)) Ol
abbrev G0:ISs:=Om
def On:GI:=⟨GB,GL,["refuse_wrong_end"],[],[],GC⟩
theorem _6W:chkSs On (X5 AM) ["islands","ferries","givers","takers","island","step"] G0 (Xi AM)=true:=by decide+kernel
noncomputable def W6:ISs:=.cons (.ret (.var 0)) .nil
noncomputable def G1:ISs:=.cons (.ret (.bi .tuple (.comp ["part"] [] (.seq (.var 0)) (.nm 0) .none (.call 0 (.var 0) .nil)) .nil)) .nil
def G2:ISs:=.cons (.ite (.bi .isinst (.var 0) (.cons (.tup (.cons (.ty .list) (.cons (.ty .tuple) .nil))) .nil)) G1 .nil) W6
abbrev W7:ISs:=G2
def G3:GI:=⟨GB,GL,["frozen"],[],[],GC⟩
theorem Oo:chkSs G3 (X5 AN) ["value"] W7 (Xi AN)=true:=by decide+kernel
noncomputable def Op:ISs:=.cons (.ret (.call 0 (.tup (.cons (.var 0) (.cons (.var 1) (.cons (.var 2) .nil)))) .nil)) .nil
def Oq:ISs:=.cons (.expr (.call 5 (.var 1) (.cons (.var 2) .nil))) Op
noncomputable def Os:ISs:=.cons (.expr (.call 2 (.var 4) (.cons (.var 3) .nil))) .nil
def Ot:ISs:=.cons (.for_ (.nm 4) (.seq (.var 2)) Os) Oq
def Ou:ISs:=.cons (.set 3 (.comp ["island"] [] (.seq (.var 1)) (.nm 0) .none (.ix (.var 0) (.int 0)))) Ot
def Ov:ISs:=.cons (.expr (.call 4 (.var 0) (.cons (.var 1) (.cons (.comp ["ferry"] [] (.seq (.var 2)) (.nm 0) .none (.ix (.var 0) (.int 0))) .nil)))) Ou
def Ow:ISs:=.cons (.expr (.call 3 (.var 2) .nil)) Ov
noncomputable def ZoH:ISs:=.cons .never .nil
def Ox:ISs:=.cons (.ite (.cmp .Gt (.bi .len (.var 2) .nil) (.glb "MOST_FERRIES" 6)) ZoH .nil) Ow
noncomputable def ZoI:ISs:=.cons .never .nil
def Oy:ISs:=.cons (.ite (.cmp .Gt (.bi .len (.var 1) .nil) (.glb "MOST_ISLANDS" 5)) ZoI .nil) Ox
noncomputable def ZoJ:ISs:=.cons .never .nil
def Oz:ISs:=.cons (.ite (.not (.call 1 (.var 0) .nil)) ZoJ .nil) Oy
abbrev G4:ISs:=Oz
def OA:GI:=⟨GB,GL,["frozen","is_width","refuse_ferry","refuse_ferry_names","refuse_islands","refuse_wrong_ends"],[],[],GC⟩
theorem _oX:chkSs OA (X5 AO) ["width","islands","ferries","island_names","ferry"] G4 (Xi AO)=true:=by decide+kernel
noncomputable def Ze1:ISs:=.cons .never .nil
noncomputable def OB:ISs:=.cons (.ret (.var 2)) .nil
def OC:ISs:=.cons (.ite (.cmp .Eq (.ix (.var 2) (.int 0)) (.var 1)) OB .nil) .nil
def OD:ISs:=.cons (.for_ (.nm 2) (.seq (.var 0)) OC) Ze1
abbrev G5:ISs:=OD
def OE:GI:=⟨GB,GL,[],[],[],GC⟩
theorem _e9:chkSs OE (X5 AQ) ["row","name","one"] G5 (Xi AQ)=true:=by decide+kernel
noncomputable def OF:ISs:=.cons (.ret (.call 0 (.ix (.var 0) (.int 1)) (.cons (.var 1) .nil))) .nil
abbrev G6:ISs:=OF
def OG:GI:=⟨GB,GL,["one_called"],[],[],GC⟩
theorem _ft:chkSs OG (X5 AR) ["world","name"] G6 (Xi AR)=true:=by decide+kernel
noncomputable def OH:ISs:=.cons (.ret (.tup (.cons (.str "wait") (.cons (.ix (.var 0) (.int 1)) .nil)))) .nil
noncomputable def OI:ISs:=.cons (.ret (.tup (.cons (.str "own") .nil))) .nil
def OJ:ISs:=.cons (.ite (.cmp .Eq (.ix (.var 0) (.int 0)) (.str "own")) OI .nil) OH
noncomputable def OK:ISs:=.cons (.ret (.tup (.cons (.str "done") .nil))) .nil
def OL:ISs:=.cons (.ite (.cmp .Is (.var 0) .non) OK .nil) OJ
abbrev G7:ISs:=OL
def OM:GI:=⟨GB,GL,[],[],[],GC⟩
theorem _e8:chkSs OM (X5 AS) ["asked"] G7 (Xi AS)=true:=by decide+kernel
noncomputable def ON:ISs:=.cons (.ret (.and (.cmp .IsNot (.var 0) .non) (.and (.cmp .NotEq (.ix (.var 0) (.int 0)) (.str "own")) (.cmp .Eq (.ix (.var 0) (.int 1)) (.var 1))))) .nil
abbrev G8:ISs:=ON
def OO:GI:=⟨GB,GL,[],[],[],GC⟩
theorem _eb:chkSs OO (X5 AT) ["asked","ferry_name"] G8 (Xi AT)=true:=by decide+kernel
noncomputable def OP:ISs:=.cons (.ret (.ix (.var 0) (.var 1))) .nil
def OQ:ISs:=.cons (.expr (.call 0 (.var 1) (.cons (.var 0) .nil))) OP
abbrev G9:ISs:=OQ
def OR:GI:=⟨GB,GL,["refuse_unknown"],[],[],GC⟩
theorem _fs:chkSs OR (X5 AU) ["named","name"] G9 (Xi AU)=true:=by decide+kernel
noncomputable def OS:ISs:=.cons (.fset "Run" (.var 0) "taken_so_far" (.bi .dictL (.comp ["ferry"] [] (.seq (.ix (.var 1) (.int 2))) (.nm 0) .none (.tup (.cons (.ix (.var 0) (.int 0)) (.cons (.lst .nil) .nil)))) .nil)) .nil
def OT:ISs:=.cons (.fset "Run" (.var 0) "given_so_far" (.bi .dictL (.comp ["ferry"] [] (.seq (.ix (.var 1) (.int 2))) (.nm 0) .none (.tup (.cons (.ix (.var 0) (.int 0)) (.cons (.lst .nil) .nil)))) .nil)) OS
def OU:ISs:=.cons (.fset "Run" (.var 0) "boats" (.bi .dictL (.comp ["ferry"] [] (.seq (.ix (.var 1) (.int 2))) (.nm 0) .none (.tup (.cons (.ix (.var 0) (.int 0)) (.cons (.make 0 "Ferry" (.ix (.var 0) (.int 3)) (.cons (.ix (.var 0) (.int 4)) .nil)) .nil)))) .nil)) OT
def OV:ISs:=.cons (.fset "Run" (.var 0) "steps_so_far" (.bi .dictL (.comp ["island"] [] (.seq (.ix (.var 1) (.int 1))) (.nm 0) .none (.tup (.cons (.ix (.var 0) (.int 0)) (.cons (.int 0) .nil)))) .nil)) OU
def OW:ISs:=.cons (.fset "Run" (.var 0) "words_now" (.bi .dictL (.comp ["island"] [] (.seq (.ix (.var 1) (.int 1))) (.nm 0) .none (.tup (.cons (.ix (.var 0) (.int 0)) (.cons (.bi .dict (.ix (.var 0) (.int 1)) .nil) .nil)))) .nil)) OV
def OX:ISs:=.cons (.fset "Run" (.var 0) "next_numbers" (.bi .dictL (.comp ["island"] [] (.seq (.ix (.var 1) (.int 1))) (.nm 0) .none (.tup (.cons (.ix (.var 0) (.int 0)) (.cons (.int 0) .nil)))) .nil)) OW
def OY:ISs:=.cons (.fset "Run" (.var 0) "moment" (.int 0)) OX
def OZ:ISs:=.cons (.fset "Run" (.var 0) "world" (.var 1)) OY
abbrev Ga:ISs:=OZ
def P0:GI:=⟨GB,GL,[],[],[(0,"Ferry")],GC⟩
theorem _c6:chkSs P0 (X5 AV) ["self","world"] Ga (Xi AV)=true:=by decide+kernel
noncomputable def Bj:ISs:=.cons (.ret (.tup (.cons (.var 1) (.cons (.var 4) (.cons (.var 6) (.cons (.var 7) .nil)))))) .nil
noncomputable def Bl:ISs:=.cons (.expr (.mcall 4 "Run" "go_on" (.var 0) (.cons (.var 1) (.cons (.var 3) (.cons (.ife (.cmp .Eq (.ix (.var 6) (.int 0)) (.str "take")) (.ix (.var 6) (.int 2)) .non) .nil))))) .nil
def P1:ISs:=.cons (.ite (.cmp .NotIn (.ix (.var 6) (.int 0)) (.tup (.cons (.str "done") (.cons (.str "wait") .nil)))) Bl .nil) Bj
def P2:ISs:=.cons (.fset "Run" (.var 0) "moment" (.bin .Add (.fld "Run" (.var 0) "moment") (.int 1))) P1
noncomputable def Gb:ISs:=.cons (.set 6 (.ix (.var 10) (.int 0))) .nil
def P3:ISs:=.cons (.ite (.cmp .IsNot (.ix (.var 10) (.int 0)) .non) Gb .nil) .nil
def P4:ISs:=.cons (.expr (.mt .append (.var 7) (.cons (.tup (.cons (.ix (.var 9) (.int 0)) (.cons (.ix (.var 10) (.int 1)) .nil))) .nil))) P3
def P5:ISs:=.cons (.set 10 (.mcall 5 "Run" "ring_ferry" (.var 0) (.cons (.var 9) (.cons (.var 1) (.cons (.bin .FloorDiv (.var 2) (.call 1 (.bin .Mult (.glb "BITS_A_FERRY" 8) (.var 8)) .nil)) (.cons (.var 5) .nil)))))) P4
def P6:ISs:=.cons (.ite (.cmp .In (.var 1) (.tup (.cons (.ix (.var 9) (.int 1)) (.cons (.ix (.var 9) (.int 2)) .nil)))) P5 .nil) .nil
def P7:ISs:=.cons (.set 9 (.ix (.ix (.fld "Run" (.var 0) "world") (.int 2)) (.var 8))) P6
def P8:ISs:=.cons (.for_ (.nm 8) (.rng (.bi .len (.ix (.fld "Run" (.var 0) "world") (.int 2)) .nil)) P7) P2
def P9:ISs:=.cons (.set 7 (.lst .nil)) P8
def Pa:ISs:=.cons (.set 6 (.call 2 (.var 5) .nil)) P9
def Pb:ISs:=.cons (.set 5 (.call 3 (.ix (.fld "Run" (.var 0) "world") (.int 0)) (.cons (.var 3) (.cons (.var 4) (.cons (.ix (.fld "Run" (.var 0) "words_now") (.var 1)) .nil))))) Pa
def Pc:ISs:=.cons (.set 4 (.ix (.fld "Run" (.var 0) "next_numbers") (.var 1))) Pb
def Pd:ISs:=.cons (.set 3 (.ix (.call 0 (.fld "Run" (.var 0) "world") (.cons (.var 1) .nil)) (.int 2))) Pc
abbrev Gc:ISs:=Pd
def Pe:GI:=⟨GB,GL,["island_of","two_to","what_alone","wish"],[(4,"Run","go_on"),(5,"Run","ring_ferry")],[],GC⟩
theorem _gB:chkSs Pe (X5 AW) ["self","name","choice","steps","number","asked","what","samples","j","ferry","told"] Gc (Xi AW)=true:=by decide+kernel
noncomputable def Pf:ISs:=.cons (.ret (.tup (.cons (.tup (.cons (.str "take") (.cons (.ix (.var 1) (.int 0)) (.cons (.ix (.var 7) (.int 0)) .nil)))) (.cons (.ix (.var 7) (.int 1)) .nil)))) .nil
def Pg:ISs:=.cons (.expr (.mt .append (.ix (.fld "Run" (.var 0) "taken_so_far") (.ix (.var 1) (.int 0))) (.cons (.ix (.var 7) (.int 0)) .nil))) Pf
noncomputable def Ph:ISs:=.cons (.ret (.var 7)) .nil
def Pi:ISs:=.cons (.ite (.cmp .Is (.ix (.var 7) (.int 0)) .non) Ph .nil) Pg
def Gd:ISs:=.cons (.set 7 (.mcall 2 "Ferry" "ring_taker" (.var 5) (.cons (.fld "Run" (.var 0) "moment") (.cons (.var 3) (.cons (.var 6) .nil))))) Pi
noncomputable def Pj:ISs:=.cons (.ret (.tup (.cons (.var 4) (.cons (.ix (.var 7) (.int 1)) .nil)))) .nil
def Pk:ISs:=.cons (.expr (.mt .append (.ix (.fld "Run" (.var 0) "given_so_far") (.ix (.var 1) (.int 0))) (.cons (.ix (.var 4) (.int 2)) .nil))) Pj
noncomputable def Pl:ISs:=.cons (.ret (.tup (.cons .non (.cons (.ix (.var 7) (.int 1)) .nil)))) .nil
def Ge:ISs:=.cons (.ite (.not (.ix (.var 7) (.int 0))) Pl .nil) Pk
def Pn:ISs:=.cons (.set 7 (.mcall 1 "Ferry" "ring_giver" (.var 5) (.cons (.fld "Run" (.var 0) "moment") (.cons (.var 3) (.cons (.ife (.var 6) (.ix (.var 4) (.int 2)) .non) .nil))))) Ge
def Po:ISs:=.cons (.ite (.cmp .Eq (.ix (.var 1) (.int 1)) (.var 2)) Pn .nil) Gd
def Pp:ISs:=.cons (.set 6 (.call 0 (.var 4) (.cons (.ix (.var 1) (.int 0)) .nil))) Po
def Pq:ISs:=.cons (.set 5 (.ix (.fld "Run" (.var 0) "boats") (.ix (.var 1) (.int 0)))) Pp
abbrev Gf:ISs:=Pq
def Pr:GI:=⟨GB,GL,["is_wish_of"],[(1,"Ferry","ring_giver"),(2,"Ferry","ring_taker")],[],GC⟩
theorem _9D:chkSs Pr (X5 AX) ["self","ferry","name","choice","asked","boat","wished","told"] Gf (Xi AX)=true:=by decide+kernel
noncomputable def Ps:ISs:=.cons (.put (.fld "Run" (.var 0) "steps_so_far") (.var 1) (.bin .Add (.ix (.fld "Run" (.var 0) "steps_so_far") (.var 1)) (.int 1))) .nil
def Pt:ISs:=.cons (.put (.fld "Run" (.var 0) "words_now") (.var 1) (.ix (.var 4) (.int 1))) Ps
def Pu:ISs:=.cons (.put (.fld "Run" (.var 0) "next_numbers") (.var 1) (.ix (.var 4) (.int 0))) Pt
def Pv:ISs:=.cons (.set 4 (.call 0 (.ix (.fld "Run" (.var 0) "world") (.int 0)) (.cons (.var 2) (.cons (.ix (.fld "Run" (.var 0) "next_numbers") (.var 1)) (.cons (.ix (.fld "Run" (.var 0) "words_now") (.var 1)) (.cons (.var 3) .nil)))))) Pu
abbrev Gg:ISs:=Pv
def Pw:GI:=⟨GB,GL,["after"],[],[],GC⟩
theorem _fB:chkSs Pw (X5 AY) ["self","name","steps","word","went"] Gg (Xi AY)=true:=by decide+kernel
noncomputable def Px:ISs:=.cons (.ret (.call 0 (.fld "Run" (.var 0) "next_numbers") (.cons (.var 1) .nil))) .nil
abbrev Gh:ISs:=Px
def Py:GI:=⟨GB,GL,["looked_up"],[],[],GC⟩
theorem _ee:chkSs Py (X5 AZ) ["self","name"] Gh (Xi AZ)=true:=by decide+kernel
noncomputable def Pz:ISs:=.cons (.ret (.bi .list (.call 0 (.fld "Run" (.var 0) "given_so_far") (.cons (.var 1) .nil)) .nil)) .nil
abbrev Gi:ISs:=Pz
def PB:GI:=⟨GB,GL,["looked_up"],[],[],GC⟩
theorem _fC:chkSs PB (X5 B0) ["self","name"] Gi (Xi B0)=true:=by decide+kernel
noncomputable def PC:ISs:=.cons (.ret (.bi .list (.call 0 (.fld "Run" (.var 0) "taken_so_far") (.cons (.var 1) .nil)) .nil)) .nil
abbrev Gj:ISs:=PC
def PD:GI:=⟨GB,GL,["looked_up"],[],[],GC⟩
theorem _fA:chkSs PD (X5 B1) ["self","name"] Gj (Xi B1)=true:=by decide+kernel
noncomputable def PF:ISs:=.cons (.ret (.int 0)) .nil
noncomputable def PH:ISs:=.cons (.ret (.ix (.var 0) (.var 1))) .nil
def PJ:ISs:=.cons (.ite (.cmp .Lt (.var 1) (.bi .len (.var 0) .nil)) PH .nil) PF
abbrev Gk:ISs:=PJ
def PK:GI:=⟨GB,GL,[],[],[],GC⟩
theorem _c5:chkSs PK (X5 B3) ["script","k"] Gk (Xi B3)=true:=by decide+kernel
noncomputable def PL:ISs:=.cons (.ret (.bin .Add (.bin .Add (.bin .Mult (.ix (.var 2) (.var 3)) (.var 6)) (.var 7)) (.bin .Mult (.ix (.var 2) (.var 3)) (.bin .Sub (.bin .Sub (.var 5) (.int 1)) (.var 6))))) .nil
def PM:ISs:=.cons (.set 7 (.ix (.var 2) (.bin .Mod (.bin .Add (.bin .FloorDiv (.var 0) (.int 4992)) (.bin .Mult (.int 7) (.var 1))) (.int 26)))) PL
def PN:ISs:=.cons (.set 6 (.bin .Mod (.bin .Mod (.bin .FloorDiv (.var 0) (.int 24)) (.int 8)) (.var 5))) PM
def PP:ISs:=.cons (.set 5 (.bin .Add (.int 1) (.bin .Mod (.bin .FloorDiv (.var 0) (.int 3)) (.int 8)))) PN
noncomputable def PQ:ISs:=.cons (.ret (.bin .Add (.bin .Mult (.ix (.var 2) (.var 3)) (.bin .Add (.int 1) (.bin .Mod (.bin .Add (.bin .Mult (.int 3) (.var 1)) (.bin .FloorDiv (.var 0) (.int 192))) (.int 7)))) (.bin .Mult (.var 4) (.bin .FloorDiv (.var 1) (.int 7))))) .nil
def PR:ISs:=.cons (.set 4 (.ix (.var 2) (.bin .Mod (.bin .Add (.bin .Add (.var 3) (.int 1)) (.bin .Mod (.bin .FloorDiv (.var 0) (.int 4992)) (.int 25))) (.int 26)))) PQ
def PU:ISs:=.cons (.ite (.cmp .Eq (.bin .Mod (.var 0) (.int 3)) (.int 2)) PR .nil) PP
def PV:ISs:=.cons (.set 3 (.bin .Mod (.bin .FloorDiv (.var 0) (.int 192)) (.int 26))) PU
def PX:ISs:=.cons (.set 2 (.str "abcdefghijklmnopqrstuvwxyz")) PV
abbrev Gm:ISs:=PX
def PY:GI:=⟨GB,GL,[],[],[],GC⟩
theorem _fy:chkSs PY (X5 B4) ["number","k","letters","fill","other","long","at","sign"] Gm (Xi B4)=true:=by decide+kernel
noncomputable def PZ:ISs:=.cons (.ret (.tup (.cons (.str "plus") (.cons (.var 2) (.cons (.tup (.cons (.str "var") (.cons (.ix (.var 1) (.bin .Mod (.bin .FloorDiv (.var 0) (.int 224)) (.int 2))) .nil))) .nil))))) .nil
noncomputable def Q0:ISs:=.cons (.ret (.tup (.cons (.str "pick") (.cons (.tup (.cons (.str "less") (.cons (.var 2) (.cons (.var 3) .nil)))) (.cons (.var 3) (.cons (.var 2) .nil)))))) .nil
def Q1:ISs:=.cons (.ite (.cmp .Eq (.bin .Mod (.var 0) (.int 8)) (.int 5)) Q0 .nil) PZ
noncomputable def Q2:ISs:=.cons (.ret (.tup (.cons (.ix (.lst (.cons (.str "plus") (.cons (.str "minus") (.cons (.str "times") .nil)))) (.bin .Sub (.bin .Mod (.var 0) (.int 8)) (.int 2))) (.cons (.var 2) (.cons (.var 3) .nil))))) .nil
def Q3:ISs:=.cons (.ite (.cmp .Lt (.bin .Mod (.var 0) (.int 8)) (.int 5)) Q2 .nil) Q1
noncomputable def Q4:ISs:=.cons (.ret (.ix (.lst (.cons (.var 2) (.cons (.var 3) .nil))) (.bin .Mod (.var 0) (.int 2)))) .nil
def Q5:ISs:=.cons (.ite (.cmp .Lt (.bin .Mod (.var 0) (.int 8)) (.int 2)) Q4 .nil) Q3
def Q6:ISs:=.cons (.set 3 (.tup (.cons (.str "num") (.cons (.ix (.lst (.cons (.bin .Sub (.bin .Mod (.bin .FloorDiv (.var 0) (.int 16)) (.int 7)) (.int 3)) (.cons (.bin .Mod (.bin .Mult (.bin .FloorDiv (.var 0) (.int 16)) (.int 1000000007)) (.bin .Pow (.int 10) (.int 20))) .nil))) (.bin .Mod (.bin .FloorDiv (.var 0) (.int 112)) (.int 2))) .nil)))) Q5
def Q7:ISs:=.cons (.set 2 (.tup (.cons (.str "var") (.cons (.ix (.var 1) (.bin .Mod (.bin .FloorDiv (.var 0) (.int 8)) (.int 2))) .nil)))) Q6
abbrev Gn:ISs:=Q7
def Q8:GI:=⟨GB,GL,[],[],[],GC⟩
theorem _fw:chkSs Q8 (X5 B5) ["number","names","one","other"] Gn (Xi B5)=true:=by decide+kernel
noncomputable def Q9:ISs:=.cons (.ret (.tup (.cons (.str "put") (.cons (.ix (.var 2) (.bin .Mod (.bin .FloorDiv (.var 0) (.int 8)) (.int 2))) (.cons (.call 0 (.var 7) (.cons (.var 2) .nil)) .nil))))) .nil
noncomputable def Qa:ISs:=.cons (.ret (.tup (.cons (.str "jump") (.cons (.call 0 (.var 7) (.cons (.var 2) .nil)) (.cons (.bin .Mod (.bin .FloorDiv (.var 0) (.int 8)) (.bin .Add (.var 4) (.int 1))) .nil))))) .nil
def Go:ISs:=.cons (.ite (.cmp .Eq (.bin .Mod (.var 0) (.int 8)) (.int 7)) Qa .nil) Q9
noncomputable def Qb:ISs:=.cons (.ret (.tup (.cons (.str "give") (.cons (.ix (.var 6) (.bin .Mod (.bin .FloorDiv (.var 0) (.int 8)) (.bi .len (.var 6) .nil))) (.cons (.call 0 (.var 7) (.cons (.var 2) .nil)) .nil))))) .nil
def Gp:ISs:=.cons (.ite (.and (.cmp .Lt (.bin .Mod (.var 0) (.int 8)) (.int 6)) (.cmp .NotEq (.var 6) (.lst .nil))) Qb .nil) Go
noncomputable def Qc:ISs:=.cons (.ret (.tup (.cons (.str "take") (.cons (.ix (.var 5) (.bin .Mod (.bin .FloorDiv (.var 0) (.int 8)) (.bi .len (.var 5) .nil))) (.cons (.ix (.var 2) (.bin .Mod (.var 7) (.int 2))) .nil))))) .nil
def Qd:ISs:=.cons (.ite (.and (.cmp .Lt (.bin .Mod (.var 0) (.int 8)) (.int 3)) (.cmp .NotEq (.var 5) (.lst .nil))) Qc .nil) Gp
def Qe:ISs:=.cons (.set 7 (.bin .FloorDiv (.var 0) (.int 128))) Qd
def Qf:ISs:=.cons (.set 6 (.comp ["ferry"] [1] (.seq (.var 3)) (.nm 0) (.some (.cmp .Eq (.ix (.var 0) (.int 1)) (.var 1))) (.ix (.var 0) (.int 0)))) Qe
def Qg:ISs:=.cons (.set 5 (.comp ["ferry"] [1] (.seq (.var 3)) (.nm 0) (.some (.cmp .Eq (.ix (.var 0) (.int 2)) (.var 1))) (.ix (.var 0) (.int 0)))) Qf
abbrev Gq:ISs:=Qg
def Qh:GI:=⟨GB,GL,["_law_term"],[],[],GC⟩
theorem _fx:chkSs Qh (X5 B6) ["number","name","names","ferries","many","takes","gives","rest"] Gq (Xi B6)=true:=by decide+kernel
noncomputable def Gr:ISs:=.cons (.ret (.tup (.cons (.var 5) (.cons (.var 7) (.cons (.var 10) .nil))))) .nil
noncomputable def Qi:ISs:=.cons (.expr (.mt .append (.var 10) (.cons (.tup (.cons (.str "jump") (.cons (.tup (.cons (.str "num") (.cons (.int 1) .nil))) (.cons (.int 0) .nil)))) .nil))) .nil
def Qj:ISs:=.cons (.ite (.cmp .Eq (.var 9) (.int 1)) Qi .nil) Gr
noncomputable def Qk:ISs:=.cons (.set 0 (.bin .FloorDiv (.var 0) (.bin .Pow (.int 10) (.int 8)))) .nil
def Ql:ISs:=.cons (.expr (.mt .append (.var 10) (.cons (.call 1 (.bin .Mod (.var 0) (.bin .Pow (.int 10) (.int 8))) (.cons (.var 5) (.cons (.var 6) (.cons (.var 3) (.cons (.bin .Add (.var 8) (.var 9)) .nil))))) .nil))) Qk
def Qm:ISs:=.cons (.for_ (.nm 11) (.rng (.var 8)) Ql) Qj
def Qn:ISs:=.cons (.set 10 (.lst .nil)) Qm
def Qo:ISs:=.cons (.set 0 (.bin .FloorDiv (.var 0) (.int 112))) Qn
def Qp:ISs:=.cons (.set 9 (.bi .int (.cmp .Lt (.bin .Mod (.bin .FloorDiv (.var 0) (.int 28)) (.int 4)) (.var 4)) .nil)) Qo
def Qq:ISs:=.cons (.set 8 (.bin .Mod (.bin .FloorDiv (.var 0) (.int 4)) (.int 7))) Qp
def Qr:ISs:=.cons (.set 7 (.lst (.cons (.tup (.cons (.ix (.var 6) (.int 0)) (.cons (.bin .Mod (.var 0) (.int 2)) .nil))) (.cons (.tup (.cons (.ix (.var 6) (.int 1)) (.cons (.bin .Mod (.bin .FloorDiv (.var 0) (.int 2)) (.int 2)) .nil))) .nil)))) Qq
def Qs:ISs:=.cons (.set 6 (.lst (.cons (.call 0 (.var 2) (.cons (.int 9) .nil)) (.cons (.call 0 (.var 2) (.cons (.int 10) .nil)) .nil)))) Qr
def Qt:ISs:=.cons (.set 5 (.call 0 (.var 2) (.cons (.var 1) .nil))) Qs
abbrev Gs:ISs:=Qt
def Qu:GI:=⟨GB,GL,["_law_name","_law_step"],[],[],GC⟩
theorem _cR:chkSs Qu (X5 B7) ["number","k","naming","ferries","around","name","names","pairs","many","ending","steps","j"] Gs (Xi B7)=true:=by decide+kernel
noncomputable def Qv:ISs:=.cons (.ret (.tup (.cons (.var 4) (.cons (.var 12) (.cons (.var 6) .nil))))) .nil
noncomputable def Qw:ISs:=.cons (.expr (.mt .append (.var 12) (.cons (.call 1 (.bin .Mod (.call 0 (.var 0) (.cons (.bin .Add (.int 6) (.var 7)) .nil)) (.bin .Pow (.int 10) (.int 60))) (.cons (.var 7) (.cons (.var 3) (.cons (.var 6) (.cons (.var 1) .nil))))) .nil))) .nil
def Qx:ISs:=.cons (.for_ (.nm 7) (.rng (.var 5)) Qw) Qv
def Qy:ISs:=.cons (.set 12 (.lst .nil)) Qx
noncomputable def Qz:ISs:=.cons (.expr (.mt .append (.var 6) (.cons (.tup (.cons (.call 2 (.var 3) (.cons (.bin .Add (.int 5) (.var 7)) .nil)) (.cons (.ix (.var 11) (.int 0)) (.cons (.ix (.var 11) (.int 1)) (.cons (.bin .Mod (.bin .FloorDiv (.var 8) (.int 20)) (.int 4)) (.cons (.bin .Add (.int 1) (.bin .Mod (.bin .FloorDiv (.var 8) (.int 80)) (.int 3))) .nil)))))) .nil))) .nil
def QA:ISs:=.cons (.set 11 (.tup (.cons (.call 2 (.var 3) (.cons (.var 9) .nil)) (.cons (.call 2 (.var 3) (.cons (.var 10) .nil)) .nil)))) Qz
def QB:ISs:=.cons (.set 10 (.bin .Mod (.bin .Add (.bin .Add (.var 9) (.int 1)) (.bin .Mod (.bin .FloorDiv (.var 8) (.int 5)) (.bin .Sub (.var 5) (.int 1)))) (.var 5))) QA
def QC:ISs:=.cons (.set 9 (.bin .Mod (.var 8) (.var 5))) QB
def QD:ISs:=.cons (.set 8 (.bin .FloorDiv (.bin .Mod (.call 0 (.var 0) (.cons (.bin .Add (.int 2) (.bin .Mod (.var 7) (.int 4))) .nil)) (.bin .Pow (.int 10) (.int 15))) (.ix (.lst (.cons (.int 1) (.cons (.int 1000000) .nil))) (.bin .FloorDiv (.var 7) (.int 4))))) QC
def QE:ISs:=.cons (.for_ (.nm 7) (.rng (.bi .min (.bin .Sub (.bin .Mult (.int 6) (.var 5)) (.int 6)) (.cons (.bin .Mod (.bin .FloorDiv (.var 2) (.int 2048)) (.int 7)) .nil))) QD) Qy
def QF:ISs:=.cons (.set 6 (.lst .nil)) QE
def QG:ISs:=.cons (.set 5 (.bin .Add (.int 1) (.bin .Mod (.var 2) (.int 5)))) QF
def QH:ISs:=.cons (.set 4 (.ix (.lst (.cons (.bin .Add (.int 1) (.bin .Mod (.bin .FloorDiv (.var 2) (.int 16)) (.int 64))) (.cons (.bin .Add (.int 1) (.bin .Mod (.bin .FloorDiv (.var 2) (.int 16)) (.int 5))) .nil))) (.bin .Mod (.bin .FloorDiv (.var 2) (.int 1024)) (.int 2)))) QG
def QI:ISs:=.cons (.set 3 (.bin .Mod (.call 0 (.var 0) (.cons (.int 1) .nil)) (.bin .Pow (.int 10) (.int 9)))) QH
def QJ:ISs:=.cons (.set 2 (.bin .Mod (.call 0 (.var 0) (.cons (.int 0) .nil)) (.bin .Pow (.int 10) (.int 9)))) QI
abbrev Gu:ISs:=QJ
def QK:GI:=⟨GB,GL,["_law_cell_at","_law_island","_law_name"],[],[],GC⟩
theorem _cP:chkSs QK (X5 B8) ["script","around","head","naming","width","many","ferries","k","number","giver","taker","ends","islands"] Gu (Xi B8)=true:=by decide+kernel
noncomputable def QL:ISs:=.cons (.ret (.var 2)) .nil
noncomputable def QN:ISs:=.cons (.expr (.mt .append (.var 2) (.cons (.tup (.cons (.ix (.ix (.var 1) (.bin .Mod (.var 3) (.bi .len (.var 1) .nil))) (.int 0)) (.cons (.bin .Mod (.bin .FloorDiv (.var 3) (.bi .len (.var 1) .nil)) (.bin .Pow (.int 10) (.int 30))) .nil))) .nil))) .nil
def QO:ISs:=.cons (.for_ (.nm 3) (.seq (.var 0)) QN) QL
def QP:ISs:=.cons (.set 2 (.lst .nil)) QO
abbrev Gv:ISs:=QP
def QQ:GI:=⟨GB,GL,[],[],[],GC⟩
theorem _ed:chkSs QQ (X5 B9) ["cells","islands","rings","cell"] Gv (Xi B9)=true:=by decide+kernel
noncomputable def QR:ISs:=.cons (.ret (.var 1)) .nil
noncomputable def QS:ISs:=.cons (.set 0 (.bin .FloorDiv (.var 0) (.int 2))) .nil
def QT:ISs:=.cons (.set 1 (.bin .BitXor (.var 1) (.var 0))) QS
def QU:ISs:=.cons (.while_ (.cmp .Gt (.var 0) (.int 0)) QT) QR
def QV:ISs:=.cons (.set 1 (.int 0)) QU
abbrev Gw:ISs:=QV
def QW:GI:=⟨GB,GL,[],[],[],GC⟩
theorem _cQ:chkSs QW (X5 Ba) ["word","number"] Gw (Xi Ba)=true:=by decide+kernel
noncomputable def QX:ISs:=.cons (.ret (.call 0 (.ix (.var 0) (.bin .Sub (.bi .len (.var 0) .nil) (.var 1))) .nil)) .nil
noncomputable def QY:ISs:=.cons (.ret (.int 0)) .nil
def QZ:ISs:=.cons (.ite (.cmp .Lt (.bi .len (.var 0) .nil) (.var 1)) QY .nil) QX
abbrev Gx:ISs:=QZ
def R0:GI:=⟨GB,GL,["_law_number"],[],[],GC⟩
theorem _fv:chkSs R0 (X5 Bb) ["samples","stages"] Gx (Xi Bb)=true:=by decide+kernel
noncomputable def R4:ISs:=.cons (.ret (.bl true)) .nil
noncomputable def R5:ISs:=.cons (.expr (.mt .append (.ix (.ix (.var 5) (.var 6)) (.var 7)) (.cons (.var 18) .nil))) .nil
def R6:ISs:=.cons (.for_ (.tup (.cons (.nm 6) (.cons (.nm 18) .nil))) (.seq (.ix (.var 13) (.int 3))) R5) .nil
noncomputable def ZoK:ISs:=.cons (.ret (.bl false)) .nil
def R7:ISs:=.cons (.ite (.cmp .NotEq (.cmp .Eq (.ix (.var 13) (.int 2)) (.tup (.cons (.str "wait") (.cons (.ix (.var 6) (.int 0)) .nil)))) (.var 17)) ZoK .nil) .nil
def R8:ISs:=.cons (.set 17 (.cmp .Eq (.var 15) (.var 16))) R7
def R9:ISs:=.cons (.set 16 (.ix (.lst (.cons (.int 0) (.cons (.bin .LShift (.int 1) (.ix (.var 6) (.int 3))) .nil))) (.bi .int (.cmp .Eq (.var 7) (.ix (.var 6) (.int 1))) .nil))) R8
def Ra:ISs:=.cons (.set 15 (.bin .Mod (.bin .Sub (.ix (.ix (.var 11) (.ix (.var 6) (.int 0))) (.var 7)) (.var 14)) (.bin .LShift (.int 2) (.ix (.var 6) (.int 3))))) R9
def Rb:ISs:=.cons (.set 14 (.call 2 (.ix (.ix (.var 5) (.ix (.var 6) (.int 0))) (.var 7)) (.cons (.ix (.var 6) (.int 4)) .nil))) Ra
def Rc:ISs:=.cons (.ite (.cmp .Eq (.ix (.ix (.var 9) (.var 10)) (.int 1)) (.ix (.var 6) (.int 0))) Rb .nil) .nil
noncomputable def Dk:ISs:=.cons .cnt .nil
def Re:ISs:=.cons (.ite (.or (.cmp .Eq (.var 10) (.bi .len (.var 9) .nil)) (.cmp .NotIn (.ix (.ix (.var 9) (.var 10)) (.int 0)) (.tup (.cons (.str "give") (.cons (.str "take") .nil))))) Dk .nil) Rc
def Rf:ISs:=.cons (.for_ (.nm 6) (.seq (.var 3)) Re) R6
def Rg:ISs:=.cons (.set 13 (.mcall 7 "Run" "ring" (.var 4) (.cons (.var 7) (.cons (.var 8) .nil)))) Rf
noncomputable def Rh:ISs:=.cons (.put (.var 11) (.ix (.var 6) (.int 0)) (.disp (.cons (.ix (.var 6) (.int 1)) (.ix (.var 12) (.int 0)) (.cons (.ix (.var 6) (.int 2)) (.ix (.var 12) (.int 1)) .nil)))) .nil
def Ri:ISs:=.cons (.set 12 (.lst (.cons (.bi .len (.mcall 5 "Run" "given" (.var 4) (.cons (.ix (.var 6) (.int 0)) .nil)) .nil) (.cons (.bi .len (.mcall 8 "Run" "taken" (.var 4) (.cons (.ix (.var 6) (.int 0)) .nil)) .nil) .nil)))) Rh
def Rj:ISs:=.cons (.for_ (.nm 6) (.seq (.var 3)) Ri) Rg
def Rk:ISs:=.cons (.set 11 .dic) Rj
def Rm:ISs:=.cons (.set 10 (.mcall 6 "Run" "number" (.var 4) (.cons (.var 7) .nil))) Rk
def Rn:ISs:=.cons (.set 9 (.ix (.comp ["island"] [7] (.seq (.var 2)) (.nm 0) (.some (.cmp .Eq (.ix (.var 0) (.int 0)) (.var 1))) (.ix (.var 0) (.int 2))) (.int 0))) Rm
def Ro:ISs:=.cons (.for_ (.tup (.cons (.nm 7) (.cons (.nm 8) .nil))) (.seq (.call 0 (.sl (.var 0) (.some (.int 10)) (.some (.int 90))) (.cons (.var 2) .nil))) Rn) R4
noncomputable def Rp:ISs:=.cons (.put (.var 5) (.ix (.var 6) (.int 0)) (.disp (.cons (.ix (.var 6) (.int 1)) (.lst .nil) (.cons (.ix (.var 6) (.int 2)) (.lst .nil) .nil)))) .nil
def Rq:ISs:=.cons (.for_ (.nm 6) (.seq (.var 3)) Rp) Ro
def Rr:ISs:=.cons (.set 5 .dic) Rq
def Rs:ISs:=.cons (.set 4 (.make 4 "Run" (.call 3 (.var 1) (.cons (.bi .list (.var 2) .nil) (.cons (.bi .list (.var 3) .nil) .nil))) .nil)) Rr
def Rt:ISs:=.cons (.asg (.cons (.nm 1) (.cons (.nm 2) (.cons (.nm 3) .nil))) (.call 1 (.var 0) (.cons (.int 3) .nil))) Rs
abbrev Gy:ISs:=Rt
def Ru:GI:=⟨GB,GL,["_law_rings","_law_things","_law_used","made"],[(5,"Run","given"),(6,"Run","number"),(7,"Run","ring"),(8,"Run","taken")],[(4,"Run")],GC⟩
theorem _rc:chkSs Ru (X5 Bc) ["script","width","islands","ferries","run","samples","ferry","name","choice","steps","number","counts","two","event","seen","far","edge","late","word"] Gy (Xi Bc)=true:=by decide+kernel
theorem szl:sizeLine=16777216:=by decide
theorem na10:Int.natAbs 10=10:=rfl
theorem na1:Int.natAbs 1=1:=rfl
theorem na2:Int.natAbs 2=2:=rfl
theorem at0{j:Type}{x:j}{xs:List j}:atI (x::xs) 0=some x:=by unfold atI ixN;simp
theorem at1{l:Type}{x y:l}{xs:List l}:atI (x::y::xs) 1=some y:=Yp (j:=1) (by rfl)
theorem at2{l:Type}{x y z:l}{xs:List l}:atI (x::y::z::xs) 2=some z:=Yp (j:=2) (by rfl)
theorem at3{l:Type}{x y z u:l}{xs:List l}:atI (x::y::z::u::xs) 3=some u:=Yp (j:=3) (by rfl)
theorem at4{l:Type}{x y z u v:l}{xs:List l}:atI (x::y::z::u::v::xs) 4=some v:=Yp (j:=4) (by rfl)
theorem V8{a b:String}:(Yi a=Yi b)↔a=b:=by
 constructor
 .intro h;rw[Str.ofString_eq_toList,Str.ofString_eq_toList]at h;have u:a.toList.map CK=b.toList.map CK:=by
   have:=congrArg (λs:Str=>s.cps.toList) h
   simpa using this
  have inj:∀(l j:List Char),l.map CK=j.map CK->l=j:=by
   intro l
   induction l with
   |nil=>
    intro j e;cases j with
    |nil=>rfl
    |cons _ _=>cases e
   |cons x r w=>
    intro j e;cases j with
    |nil=>cases e
    |cons y s=>
     rw[Xx,Xx]at e;injection e with e1 e2;rw[w s e2,Char.toNat_inj.mp e1]
  exact String.toList_inj.mp (inj _ _ u)
 .intro h;rw[h]
theorem Y3{c A B:Prop} [Decidable c] (h1:c->A)(h2:¬c->B):if c then A else B:=by
 split
 .exact h1 ‹_›
 .exact h2 ‹_›
theorem _oP{a:Str}{b:SpM}{R:SpM->Prop}:(∃f sp,(a=f/\b=sp)/\R sp)↔R b:=⟨fun⟨_,_,⟨_,e⟩,h⟩=>e▸h,λh=>⟨a,b,⟨rfl,rfl⟩,h⟩⟩
theorem isN0:UD .non=true:=rfl
theorem isN2{b:Int}:UD (.int b)=false:=rfl
theorem isN4{b:List MV}:UD (.tup b)=false:=rfl
local macro_rules|`(tactic|walk_at "s")=>do
 let a<-("seval szl na10 na1 na2 Nat.zero_add Nat.reduceAdd Nat.zero_le at0 at1 at2 at3 at4 V8 _oP Xa _rC _pB _rF _rA _rz _rG _rB _pz _pA _rD _rE _nl v_s b_0 f_s _sN _sU _sP e_bl _sR _sW e_ty _t1 _sS _sQ _sZ _t0 _t2 e_or _sV _sO _sT _sY e_ix e_sl _r8 e_bi e_b2 e_mt _sX _oS _r6 _r7 _qa _nA _r5 _oQ _qD _qC _rV _rS _rU _rT isN0 isN2 isN4 isTy _st _rW _sg _q2 _sh _s7 _s2 _sr _rK _q6 _pP _q5 _pO q_lt q_le _si q_gt _sp _se _so _sc _sf q_is _nv _pQ _q0 _nu _rY _sd _sn q_in _sb KM KN _nt KO _sk _sj _s1 _s0 _pT _pW _pU _pV _ns _sl _pZ _rO _rM _rL _rN _pI _nq _nr _pJ _q3 _nw _nx _ss _sq _q4 _sm _pN _pM _s6 _pL _np _s3 _rZ _pK _rR _rQ _rP _sa _s9 _s8 _rX _s4 _s5 _pS _pR _q1 WL CMul CPow List.getElem?_cons_zero List.getElem?_cons_succ Option.some.injEq MV.int.injEq MV.str.injEq MV.bl.injEq MV.tup.injEq MV.frl.injEq MV.ref.injEq MV.ty.injEq MO.lst.injEq MO.dic.injEq MO.ins.injEq Prod.mk.injEq exists_eq_left' exists_eq_left exists_and_left true_and and_true false_and and_false true_or or_true false_or or_false reduceCtorEq ne_eq not_false_eq_true not_true_eq_false List.set_cons_zero List.set_cons_succ decide_eq_true_eq Bool.not_eq_true' decide_eq_false_iff_not if_true if_false Bool.false_eq_true reduceIte List.length_cons List.length_nil and_self String.reduceEq String.reduceNe Int.reduceLT Int.reduceLE Int.reducePow Int.reduceNeg Int.reduceToNat Int.reduceSub Int.reduceAdd Int.reduceMul Nat.reduceLT Nat.reducePow Nat.reduceLeDiff".splitOn " ").toArray.mapM λs=>`(Lean.Parser.Tactic.simpLemma|$(Lean.mkIdent s.toName):term)
 `(tactic|simp only[$[$a:simpLemma],*])
local macro_rules|`(tactic|simp!)=>`(tactic|walk_at "s")
local macro_rules|`(tactic|simp! [$l,*])=>`(tactic|repeat (first|walk_at "s"|simp only [$l,*]))
theorem _oO{j:Sort _}{p q:j->Prop}(h:∀a,p a->q a):(∃a,p a)->∃a,q a:=fun⟨a,x⟩=>⟨a,h a x⟩
theorem _m9{a b c:Prop}(h:b->c):a/\b->a/\c:=λx=>⟨x.1,h x.2⟩
theorem _kx{a b c d:Prop}(h:a->c)(g:b->d):a/\b->c/\d:=λx=>⟨h x.1,g x.2⟩
theorem _nQ{a b c d:Prop}(h:a->c)(g:b->d):a\/b->c\/d:=λx=>x.elim (λy=>.inl (h y)) λy=>.inr (g y)
theorem _mb{j:Sort _}{p q:j->Prop}(h:∀a,p a->q a):(∀a,p a)->∀a,q a:=λx a=>h a (x a)
local macro_rules | `(tactic| walk_at "m") => `(tactic| (intro vs M Q Q' hq; repeat (first | exact hq _ _ | exact id | refine _oO fun _ => ?_ | refine _m9 ?_ | refine _kx ?_ ?_ | refine _mb fun _ => ?_ | refine _nQ ?_ ?_)))
noncomputable def SameM(M M':MH):Prop:=∀a o,M a=some o->M' a=some o
theorem SameM.refl(M:MH):SameM M M:=λ_ _ h=>h
theorem SameM.trans{M M1 M2:MH}(a:SameM M M1)(b:SameM M1 M2):SameM M M2:=λc o h=>b c o (a c o h)
theorem neM{M:MH}{a p:Addr}{o:MO}(h:M a=some o)(j:M p=none):a≠p:=by intro e;subst e;rw[h]at j;cases j
theorem SameM.new{M:MH}{p:Addr}(h:M p=none)(o:MO):SameM M (updM M p o):=λa u e=>by rw[X8 (neM e h)];exact e
theorem SameM.free{M M':MH}(s:SameM M M'){p:Addr}(h:M' p=none):M p=none:=by
 cases e:M p with
 |none=>rfl
 |some o=>rw[s _ _ e]at h;cases h
theorem SameM.upd{M M':MH}(s:SameM M M'){p:Addr}(h:M p=none)(o:MO):SameM M (updM M' p o):=λa u e=>by rw[X8 (neM e h)];exact s a u e
theorem Bm{lo:Int}{n i:Nat}{x:MV}(h:(Src.rng lo n).items[i]?=some x):i<n/\x=.int (lo+(i:Nat)):=by
 have j:=(XE.mp h).1;rw[Src.items_len]at j;refine⟨j,?_⟩;have l:((Xs n).map λi=>MV.int (lo+(i:Nat)))[i]?=some x:=h;rw[Xr,X7 (by simpa using(show i<n from j))]at l
 simpa using l.symm
theorem YF{l:Type}{f:l->MV}{xs:List l}{i:Nat}{x:MV}(h:(xs.map f)[i]?=some x):∃j:i<xs.length,x=f xs[i]:=by
 have j:=(XE.mp h).1;rw[Xb]at j;refine⟨j,?_⟩;rw[Xr,X7 j]at h;exact(Yd h).symm
theorem UG{Φ:List (Str×SpM)}(l:∀p∈Φ,MonW p.2):∀(j:Nat)f sp,Φ[j]?=some (f,sp)->MonW sp:=λj f sp h=>l (f,sp) (Xu h)
theorem _i9(xs:List MV)(k:Nat):cutM xs (some (k:Int)) none=xs.drop k:=by
 unfold cutM;rw[HT.sIx_none,HT.sIx_nat];by_cases h:k<=xs.length
 .rw[Cf h,UR (by rw[C0];exact Xf _)]
 .rw[Nat.min_eq_right (by lia),HG (Xf _),HG (by lia)]
  simp
theorem Dl{w:Type} [DecidableEq w] (k:w)(v:MV)(j:w):∀l:List (w×MV),valM (putM l k v) j=if j=k then some v else valM l j
 |[]=>by
  unfold putM valM;by_cases e:k=j
  .rw[if_pos e,if_pos e.symm]
  .rw[if_neg e,if_neg (λz=>e z.symm)]
   rfl
 |(i,u)::r=>by
  unfold putM;by_cases e:i=k
  .rw[if_pos e];subst e;unfold valM;by_cases f:i=j
   .rw[if_pos f,if_pos f.symm]
   .rw[if_neg f,if_neg (λz=>f z.symm),if_neg f]
  .rw[if_neg e];unfold valM;by_cases f:i=j
   .rw[if_pos f,if_neg (λz=>e (f.trans z)),if_pos f]
   .rw[if_neg f,Dl k v j r,if_neg f]
inductive Form where|plus|minus|times|less|same
noncomputable def Form.str:Form->Str
 |.plus=>"plus"|.minus=>"minus"|.times=>"times"|.less=>"less"|.same=>"same"
inductive Tm where
 |num (n:Int)|var (x:Str)|two (f:Form)(a b:Tm)|pick (c a b:Tm)
noncomputable def Tm.depth:Tm->Nat
 |.num _=>1|.var _=>1|.two _ a b=>1+max a.depth b.depth|.pick c a b=>1+max c.depth (max a.depth b.depth)
noncomputable def Tm.size:Tm->Nat
 |.num _=>1|.var _=>1|.two _ a b=>1+(a.size+b.size)|.pick c a b=>1+(c.size+(a.size+b.size))
noncomputable def Tm.reads:Tm->List Str
 |.num _=>[]|.var x=>[x]|.two _ a b=>a.reads++b.reads|.pick c a b=>c.reads++(a.reads++b.reads)
noncomputable def twoV(w:Nat)(l r:Int):Form->Int
 |.plus=>(l+r)%2^w
 |.minus=>(l - r)%2^w
 |.times=>(l*r)%2^w
 |.less=>if l<r then 1 else 0
 |.same=>if l=r then 1 else 0
def Tm.val(ρ:Str->Int)(w:Nat):Tm->Int
 |.num n=>n%2^w
 |.var x=>ρ x
 |.two f a b=>twoV w (a.val ρ w) (b.val ρ w) f
 |.pick c a b=>if c.val ρ w≠0 then a.val ρ w else b.val ρ w
theorem W8(w:Nat):(0:Int)<2^w:=Int.pow_pos (by decide)
theorem Rv{w:Nat}(h:1<=w):(2:Int)<=2^w:=by
 obtain⟨k,rfl⟩:∃k,w=k+1:=⟨w - 1,by lia⟩
 rw[Int.pow_succ];have:=W8 k;lia
theorem Rw{w:Nat}(h:w<=64):(2:Int)^w<=2^64:=by
 have:=Cd (n:=2) (by decide) h
 have j:(2:Int)^w=((2^w:Nat):Int):=by rw[Wv];rfl
 have l:(2:Int)^64=((2^64:Nat):Int):=by decide
 rw[j,l];exact Int.ofNat_le.mpr this
theorem Dm(x:Int)(w:Nat):0<=x%2^w/\x%2^w<2^w:=⟨ZH _ (Int.ne_of_gt (W8 w)),U3 _ (W8 w)⟩
theorem twoV_in{w:Nat}(hw:1<=w)(l r:Int)(f:Form):0<=twoV w l r f/\twoV w l r f<2^w:=by
 have:=Rv hw;cases f
 .exact Dm _ _
 .exact Dm _ _
 .exact Dm _ _
 .unfold twoV;split<;>lia
 .unfold twoV;split<;>lia
theorem Tm.val_in{ρ:Str->Int}{w:Nat}(hw:1<=w):∀{T:Tm},(∀x∈T.reads,0<=ρ x/\ρ x<2^w)->0<=T.val ρ w/\T.val ρ w<2^w
 |.num n,_=>Dm _ _
 |.var x,h=>h x (by simp[Tm.reads])
 |.two f a b,_=>twoV_in hw _ _ f
 |.pick c a b,h=>by
  unfold Tm.val;split
  .exact a.val_in hw λx j=>h x (by simp[Tm.reads,j])
  .exact b.val_in hw λx j=>h x (by simp[Tm.reads,j])
theorem Tm.depth_pos:∀T:Tm,1<=T.depth
 |.num _=>Xf _
 |.var _=>Xf _
 |.two _ _ _=>Nat.le_add_right _ _
 |.pick _ _ _=>Nat.le_add_right _ _
noncomputable def Tm.mv:Tm->MV
 |.num n=>.tup [.str "num",.int n]
 |.var x=>.tup [.str "var",.str x]
 |.two f a b=>.tup [.str f.str,a.mv,b.mv]
 |.pick c a b=>.tup [.str "pick",c.mv,a.mv,b.mv]
theorem Rx(f:Form):¬f.str="num":=by cases f<;>decide+kernel
theorem Gz(f:Form):¬f.str="var":=by cases f<;>decide+kernel
theorem _k1(f:Form):¬f.str="pick":=by cases f<;>decide+kernel
inductive Stp where
 |take (f x:Str)|give (f:Str)(T:Tm)|put (x:Str)(T:Tm)|jump (T:Tm)(i:Int)
noncomputable def Stp.mv:Stp->MV
 |.take f x=>.tup [.str "take",.str f,.str x]
 |.give f T=>.tup [.str "give",.str f,T.mv]
 |.put x T=>.tup [.str "put",.str x,T.mv]
 |.jump T i=>.tup [.str "jump",T.mv,.int i]
noncomputable def tmOk(j:List Str)(T:Tm):Prop:=T.depth<=8/\T.size<=30/\∀x∈T.reads,x∈j
def Stp.ok(j:List Str)(n:Nat):Stp->Prop
 |.take _ x=>x∈j
 |.give _ T=>tmOk j T
 |.put x T=>x∈j/\tmOk j T
 |.jump T i=>tmOk j T/\0<=i/\i<=n
noncomputable def Do(M:MH)(x:MV)(xs:List MV):Prop:=x=.tup xs\/∃a,x=.ref a/\M a=some (.lst xs)
def readsOk(l:List Str)(j:List (Key×MV))(ρ:Str->Int)(w:Nat):Prop:=∀x∈l,valM j (Xm x)=some (.int (ρ x))/\0<=ρ x/\ρ x<2^w
theorem readsOk.tm{l:List Str}{j:List (Key×MV)}{ρ:Str->Int}{w:Nat}(h:readsOk l j ρ w){T:Tm}(o:tmOk l T):∀x∈T.reads,valM j (Xm x)=some (.int (ρ x))/\0<=ρ x/\ρ x<2^w:=λx u=>h x (o.2.2 x u)
section
variable{P:Xw}{w:Xn}{K:X4}{mg:Str->Option X0}{base:Heap}{t:Adr}
noncomputable abbrev Zu:SpM:=λj M Q=>∃k:Nat,j=[.int k]/\k<=64/\Q (.int (2^k)) M
theorem Dp:MonW Zu:=by walk_at "m"
theorem Dq(T:Txt K mg t):FnOk P w K mg base CX0 1 t.dM t.fJ ["exponent"] (liSp K Zu):=by
 refine T.aB.F.okM _iM (fC (G:=L3) (Φ:=[]) T rfl nl0 nl0) F3 _ke (λu M Q h=>?_) (λu M Q h=>?_)
 .obtain⟨k,rfl,_⟩:=h;rfl
 obtain⟨k,rfl,z,q⟩:=h;show wSs _ _ _ [some (.int k),none,none] M;delta F3 L1;simp!;delta L0;simp!;refine⟨by lia,by lia,λi j l=>l=M/\∃v,j=[some (.int k),some (.int (2^i)),v],⟨rfl,_,rfl⟩,λ_ _ _ _=>trivial,?_,?_⟩
 .rintro i x j l y ⟨rfl,v,rfl⟩;obtain⟨m,rfl⟩:=Bm y;delta KZ;simp!;exact⟨_,by rw[Int.pow_succ]⟩
 .rintro j l ⟨rfl,v,rfl⟩;delta KY;simp!;exact q
noncomputable abbrev Dr:SpM:=λj M Q=>∃(w:Nat) (n:Int),j=[.int w,.int n]/\w<=64/\Q (.int (n%2^w)) M
theorem Ry:MonW Dr:=by walk_at "m"
theorem Rz(T:Txt K mg t):FnOk P w K mg base CX0 2 t.dw t.gG ["width","number"] (liSp K Dr):=by
 refine T.aE.F.okM _py (fC (G:=L7) (Φ:=[("two_to",Zu)]) T rfl (fMc ⟨Dp,nl0⟩) (fMc ⟨fE T.aB (Dq T),nl0⟩)) F5 _rd (fun j M Q h=>?_) (fun j M Q h=>?_)
 .obtain⟨k,n,rfl,_⟩:=h;rfl
 obtain⟨w,n,rfl,l,q⟩:=h;show wSs _ _ _ [some (.int w),some (.int n)] M;delta F5 L6;simp!;exact⟨w,rfl,l,W8 w,q⟩
abbrev GA:SpM:=λj M Q=>∃(f:Form) (l r:Int) (w:Nat),j=[.str f.str,.int l,.int r,.int w]/\w<=64/\(-(2^64)<l/\l<2^64)/\Q (.int (twoV w l r f)) M
theorem _82:MonW GA:=by walk_at "m"
theorem _bo(T:Txt K mg t):FnOk P w K mg base CX0 3 t.cJ t.fH ["form","left","right","width"] (liSp K GA):=by
 refine T.aP.F.okM _bb (fC (G:=MX) (Φ:=[("cut",Dr)]) T rfl (fMc ⟨Ry,nl0⟩) (fMc ⟨fE T.aE (Rz T),nl0⟩)) FB _c1 (fun u M Q h=>?_) (fun u M Q h=>?_)
 .obtain⟨f,l,r,w,rfl,_⟩:=h;rfl
 obtain⟨f,l,r,w,rfl,j,y,q⟩:=h;show wSs _ _ _ [some (.str f.str),some (.int l),some (.int r),some (.int w)] M;delta FB MW;simp!;cases f with
 |plus=>
  rw[if_pos (by rfl),MU]
  simp!;exact⟨w,_,rfl,j,q⟩
 |minus=>
  rw[if_neg (by decide+kernel),Bd]
  simp!;rw[if_pos (by rfl),MS]
  simp!;exact⟨w,_,rfl,j,q⟩
 |times=>
  rw[if_neg (by decide+kernel),Bd]
  simp!;rw[if_neg (by decide+kernel),Df]
  simp!;rw[if_pos (by rfl),MR]
  simp!;exact⟨.inl y,w,_,rfl,j,q⟩
 |less=>
  rw[if_neg (by decide+kernel),Bd]
  simp!;rw[if_neg (by decide+kernel),Df]
  simp!;rw[if_neg (by decide+kernel),FA]
  simp!;rw[if_pos (by rfl),MQ]
  simp!;unfold twoV at q;split<;>simp_all
 |same=>
  rw[if_neg (by decide+kernel),Bd]
  simp!;rw[if_neg (by decide+kernel),Df]
  simp!;rw[if_neg (by decide+kernel),FA]
  simp!;rw[if_neg (by decide+kernel),MP]
  simp!;unfold twoV at q;split<;>simp_all
abbrev UH(n:Nat):SpM:=λu M Q=>∃(T:Tm) (w:Nat) (d:Addr) (j:List (Key×MV)) (l:Str->Int),u=[T.mv,.int w,.ref d]/\T.depth<=n/\1<=w/\w<=64/\M d=some (.dic j)/\
 (∀x∈T.reads,valM j (Xm x)=some (.int (l x))/\0<=l x/\l x<2^w)/\Q (.int (T.val l w)) M
theorem Ds(n:Nat):MonW (UH n):=by walk_at "m"
theorem Du(T:Txt K mg t):∀n:Nat,FnOk P w K mg base CX0 (n+3) t.gH t.gC ["T","width","words"] (liSp K (UH n))
 |0=>by
  have I:∀R M Q,¬UH 0 R M Q:=λR M Q h=>by
   obtain⟨T,w,d,u,j,_,B,_⟩:=h;have:=T.depth_pos;lia
  exact⟨λR H Q E ⟨S,M,r,X,h⟩=>absurd h (I _ _ _),λA C s H J a R Q E _ _ _ _ ⟨S,M,r,X,h⟩=>absurd h (I _ _ _)⟩
 |n+1=>by
  have v:=Du T n;refine T.ai.F.okM _kZ (fC (G:=N3) (Φ:=[("cut",Dr),("worth",(UH n)),("worth_of_two",GA)]) T rfl (fMc ⟨Ry,(fMc ⟨(Ds _),(fMc ⟨_82,nl0⟩)⟩)⟩) (fMc ⟨⟨_,_,_,FnOk.mono (Rz T) (by lia),T.aE.m,T.aE.F.kp,T.aE.b⟩,(fMc ⟨⟨_,_,_,v,T.ai.m,T.ai.F.kp,T.ai.b⟩,(fMc ⟨⟨_,_,_,FnOk.mono (_bo T) (by lia),T.aP.m,T.aP.F.kp,T.aP.b⟩,nl0⟩)⟩)⟩)) FE _lW (fun R M Q h=>?_) (fun R M Q h=>?_)
  .obtain⟨T,w,d,u,j,rfl,_⟩:=h;rfl
  obtain⟨U,w,d,u,j,rfl,Z,y,p,W,Y,q⟩:=h;show wSs _ _ _ [some U.mv,some (.int w),some (.ref d),none] M;have o:=Rw p;delta FE N2;cases U with
  |num m=>
   simp only[Tm.mv];simp!;delta N1;simp!;exact⟨w,m,rfl,p,q⟩
  |var x=>
   have i:=(Y x (by simp[Tm.reads])).1
   simp only[Tm.mv];simp!;delta Dh;simp!;delta N0;simp!;simp only[W];simp!;exact⟨_,i,q⟩
  |two f l r=>
   have L:l.depth<=n:=by unfold Tm.depth at Z;lia
   have N:r.depth<=n:=by unfold Tm.depth at Z;lia
   have g:∀x∈l.reads,valM u (Xm x)=some (.int (j x))/\0<=j x/\j x<2^w:=λx z=>Y x (by simp[Tm.reads,z])
   have O:∀x∈r.reads,valM u (Xm x)=some (.int (j x))/\0<=j x/\j x<2^w:=λx z=>Y x (by simp[Tm.reads,z])
   have b:=l.val_in y λx z=>(g x z).2;simp only[Tm.mv];simp!;rw[if_neg (Rx f),Dh];simp!;rw[if_neg (Gz f),FD];simp!;refine⟨l,w,d,u,j,rfl,L,y,p,W,g,?_⟩;delta FC;simp!;rw[if_neg (_k1 f),MY];simp!;exact⟨r,w,d,u,j,rfl,N,y,p,W,O,f,_,_,w,rfl,p,⟨by lia,by lia⟩,q⟩
  |pick c l r=>
   have D:c.depth<=n:=by unfold Tm.depth at Z;lia
   have L:l.depth<=n:=by unfold Tm.depth at Z;lia
   have N:r.depth<=n:=by unfold Tm.depth at Z;lia
   have F:∀x∈c.reads,valM u (Xm x)=some (.int (j x))/\0<=j x/\j x<2^w:=λx z=>Y x (by simp[Tm.reads,z])
   have g:∀x∈l.reads,valM u (Xm x)=some (.int (j x))/\0<=j x/\j x<2^w:=λx z=>Y x (by simp[Tm.reads,z])
   have O:∀x∈r.reads,valM u (Xm x)=some (.int (j x))/\0<=j x/\j x<2^w:=λx z=>Y x (by simp[Tm.reads,z])
   simp only[Tm.mv];simp!;delta Dh;simp!;delta FD;simp!;refine⟨c,w,d,u,j,rfl,D,y,p,W,F,?_⟩;delta FC;simp!;delta MZ;simp!;refine Y3 (λB=>?_) (λB=>?_)
   .have e:Tm.val j w (.pick c l r)=l.val j w:=if_pos B;rw[e]at q;exact⟨l,w,d,u,j,rfl,L,y,p,W,g,q⟩
   .have e:Tm.val j w (.pick c l r)=r.val j w:=if_neg B;rw[e]at q;exact⟨r,w,d,u,j,rfl,N,y,p,W,O,q⟩
noncomputable def dueM(j:List Stp)(ρ:Str->Int)(w:Nat)(i:Nat):MV:=match j[i]? with
 |none=>.non
 |some (.take f _)=>.tup [.str "take",.str f]
 |some (.give f T)=>.tup [.str "give",.str f,.int (T.val ρ w)]
 |some _=>.tup [.str "own"]
abbrev V9:SpM:=λm M Q=>∃(x:MV) (u:Addr) (j:List Stp) (i w:Nat) (l:List (Key×MV)) (y:Str->Int) (z:List Str),m=[.int w,x,.int i,.ref u]/\Do M x (j.map Stp.mv)/\(∀s∈j,s.ok z j.length)/\i<=j.length/\1<=w/\w<=64/\M u=some (.dic l)/\readsOk z l y w/\
 Q (dueM j y w i) M
theorem _g7:MonW V9:=by walk_at "m"
theorem _nY(T:Txt K mg t):FnOk P w K mg base CX0 50 t.fc t.gI ["width","steps","number","words"] (liSp K V9):=by
 refine T.bD.F.okM _ng (fC (G:=N7) (Φ:=[("worth",(UH 40))]) T rfl (fMc ⟨(Ds _),nl0⟩) (fMc ⟨⟨_,_,_,FnOk.mono (Du T 40) (by decide),T.ai.m,T.ai.F.kp,T.ai.b⟩,nl0⟩)) FJ _oV (fun O M Q h=>?_) (fun O M Q h=>?_)
 .obtain⟨_,_,_,_,_,_,_,_,rfl,_⟩:=h;rfl
 obtain⟨x,m,u,i,w,g,z,B,rfl,W,d,C,r,p,e,Y,q⟩:=h;show wSs _ _ _ [some (.int w),some x,some (.int i),some (.ref m),none] M;delta FJ N6;have len:∀R:Prop,R->R:=λ_ h=>h;have rest:∀l:i<u.length,wSs [("worth",UH 40)] FG {nx:=fun x Z=>Q MV.non Z,rt:=Q} [some (.int w),some x,some (.int i),some (.ref m),some u[i].mv] M:=by
  intro l;have ok:=d u[i] (XQ _);have A:dueM u z w i=dueM [u[i]] z w 0:=by unfold dueM;rw[X7 l];rfl
  rw[A]at q;obtain⟨s,L⟩:∃s,u[i]=s:=⟨_,rfl⟩;rw[L]at ok q;rw[L];delta FG;cases s with
  |take f x=>
   simp only[Stp.mv];simp!;delta N5;simp!;exact q
  |give f U=>
   simp only[Stp.mv];simp!;delta Di;simp!;delta N4;simp!;exact⟨U,w,m,g,z,rfl,Y4 ok.1 (by decide),r,p,e,Y.tm ok,q⟩
  |put x U=>
   simp only[Stp.mv];simp!;delta Di;simp!;delta FF;simp!;exact q
  |jump U j=>
   simp only[Stp.mv];simp!;delta Di;simp!;delta FF;simp!;exact q
 have N:¬i<u.length->dueM u z w i=.non:=λc=>by unfold dueM;rw[DP.mpr (by lia)]
 rcases W with rfl|⟨D,rfl,y⟩
 .simp!;rw[Xb];refine Y3 (λc=>?_) (λc=>?_)
  .delta FI;simp!;rw[<-N (by lia)]
   exact q
  have l:i<u.length:=by lia
  delta FH;simp!;exact⟨_,Yp (by rw[Xr,X7 l];rfl),rest l⟩
 .simp![y]
  rw[Xb];refine Y3 (λc=>?_) (λc=>?_)
  .delta FI;simp!;rw[<-N (by lia)]
   exact q
  have l:i<u.length:=by lia
  delta FH
  simp![y]
  exact⟨_,Yp (by rw[Xr,X7 l];rfl),rest l⟩
noncomputable def W9(s:Stp)(ρ:Str->Int)(w i:Nat):Int:=match s with
 |.jump T j=>if T.val ρ w≠0 then j else(i:Int)+1
 |_=>(i:Int)+1
def Dv(s:Stp)(j:List (Key×MV))(ρ:Str->Int)(w:Nat)(wd:MV):List (Key×MV):=match s with
 |.take _ x=>putM j (Xm x) wd
 |.put x T=>putM j (Xm x) (.int (T.val ρ w))
 |_=>j
abbrev GD:SpM:=λm M Q=>∃(x:MV) (u:Addr) (l:List Stp) (i w:Nat) (j:List (Key×MV)) (y:Str->Int) (z:List Str) (s:Stp),m=[.int w,x,.int i,.ref u]/\Do M x (l.map Stp.mv)/\l[i]?=some s/\s.ok z l.length/\1<=w/\w<=64/\M u=some (.dic j)/\readsOk z j y w/\
 Q (.int (W9 s y w i)) M
theorem _83:MonW GD:=by walk_at "m"
theorem RA{M:MH}{x:MV}{l:List Stp}{i:Nat}{s:Stp}{Q:QM}(u:Do M x (l.map Stp.mv))(y:l[i]?=some s)(q:Q s.mv M):wIx x (.int i) M Q:=by
 have j:atI (l.map Stp.mv) (i:Int)=some s.mv:=Yp (by rw[Xr,y];rfl)
 rcases u with rfl|⟨a,rfl,h⟩
 .rw[KO];exact⟨_,j,q⟩
 .rw[KM,h,KN];exact⟨_,j,q⟩
theorem _bq(T:Txt K mg t):FnOk P w K mg base CX0 50 t.ij t.eh ["width","steps","number","words"] (liSp K GD):=by
 refine T.aN.F.okM _be (fC (G:=Nb) (Φ:=[("worth",(UH 40))]) T rfl (fMc ⟨(Ds _),nl0⟩) (fMc ⟨⟨_,_,_,FnOk.mono (Du T 40) (by decide),T.ai.m,T.ai.F.kp,T.ai.b⟩,nl0⟩)) FK _c4 (fun d M Q h=>?_) (fun d M Q h=>?_)
 .obtain⟨_,_,_,_,_,_,_,_,_,rfl,_⟩:=h;rfl
 obtain⟨x,g,N,i,w,l,u,O,s,rfl,r,p,ok,y,z,m,L,q⟩:=h;show wSs _ _ _ [some (.int w),some x,some (.int i),some (.ref g),none] M;delta FK Na;simp!;refine RA r p ?_;delta N9;cases s with
 |take f x=>
  simp only[Stp.mv];simp!;delta Be;simp!;exact q
 |give f U=>
  simp only[Stp.mv];simp!;delta Be;simp!;exact q
 |put x U=>
  simp only[Stp.mv];simp!;delta Be;simp!;exact q
 |jump U j=>
  simp only[Stp.mv];simp!;refine⟨U,w,g,l,u,rfl,Y4 ok.1.1 (by decide),y,z,m,L.tm ok.1,?_⟩
  simp!;refine Y3 (λc=>?_) (λc=>?_)
  .have e:W9 (.jump U j) u w i=j:=if_pos c;rw[e]at q;delta N8;simp!;exact q
  .have e:W9 (.jump U j) u w i=(i:Int)+1:=if_neg c;rw[e]at q;delta Be;simp!;exact q
abbrev GE:SpM:=λm M Q=>∃(l:Addr) (w:Nat) (j:List (Key×MV)) (u:Str->Int) (y:List Str) (s:Stp) (k:Nat) (z:MV),m=[.int w,s.mv,.ref l,z]/\s.ok y k/\1<=w/\w<=64/\M l=some (.dic j)/\j.length<=1000/\readsOk y j u w/\
 ∀p,M p=none->Q (.ref p) (updM M p (.dic (Dv s j u w z)))
theorem _8y:MonW GE:=by walk_at "m"
theorem _cu(T:Txt K mg t):FnOk P w K mg base CX0 50 t.gq t.dh ["width","step","words","word"] (liSp K GE):=by
 refine T.aF.F.okM _cm (fC (G:=Ni) (Φ:=[("worth",(UH 40))]) T rfl (fMc ⟨(Ds _),nl0⟩) (fMc ⟨⟨_,_,_,FnOk.mono (Du T 40) (by decide),T.ai.m,T.ai.F.kp,T.ai.b⟩,nl0⟩)) FL _cK (fun c M Q h=>?_) (fun c M Q h=>?_)
 .obtain⟨_,_,_,_,_,_,_,_,rfl,_⟩:=h;rfl
 obtain⟨g,w,l,r,R,s,k,e,rfl,ok,z,m,u,L,N,q⟩:=h;show wSs _ _ _ [some (.int w),some s.mv,some (.ref g),some e,none] M;delta FL Nh
 simp![u]
 intro p d;have y:=SameM.new d (.dic l) _ _ u;have O:updM M p (.dic l) p=some (.dic l):=Xa;have q:=q p d;delta Nf;cases s with
 |take f x=>
  simp only[Stp.mv];simp!;delta Nd;simp!;refine⟨by lia,?_⟩
  rw[YK];delta Bg;simp!;delta Bf;simp!;exact q
 |give f U=>
  simp only[Stp.mv];simp!;delta Bg;simp!;delta Bf;simp!;exact q
 |put x U=>
  simp only[Stp.mv];simp!;delta Bg;simp!;delta Nc;simp!;refine⟨U,w,g,l,r,rfl,Y4 ok.2.1 (by decide),z,m,y,N.tm ok.2,?_⟩
  simp!;refine⟨by lia,?_⟩
  rw[YK];delta Bf;simp!;exact q
 |jump U j=>
  simp only[Stp.mv];simp!;delta Bg;simp!;delta Bf;simp!;exact q
abbrev GF:SpM:=λg M Q=>∃(x:MV) (y:Addr) (l:List Stp) (i w:Nat) (j:List (Key×MV)) (u:Str->Int) (z:List Str) (s:Stp) (m:MV),g=[.int w,x,.int i,.ref y,m]/\Do M x (l.map Stp.mv)/\l[i]?=some s/\s.ok z l.length/\1<=w/\w<=64/\M y=some (.dic j)/\j.length<=1000/\readsOk z j u w/\
 ∀p,M p=none->Q (.tup [.int (W9 s u w i),.ref p]) (updM M p (.dic (Dv s j u w m)))
theorem _f4:MonW GF:=by walk_at "m"
theorem _lp(T:Txt K mg t):FnOk P w K mg base CX0 51 t.cH t.cY ["width","steps","number","words","word"] (liSp K GF):=by
 refine T.bn.F.okM _l2 (fC (G:=Nk) (Φ:=[("number_after",GD),("words_after",GE)]) T rfl (fMc ⟨_83,(fMc ⟨_8y,nl0⟩)⟩) (fMc ⟨⟨_,_,_,FnOk.mono (_bq T) (by decide),T.aN.m,T.aN.F.kp,T.aN.b⟩,(fMc ⟨⟨_,_,_,FnOk.mono (_cu T) (by decide),T.aF.m,T.aF.F.kp,T.aF.b⟩,nl0⟩)⟩)) FM _lZ (fun L M Q h=>?_) (fun L M Q h=>?_)
 .obtain⟨_,_,_,_,_,_,_,_,_,_,rfl,_⟩:=h;rfl
 obtain⟨x,z,N,i,w,j,g,d,s,c,rfl,f,r,ok,l,u,y,m,e,q⟩:=h;show wSs _ _ _ [some (.int w),some x,some (.int i),some (.ref z),some c] M;delta FM Nj;simp!;refine⟨x,z,N,i,w,j,g,d,s,rfl,f,r,ok,l,u,y,e,?_⟩;refine RA f r ?_;refine⟨z,w,j,g,d,s,_,c,rfl,ok,l,u,y,m,e,λp O=>?_⟩;exact q p O
def szs(j:List Tm):Nat:=(j.map Tm.size).sum
theorem RB(a b:List Tm):szs (a++b)=szs a+szs b:=by unfold szs;rw[XX,List.sum_append]
theorem _n9(a:Tm):szs [a]=a.size:=by simp[szs]
theorem RC{T:Tm}:∀{j:List Tm},T∈j->T.size<=szs j
 |U::j,h=>by
  have e:szs (U::j)=U.size+szs j:=by simp[szs]
  rcases Xl.mp h with z|z
  .subst z;lia
  .have:=RC z;lia
noncomputable def Tm.kids:Tm->List Tm
 |.num _=>[]
 |.var _=>[]
 |.two _ a b=>[a,b]
 |.pick c a b=>[c,a,b]
theorem Tm.size_kids:∀T:Tm,T.size=1+szs T.kids
 |.num _=>rfl
 |.var _=>rfl
 |.two _ a b=>by simp[Tm.size,Tm.kids,szs]
 |.pick c a b=>by simp[Tm.size,Tm.kids,szs]
noncomputable def mxd(j:List Tm):Nat:=j.foldl (λa T=>max a T.depth) 0
theorem _o7(j:List Tm)(T:Tm):mxd (j++[T])=max (mxd j) T.depth:=by unfold mxd;rw[DW];rfl
theorem Tm.depth_kids:∀T:Tm,T.depth=mxd T.kids+1
 |.num _=>rfl
 |.var _=>rfl
 |.two _ a b=>by simp[Tm.depth,Tm.kids,mxd];lia
 |.pick c a b=>by simp[Tm.depth,Tm.kids,mxd];lia
theorem Tm.kid_depth{T U:Tm}(h:U∈T.kids):U.depth<T.depth:=by
 cases T<;>simp[Tm.kids]at h
 .rcases h with rfl|rfl<;>(simp only[Tm.depth];lia)
 .rcases h with rfl|rfl|rfl<;>(simp only[Tm.depth];lia)
theorem Tm.kid_size{T U:Tm}(h:U∈T.kids):U.size<T.size:=by
 rw[T.size_kids];have:=RC h;lia
def rds(j:List Tm):List Str:=(j.map Tm.reads).flatten
theorem _nm(j:List Tm)(T:Tm):rds (j++[T])=rds j++T.reads:=by simp[rds]
theorem Tm.reads_kids:∀T:Tm,(∀x,T≠.var x)->T.reads=rds T.kids
 |.num _,_=>rfl
 |.var x,h=>absurd rfl (h x)
 |.two _ a b,_=>by simp[Tm.reads,Tm.kids,rds]
 |.pick c a b,_=>by simp[Tm.reads,Tm.kids,rds]
theorem Tm.reads_len:∀T:Tm,T.reads.length<=T.size
 |.num _=>by simp[Tm.reads]
 |.var _=>by simp[Tm.reads,Tm.size]
 |.two _ a b=>by
  have:=a.reads_len;have:=b.reads_len;simp[Tm.reads,Tm.size];lia
 |.pick c a b=>by
  have:=a.reads_len;have:=b.reads_len;have:=c.reads_len;simp[Tm.reads,Tm.size];lia
theorem RD:∀j:List Tm,(rds j).length<=szs j
 |[]=>Xf _
 |T::j=>by
  have:=RD j;have:=T.reads_len;have e:szs (T::j)=T.size+szs j:=by simp[szs]
  have l:rds (T::j)=T.reads++rds j:=by simp[rds]
  rw[e,l,Ye];lia
theorem _kR(j:List Tm)(i:Nat):szs (j.take i)<=szs j:=by
 have l:=RB (j.take i) (j.drop i);rw[List.take_append_drop]at l;lia
theorem RE(x:MV)(xs:List MV):cutM (x::xs) (some 1) none=xs:=by
 have:=_i9 (x::xs) 1
 simpa using this
abbrev Bn:SpM:=λj M Q=>∃T:Tm,j=[T.mv]/\∀p,M p=none->Q (.ref p) (updM M p (.lst (T.kids.map Tm.mv)))
theorem RF:MonW Bn:=by walk_at "m"
theorem RG(T:Txt K mg t):FnOk P w K mg base CX0 1 t.fX t.ef ["T"] (liSp K Bn):=by
 refine T.aw.F.okM _bd (fC (G:=Ms) (Φ:=[]) T rfl nl0 nl0) Fu _c3 (λj M Q h=>?_) (λj M Q h=>?_)
 .obtain⟨T,rfl,_⟩:=h;rfl
 obtain⟨U,rfl,q⟩:=h;show wSs _ _ _ [some U.mv] M;delta Fu Mr;cases U with
 |num m=>
  simp only[Tm.mv];simp!;delta Ft;simp!;exact q
 |var x=>
  simp only[Tm.mv];simp!;delta Ft;simp!;exact q
 |two f a b=>
  simp only[Tm.mv];simp!;rw[if_neg (Rx f),if_neg (Gz f),Fq];simp!;rw[RE];exact q
 |pick c a b=>
  simp only[Tm.mv];simp!;delta Fq;simp!;rw[RE];exact q
abbrev Bo(n:Nat):SpM:=λl M Q=>∃T:Tm,l=[T.mv]/\T.depth<=n/\∀j,SameM M j->Q (.tup [.int (T.size:Nat),.int (T.depth:Nat)]) j
theorem RI(n:Nat):MonW (Bo n):=by walk_at "m"
theorem RJ(T:Txt K mg t):∀n:Nat,FnOk P w K mg base CX0 (n+8) t.gJ t.ip ["T"] (liSp K (Bo n))
 |0=>by
  have p:∀j M Q,¬Bo 0 j M Q:=λj M Q h=>by
   obtain⟨T,_,S,_⟩:=h;have:=T.depth_pos;lia
  exact⟨λj H Q E ⟨W,M,r,Y,h⟩=>absurd h (p _ _ _),λA g s H L X j Q E _ _ _ _ ⟨W,M,r,Y,h⟩=>absurd h (p _ _ _)⟩
 |n+1=>by
  have Z:=RJ T n;refine T.ax.F.okM _hG (fC (G:=ME) (Φ:=[("parts_within",Bn),("size_of",(Bo n))]) T rfl (fMc ⟨RF,(fMc ⟨(RI _),nl0⟩)⟩) (fMc ⟨⟨_,_,_,FnOk.mono (RG T) (by lia),T.aw.m,T.aw.F.kp,T.aw.b⟩,(fMc ⟨⟨_,_,_,Z,T.ax.m,T.ax.F.kp,T.ax.b⟩,nl0⟩)⟩)) Fv _ic (fun j M Q h=>?_) (fun j M Q h=>?_)
  .obtain⟨T,rfl,_⟩:=h;rfl
  obtain⟨U,rfl,v,q⟩:=h;show wSs _ _ _ [some U.mv,none,none,none,none] M;delta Fv MD;simp!;delta MC;simp!;delta MB;simp!;refine⟨U,rfl,λm d=>?_⟩;have B:=SameM.new d (.lst (U.kids.map Tm.mv));have N:updM M m (.lst (U.kids.map Tm.mv)) m=some (.lst (U.kids.map Tm.mv)):=Xa;generalize updM M m (.lst (U.kids.map Tm.mv))=M1 at*
  simp![N]
  obtain⟨J,l⟩:∃J:Nat->Sm->MH->Prop,∀i u M2,J i u M2↔∃(c f:Option MV),SameM M1 M2/\u=[some U.mv,some (.int ((1+szs (U.kids.take i):Nat):Int)),some (.int ((mxd (U.kids.take i):Nat):Int)),c,f]:=⟨_,λ_ _ _=>Y8⟩;refine⟨J,(l _ _ _).2 ⟨_,_,SameM.refl _,rfl⟩,λi u M2 y=>?_,λi x u M2 C y=>?_,λu M2 y=>?_⟩
  .obtain⟨_,_,z,_⟩:=(l _ _ _).1 y;exact z _ _ N
  .obtain⟨c,f,z,rfl⟩:=(l _ _ _).1 y;obtain⟨O,rfl⟩:=YF C;have o:=U.kid_depth (XQ O);delta MA;simp!;refine⟨U.kids[i],rfl,by lia,λb D=>?_⟩
   delta Mz;simp!;delta Mw;simp!;have R:U.kids.take (i+1)=U.kids.take i++[U.kids[i]]:=by rw[Zk,X7 O];rfl
   have F:((1+szs (U.kids.take i):Nat):Int)+(U.kids[i].size:Nat)=((1+szs (U.kids.take (i+1)):Nat):Int):=by rw[R,RB,_n9];lia
   have I:(if((U.kids[i].depth:Nat):Int)>(mxd (U.kids.take i):Nat)then((U.kids[i].depth:Nat):Int)else(mxd (U.kids.take i):Nat))=((mxd (U.kids.take (i+1)):Nat):Int):=by
    rw[R,_o7];split<;>lia
   rw[F,I];exact(l _ _ _).2 ⟨_,_,z.trans D,rfl⟩
  .obtain⟨c,f,z,rfl⟩:=(l _ _ _).1 y;have e:U.kids.take (Src.lst m (U.kids.map Tm.mv)).len=U.kids:=by simp[Src.len]
   rw[e];delta Mv;simp!;have:=q M2 (B.trans z);rw[U.size_kids,U.depth_kids]at this;exact this
abbrev Wa(n:Nat):SpM:=λl M Q=>∃T:Tm,l=[T.mv]/\T.depth<=n/\T.size<=4000/\∀p j,SameM M j->M p=none->j p=some (.lst (T.reads.map MV.str))->Q (.ref p) j
theorem RK(n:Nat):MonW (Wa n):=by walk_at "m"
theorem RL(T:Txt K mg t):∀n:Nat,FnOk P w K mg base CX0 (n+8) t.cL t.fN ["T"] (liSp K (Wa n))
 |0=>by
  have S:∀z M Q,¬Wa 0 z M Q:=λz M Q h=>by
   obtain⟨T,_,O,_⟩:=h;have:=T.depth_pos;lia
  exact⟨λz H Q E ⟨ms,M,r,rh,h⟩=>absurd h (S _ _ _),λA W s H X us z Q E _ _ _ _ ⟨ms,M,r,rh,h⟩=>absurd h (S _ _ _)⟩
 |n+1=>by
  have ih:=RL T n;refine T.ay.F.okM _dD (fC (G:=ML) (Φ:=[("names_read",(Wa n)),("parts_within",Bn)]) T rfl (fMc ⟨(RK _),(fMc ⟨RF,nl0⟩)⟩) (fMc ⟨⟨_,_,_,ih,T.ay.m,T.ay.F.kp,T.ay.b⟩,(fMc ⟨⟨_,_,_,FnOk.mono (RG T) (by lia),T.aw.m,T.aw.F.kp,T.aw.b⟩,nl0⟩)⟩)) Fy _ea (fun z M Q h=>?_) (fun z M Q h=>?_)
  .obtain⟨T,rfl,_⟩:=h;rfl
  obtain⟨U,rfl,hn,hz,q⟩:=h;show wSs _ _ _ [some U.mv,none,none] M;have rest:(∀x,U≠.var x)->wSs [("names_read",Wa n),("parts_within",Bn)] Fw {nx:=fun x M'=>Q MV.non M',rt:=Q} [some U.mv,none,none] M:=by
   intro hv;delta Fw;simp!;intro l u;have v:=SameM.new u (.lst []);have O:updM M l (.lst []) l=some (.lst ([]:List MV)):=Xa;generalize updM M l (.lst [])=M0 at*;delta MI;simp!;refine⟨U,rfl,λy j=>?_⟩;have o:=SameM.new j (.lst (U.kids.map Tm.mv));have h1:updM M0 y (.lst (U.kids.map Tm.mv)) y=some (.lst (U.kids.map Tm.mv)):=Xa;have Y:=o _ _ O;have t1:=v.trans o;have nk:M y=none:=v.free j;generalize updM M0 y (.lst (U.kids.map Tm.mv))=M1 at*
   simp![h1]
   have ne:l≠y:=by
    intro e;rw[e]at O;rw[O]at j;cases j
   obtain⟨J,g⟩:∃J:Nat->Sm->MH->Prop,∀i d M2,J i d M2↔∃(Z:Option MV),SameM M M2/\M2 y=some (.lst (U.kids.map Tm.mv))/\M2 l=some (.lst ((rds (U.kids.take i)).map MV.str))/\d=[some U.mv,some (.ref l),Z]:=⟨_,λ_ _ _=>Y8⟩;refine⟨J,(g _ _ _).2 ⟨_,t1,h1,Y,rfl⟩,λi d M2 L=>?_,λi x d M2 hx L=>?_,λd M2 L=>?_⟩
   .obtain⟨_,_,R,_⟩:=(g _ _ _).1 L;exact R
   .obtain⟨Z,B,R,N,rfl⟩:=(g _ _ _).1 L;obtain⟨C,rfl⟩:=YF hx;have hk:=U.kid_depth (XQ C);have hk2:=U.kid_size (XQ C);delta MG;simp!;simp only[N];simp!;refine⟨⟨_,rfl⟩,?_⟩;refine⟨U.kids[i],rfl,by lia,by lia,λp3 M3 D n3 g3=>?_⟩
    have F:=D _ _ R;have I:=D _ _ N;simp!;have l1:=RD (U.kids.take i);have l2:=_kR U.kids i;have l3:=U.size_kids;have l4:=U.kids[i].reads_len;refine⟨_,I,_,g3,by simp only[Xb];lia,(g _ _ _).2 ⟨_,(B.trans D).upd u _,by rw[X8 ne.symm];exact F,?_,rfl⟩⟩
    rw[Xa,Zk,X7 C,En,_nm,XX]
   .obtain⟨Z,B,R,N,rfl⟩:=(g _ _ _).1 L;have e:U.kids.take (Src.lst y (U.kids.map Tm.mv)).len=U.kids:=by simp[Src.len]
    rw[e,<-U.reads_kids hv]at N;delta MF;simp!;exact q l M2 B u N
  delta Fy MK;cases U with
  |num m=>
   simp only[Tm.mv];simp!;exact rest (λ_ e=>by cases e)
  |var x=>
   simp only[Tm.mv];simp!;delta MJ;simp!;exact λp hp=>q p _ (SameM.new hp _) hp Xa
  |two f a b=>
   simp only[Tm.mv];simp!;rw[if_neg (Gz f)];exact rest (λ_ e=>by cases e)
  |pick c a b=>
   simp only[Tm.mv];simp!;exact rest (λ_ e=>by cases e)
abbrev GG:SpM:=λu M Q=>∃(T:Tm) (N:List Str),u=[T.mv]/\T.depth<=40/\T.size<=4000/\(∀x∈T.reads,x∈N)/\N.length<64/\
 ∀p l (j:List Str),SameM M l->M p=none->l p=some (.lst (j.map MV.str))->j.Nodup->(∀y,y∈j↔y∈T.reads)->PyProof.Rows.sortedS j=true->Q (.ref p) l
theorem _cB:MonW GG:=by walk_at "m"
theorem _hP(T:Txt K mg t):FnOk P w K mg base CX0 50 t.fZ t.dr ["T"] (liSp K GG):=by
 refine T.aI.F.okM _hF (fC (G:=MN) (Φ:=[("names_read",(Wa 40))]) T rfl (fMc ⟨(RK _),nl0⟩) (fMc ⟨⟨_,_,_,FnOk.mono (RL T 40) (by decide),T.ay.m,T.ay.F.kp,T.ay.b⟩,nl0⟩)) Fz _ib (fun u M Q h=>?_) (fun u M Q h=>?_)
 .obtain⟨T,N,rfl,_⟩:=h;rfl
 obtain⟨U,N,rfl,y,z,m,g,q⟩:=h;show wSs _ _ _ [some U.mv] M;delta Fz MM;simp!;refine⟨U,rfl,y,z,λd M1 j O c=>?_⟩;have R:scanBound=4096:=rfl;have:=U.reads_len;exact⟨d,U.reads,N,rfl,c,by lia,m,g,λp f l r e L=>q p _ f (j.trans (SameM.new l _)) (j.free l) Xa r e L⟩
noncomputable abbrev RN:SpM:=λ_ _ _=>False
theorem _og:MonW RN:=λ_ h=>h.elim
theorem _oM{P:Xw}{w:Xn}{K:X4}{mg:Str->Option X0}{base:Heap}{k:Nat}{f:Addr}{j:Xd}{ps:List Str}:FnOk P w K mg base CX0 k f j ps (liSp K λ_ _ _=>False):=
 ⟨λ_ _ _ _ ⟨_,_,_,_,h⟩=>h.elim,λ_ _ _ _ _ _ _ _ _ _ _ _ _ ⟨_,_,_,_,h⟩=>h.elim⟩
noncomputable def Zv(z:Str):Prop:=1<=z.length/\z.length<=8/\∀c∈z.cps.toList,97<=c/\c<=122
theorem RP{a b:Nat}:([a]:List Nat)<[b]↔a<b:=by
 rw[List.cons_lt_cons_iff];constructor
 .rintro(h|⟨_,h⟩)
  .exact h
  .exact absurd h (by simp)
 .exact .inl
theorem _t6:(("a":Str)).cps.toList=[97]:=by decide+kernel
theorem _t5:(("z":Str)).cps.toList=[122]:=by decide+kernel
theorem le_a{c:Nat}(h:97<=c):(!decide ((⟨#[c]⟩:Str).cps.toList<(("a":Str)).cps.toList))=true:=by
 rw[_t6];have:¬((⟨#[c]⟩:Str).cps.toList<[97]):=λz=>by
  have z:([c]:List Nat)<[97]:=z;rw[RP]at z;lia
 simpa using this
theorem le_z{c:Nat}(h:c<=122):(!decide ((("z":Str)).cps.toList<(⟨#[c]⟩:Str).cps.toList))=true:=by
 rw[_t5];have:¬([122]<(⟨#[c]⟩:Str).cps.toList):=λz=>by
  have z:([122]:List Nat)<[c]:=z;rw[RP]at z;lia
 simpa using this
abbrev GH:SpM:=λl M Q=>∃z:Str,l=[.str z]/\Zv z/\∀j,SameM M j->Q (.bl true) j
theorem _cC:MonW GH:=by walk_at "m"
theorem _hQ(T:Txt K mg t):FnOk P w K mg base CX0 1 t.dG t.eD ["text"] (liSp K GH):=by
 refine T.cm.F.okM _hI (fC (G:=Nn) (Φ:=[]) T rfl nl0 nl0) FN _ie (λl M Q h=>?_) (λl M Q h=>?_)
 .obtain⟨z,rfl,_⟩:=h;rfl
 obtain⟨z,rfl,⟨r,p,u⟩,q⟩:=h;show wSs _ _ _ [some (.str z)] M;delta FN Nm;simp!;refine⟨by lia,?_⟩
 rw[if_pos (by lia:(1:Int)<=(z.length:Int))]
 rw[if_pos (by lia:(z.length:Int)<=8)]
 refine _N z.cps.toList (λc=>.str ⟨#[c]⟩) (λ_=>.bl true) ?_ ?_ (λj f L h=>by simp at h) λD y=>?_
 .simp!;have:z.cps.toList.length=z.length:=Yv;exact⟨rfl,by lia,trivial⟩
 .intro c m N s;obtain⟨g,d⟩:=u c m;simp only[sCm,Xx,Yg,Yr,Ys,Ym,Y7];simp!;rw[if_pos (by simpa using le_a g)]
  simpa using le_z d
 simp!;refine⟨z.cps.toList.map λ_=>true,by rw[Yu];rfl,?_⟩
 have e:((z.cps.toList.map λ_=>true).all id)=true:=by simp
 rw[e];exact q _ (SameM.new y _)
theorem GJ{z:Str}{zs:List Str}:inV (toV (.str z)) ((zs.map MV.str).map toV)=decide (z∈zs):=by
 unfold inV
 induction zs with
 |nil=>simp
 |cons a r j=>
  rw[Xx,Xx,ZF,j];have e:eqV (toV (.str a)) (toV (.str z))=decide (a=z):=by
   show(a==z)=decide (a=z);by_cases h:a=z
   .subst h;simp
   .simp[h]
  rw[e];by_cases h:a=z
  .simp[h]
  .have l:¬z=a:=λw=>h w.symm;simp[h,l]
theorem RQ(zs:List Str):(zs.map MV.str).all Y9=true:=by
 rw[US];intro v j;obtain⟨x,_,rfl⟩:=XT.mp j
 rfl
abbrev Bp:SpM:=λu M Q=>∃(z:Str) (e:Addr) (j:List Str),u=[.str z,.ref e]/\M e=some (.lst (j.map MV.str))/\Zv z/\z∉j/\∀l,SameM M l->Q .non l
theorem GK:MonW Bp:=by walk_at "m"
theorem GM(T:Txt K mg t):FnOk P w K mg base CX0 2 t.i0 t.d0 ["text","earlier"] (liSp K Bp):=by
 refine T.aM.F.okM _cp (fC (G:=Nq) (Φ:=[("is_name",GH)]) T rfl (fMc ⟨_cC,nl0⟩) (fMc ⟨fE T.cm (_hQ T),nl0⟩)) FO _cN (fun u M Q h=>?_) (fun u M Q h=>?_)
 .obtain⟨z,a,j,rfl,_⟩:=h;rfl
 obtain⟨z,a,j,rfl,y,m,g,q⟩:=h;show wSs _ _ _ [some (.str z),some (.ref a)] M;delta FO Np;simp!;refine⟨z,rfl,m,λM1 l=>?_⟩;simp!;delta No;simp!;refine .inl ⟨_,l _ _ y,rfl,RQ j,?_⟩;rw[GJ,decide_eq_false g];simp!;exact q M1 l
noncomputable def Leaf(v:MV):Prop:=(∃i,v=.int i)\/∃z,v=.str z
def FroD:Nat->MH->MV->MV->Prop
 |0,_,v,v'=>Leaf v/\v'=v
 |n+1,M,v,v'=>(Leaf v/\v'=v)\/∃j:List (MV×MV),(v=.tup (j.map (·.1))\/∃a,v=.ref a/\M a=some (.lst (j.map (·.1))))/\v'=.tup (j.map (·.2))/\j.length<=1000/\∀p∈j,FroD n M p.1 p.2
theorem FroD.keep{M M':MH}(s:SameM M M'):∀{n:Nat} {v l:MV},FroD n M v l->FroD n M' v l
 |0,_,_,h=>h
 |n+1,v,l,h=>by
  rcases h with h|⟨u,j,y,z,m⟩
  .exact .inl h
  .refine .inr ⟨u,?_,y,z,λp g=>(m p g).keep s⟩;rcases j with j|⟨a,e,j⟩
   .exact .inl j
   .exact .inr ⟨a,e,s _ _ j⟩
abbrev ZR(n:Nat):SpM:=λu M Q=>∃v j,u=[v]/\FroD n M v j/\∀l,SameM M l->Q j l
theorem Dw(n:Nat):MonW (ZR n):=by walk_at "m"
theorem _gt{n:Nat}(y:∀(j:Nat)f sp,([("frozen",ZR n)]:List (Str×SpM))[j]?=some (f,sp)->MonW sp){vs:List MV} {M:MH} {Q:QM} (h:ZR (n+1) vs M Q):wSs [("frozen",ZR n)] W7 {nx:=fun _ M'=>Q .non M',rt:=Q} (A3 1 vs) M:=by
 obtain⟨v,R,rfl,d,q⟩:=h;show wSs _ _ _ [some v] M;delta W7 G2;rcases d with⟨l,rfl⟩|⟨c,m,rfl,T,r⟩
 .rcases l with⟨i,rfl⟩|⟨z,rfl⟩
  .simp!;simp only[decide_false,VE,Yn,if_false,reduceCtorEq,ne_eq,not_false_eq_true,true_and];delta W6;simp!;exact q M (SameM.refl _)
  .simp!;simp only[decide_false,VE,Yn,if_false,reduceCtorEq,ne_eq,not_false_eq_true,true_and];delta W6;simp!;exact q M (SameM.refl _)
 .have g:wSs [("frozen",ZR n)] G1 {nx:=fun e M=>wSs [("frozen",ZR n)] W6 {nx:=fun _ M'=>Q .non M',rt:=Q} e M,rt:=Q} [some v] M:=by
   delta G1;simp!;refine _kb c (·.1) (·.2) ?_ ?_ y λD M' U s L=>?_
   .rcases m with rfl|⟨a,rfl,u⟩
    .simp!;exact⟨rfl,by lia,trivial,λ_ _ h=>h⟩
    .simp![u]
     exact⟨rfl,by lia,u,λ_ _ h=>h⟩
   .intro p N M' s;simp only[sCm,Xx,Yg,Yr,Ys,Ym,Y7];simp!;exact⟨p.1,p.2,rfl,(r p N).keep s,λM2 O=>⟨rfl,O⟩⟩
   simp![L]
   exact q M' s
  rcases m with rfl|⟨a,rfl,u⟩
  .simp!;simp only[decide_true,Bool.or_true,Bool.true_or,if_true,reduceCtorEq,ne_eq,not_false_eq_true,true_and];exact g
  .simp![u]
   simp only[decide_true,Bool.or_true,Bool.true_or,if_true,reduceCtorEq,ne_eq,not_false_eq_true,true_and];exact g
theorem RT(T:Txt K mg t):∀n:Nat,FnOk P w K mg base CX0 (n+8) t.fK t.dB ["value"] (liSp K (ZR n))
 |0=>by
  refine T.am.F.okM KQ (fC (G:=G3) (Φ:=[("frozen",RN)]) T rfl (fMc ⟨@_og,nl0⟩) (fMc ⟨⟨_,_,_,_oM,T.am.m,T.am.F.kp,T.am.b⟩,nl0⟩)) W7 Oo (fun j M Q h=>?_) (fun j M Q h=>?_)
  .obtain⟨v,u,rfl,_⟩:=h;rfl
  obtain⟨v,u,rfl,⟨l,rfl⟩,q⟩:=h;show wSs _ _ _ [some u] M;delta W7 G2;rcases l with⟨i,rfl⟩|⟨z,rfl⟩
  .simp!;simp only[decide_false,VE,Yn,if_false,reduceCtorEq,ne_eq,not_false_eq_true,true_and];delta W6;simp!;exact q M (SameM.refl _)
  .simp!;simp only[decide_false,VE,Yn,if_false,reduceCtorEq,ne_eq,not_false_eq_true,true_and];delta W6;simp!;exact q M (SameM.refl _)
 |n+1=>by
  have y:=RT T n;refine T.am.F.okM KQ (fC (G:=G3) (Φ:=[("frozen",(ZR n))]) T rfl (fMc ⟨(Dw _),nl0⟩) (fMc ⟨⟨_,_,_,y,T.am.m,T.am.F.kp,T.am.b⟩,nl0⟩)) W7 Oo (fun j M Q h=>?_) (fun j M Q h=>?_)
  .obtain⟨v,u,rfl,_⟩:=h;rfl
  exact _gt (UG (fMc ⟨Dw n,nl0⟩)) h
structure Isl where
 name:Str
 prs:List (Str×Int)
 stps:List Stp
structure Fer where
 name:Str
 giver:Str
 taker:Str
 k:Nat
 st:Nat
structure Wld where
 w:Nat
 isl:List Isl
 fer:List Fer
noncomputable def prV(p:Str×Int):MV:=.tup [.str p.1,.int p.2]
noncomputable def Fer.mv(f:Fer):MV:=.tup [.str f.name,.str f.giver,.str f.taker,.int f.k,.int f.st]
def Isl.mv(I:Isl):MV:=.tup [.str I.name,.tup (I.prs.map prV),.tup (I.stps.map Stp.mv)]
def Wld.mv(W:Wld):MV:=.tup [.int W.w,.tup (W.isl.map Isl.mv),.tup (W.fer.map Fer.mv)]
noncomputable def Isl.vars(I:Isl):List Str:=I.prs.map (·.1)
noncomputable def Wld.fns(W:Wld):List Str:=W.fer.map (·.name)
noncomputable def Wld.ins(W:Wld):List Str:=W.isl.map (·.name)
noncomputable def TmIn(j:List Str)(T:Tm):Prop:=T.depth<=8/\T.size<=30/\∀x∈T.reads,x∈j
def ZS(fs:List Str)(j:List Str)(n:Nat):Stp->Prop
 |.take f x=>f∈fs/\x∈j
 |.give f T=>f∈fs/\TmIn j T
 |.put x T=>x∈j/\TmIn j T
 |.jump T i=>TmIn j T/\0<=i/\i<=(n:Int)
structure IslOk (w:Nat)(fs:List Str)(I:Isl):Prop where
 nv:I.prs.length<=6
 ns:I.stps.length<=12
 nd:I.vars.Nodup
 gd:∀x∈I.vars,Zv x
 wd:∀p∈I.prs,0<=p.2/\p.2<2^w
 st:∀s∈I.stps,ZS fs I.vars I.stps.length s
structure FerOk (is:List Str)(f:Fer):Prop where
 g:f.giver∈is
 t:f.taker∈is
 ne:f.giver≠f.taker
 k3:f.k<=3
 s1:1<=f.st
 s3:f.st<=3
noncomputable def Z5(F:List Fer)(z:Str):Stp->Prop
 |.take f _=>∀x∈F,x.name=f->x.taker=z
 |.give f _=>∀x∈F,x.name=f->x.giver=z
 |_=>True
structure Wld.Good (W:Wld):Prop where
 w1:1<=W.w
 w2:W.w<=64
 i5:W.isl.length<=5
 f6:W.fer.length<=6
 fg:∀z∈W.fns,Zv z
 ig:∀z∈W.ins,Zv z
 nd:(W.fns++W.ins).Nodup
 io:∀I∈W.isl,IslOk W.w W.fns I
 fo:∀f∈W.fer,FerOk W.ins f
 en:∀I∈W.isl,∀s∈I.stps,Z5 W.fer I.name s
def IslIn(M:MH)(I:Isl)(y:MV):Prop:=∃a b,y=.tup [.str I.name,.ref a,.ref b]/\M a=some (.lst (I.prs.map prV))/\M b=some (.lst (I.stps.map Stp.mv))
theorem IslIn.keep{M M':MH}(s:SameM M M'){I:Isl}{y:MV}(h:IslIn M I y):IslIn M' I y:=by
 obtain⟨a,b,e,j,l⟩:=h;exact⟨a,b,e,s _ _ j,s _ _ l⟩
def IslsIn(M:MH)(Is:List Isl)(ys:List MV):Prop:=ys.length=Is.length/\∀(i:Nat)(I:Isl)(y:MV),Is[i]?=some I->ys[i]?=some y->IslIn M I y
theorem IslsIn.keep{M M':MH}(s:SameM M M'){Is:List Isl}{ys:List MV}(h:IslsIn M Is ys):IslsIn M' Is ys:=⟨h.1,λi z y a b=>(h.2 i z y a b).keep s⟩
theorem IslsIn.mem{M:MH}{Is:List Isl}{ys:List MV}(h:IslsIn M Is ys){y:MV}(u:y∈ys):∃I∈Is,IslIn M I y:=by
 obtain⟨i,l,rfl⟩:=Y0 u;have j:i<Is.length:=by rw[<-h.1];exact l
 exact⟨Is[i],XQ j,h.2 i _ _ (X7 j) (X7 l)⟩
theorem IslsIn.fst{M:MH}{Is:List Isl}{ys:List MV}(h:IslsIn M Is ys){f:MV->MV}(l:∀z r,f (.tup (.str z::r))=.str z):ys.map f=(Is.map (·.name)).map MV.str:=by
 apply BY;intro i;rw[Xr,Xr,Xr];by_cases hi:i<ys.length
 .have j:i<Is.length:=by rw[<-h.1];exact hi
  obtain⟨a,b,e,_⟩:=h.2 i _ _ (X7 j) (X7 hi);rw[X7 j,X7 hi,e];show some (f _)=_;rw[l];rfl
 .have j:¬i<Is.length:=by rw[<-h.1];exact hi
  rw[Zi (by lia),Zi (by lia)];rfl
noncomputable abbrev Dx:SpM:=λj M Q=>∃i:Int,j=[.int i]/\Q (.bl true) M
theorem RU:MonW Dx:=by walk_at "m"
theorem RV(T:Txt K mg t):FnOk P w K mg base CX0 1 t.fR t.dX ["value"] (liSp K Dx):=by
 refine T.aW.F.okM _g0 (fC (G:=KS) (Φ:=[]) T rfl nl0 nl0) F1 _gA (λj M Q h=>?_) (λj M Q h=>?_)
 .obtain⟨i,rfl,_⟩:=h;rfl
 obtain⟨i,rfl,q⟩:=h;show wSs _ _ _ [some (.int i)] M;delta F1 KR;simp!
 simpa using q
noncomputable abbrev Dy:SpM:=λj M Q=>∃i:Int,j=[.int i]/\1<=i/\i<=64/\Q (.bl true) M
theorem RW:MonW Dy:=by walk_at "m"
theorem _g3(T:Txt K mg t):FnOk P w K mg base CX0 2 t.iH t.cZ ["number"] (liSp K Dy):=by
 refine T.aG.F.okM _fZ (fC (G:=KW) (Φ:=[("is_whole",Dx)]) T rfl (fMc ⟨RU,nl0⟩) (fMc ⟨fE T.aW (RV T),nl0⟩)) F2 _gz (fun j M Q h=>?_) (fun j M Q h=>?_)
 .obtain⟨i,rfl,_⟩:=h;rfl
 obtain⟨i,rfl,l,u,q⟩:=h;show wSs _ _ _ [some (.int i)] M;delta F2 KU;simp!;refine⟨i,rfl,?_⟩;simp!;rw[if_pos l,decide_eq_true u];exact q
noncomputable abbrev GN:SpM:=λj M Q=>∃(k:Nat) (i:Int),j=[.int k,.int i]/\k<=64/\0<=i/\i<2^k/\Q (.bl true) M
theorem _g9:MonW GN:=by walk_at "m"
theorem _o1(T:Txt K mg t):FnOk P w K mg base CX0 2 t.ee t.dk ["width","number"] (liSp K GN):=by
 refine T.bS.F.okM _nj (fC (G:=L5) (Φ:=[("is_whole",Dx),("two_to",Zu)]) T rfl (fMc ⟨RU,(fMc ⟨Dp,nl0⟩)⟩) (fMc ⟨fE T.aW (RV T),(fMc ⟨fE T.aB (Dq T),nl0⟩)⟩)) F4 _oY (fun j M Q h=>?_) (fun j M Q h=>?_)
 .obtain⟨k,i,rfl,_⟩:=h;rfl
 obtain⟨k,i,rfl,l,u,y,q⟩:=h;show wSs _ _ _ [some (.int k),some (.int i)] M;delta F4 L4;simp!;refine⟨i,rfl,?_⟩;simp!;rw[if_pos u];refine⟨k,rfl,l,?_⟩;simp!;rw[decide_eq_true y];exact q
noncomputable abbrev Bq:SpM:=λl M Q=>∃(z:Str) (e:Addr) (j:List Str),l=[.str z,.ref e]/\M e=some (.lst (j.map MV.str))/\z∈j/\Q .non M
theorem GO:MonW Bq:=by walk_at "m"
theorem GP(T:Txt K mg t):FnOk P w K mg base CX0 1 t.cx t.b9 ["name","known"] (liSp K Bq):=by
 refine T.ao.F.okM KP (fC (G:=FQ) (Φ:=[]) T rfl nl0 nl0) Bh Nr (λl M Q h=>?_) (λl M Q h=>?_)
 .obtain⟨z,a,j,rfl,_⟩:=h;rfl
 obtain⟨z,a,j,rfl,u,y,q⟩:=h;show wSs _ _ _ [some (.str z),some (.ref a)] M;delta Bh FP;simp!;refine .inl ⟨_,u,rfl,RQ j,?_⟩;rw[GJ,decide_eq_true y];simp!;exact q
theorem GQ{l:Type} [DecidableEq l] {zs:List l}(y:zs.Nodup){j:Nat}{z:l}(m:zs[j]?=some z):z∉zs.take j:=λg=>by
 obtain⟨f,rfl⟩:=XE.mp m;obtain⟨k,d,u⟩:=Y0 g;have c:k<j:=by rw[Yf]at d;lia
 rw[DX]at u;have:=(BZ y).mp u;lia
theorem GR{l u:Type}{f:l->u}{zs:List l}{j:Nat}{z:l}(y:zs[j]?=some z):(zs.take j).map f++[f z]=(zs.take (j+1)).map f:=by
 rw[Zk,y,XX];rfl
abbrev Dz:SpM:=λl M Q=>∃(f:Addr) (F:List Fer),l=[.ref f]/\M f=some (.lst (F.map Fer.mv))/\F.length<=6/\(F.map (·.name)).Nodup/\(∀x∈F,Zv x.name)/\∀j,SameM M j->Q .non j
theorem RX:MonW Dz:=by walk_at "m"
theorem _5D(T:Txt K mg t):FnOk P w K mg base CX0 3 t.gY t.cT ["ferries"] (liSp K Dz):=by
 refine T.aO.F.okM _5v (fC (G:=Nz) (Φ:=[("refuse_name",Bp)]) T rfl (fMc ⟨GK,nl0⟩) (fMc ⟨fE T.aM (GM T),nl0⟩)) FR _6B (fun Y M Q h=>?_) (fun Y M Q h=>?_)
 .obtain⟨f,F,rfl,_⟩:=h;rfl
 obtain⟨f,F,rfl,N,C,Z,A,q⟩:=h;show wSs _ _ _ [some (.ref f),none,none] M;delta FR Ny;simp!;intro p O;have R:=SameM.new O (.lst []);have d:=R _ _ N;have c:updM M p (.lst []) p=some (.lst []):=Xa;have r:∀a o,M a=some o->a≠p:=λa o h=>neM h O;generalize updM M p _=M1 at*;delta Nw
 simp![d]
 obtain⟨J,u⟩:∃J:Nat->Sm->MH->Prop,∀j z l,J j z l↔SameM M l/\l p=some (.lst (((F.map (·.name)).take j).map MV.str))/\∃v,z=[some (.ref f),some (.ref p),v]:=⟨_,λ_ _ _=>Y8⟩;refine⟨J,(u _ _ _).mpr ⟨R,by simpa using c,_,rfl⟩,λj z l h=>((u _ _ _).mp h).1 _ _ N,?_,?_⟩
 .rintro j y z l B h;obtain⟨e,m,v,rfl⟩:=(u _ _ _).mp h;obtain⟨g,rfl⟩:=YF B;have g:j<F.length:=g;have U:(F.map (·.name))[j]?=some F[j].name:=by rw[Xr,X7 g];rfl
  delta Nv
  simp![Fer.mv]
  refine⟨F[j].name,p,(F.map (·.name)).take j,rfl,m,A _ (XQ g),GQ Z U,λD W=>?_⟩;have L:=W _ _ m;simp!;delta Nu
  simp![Fer.mv,L,Xb,Yf]
  refine⟨⟨_,rfl⟩,by lia,(u _ _ _).mpr ⟨λa o h=>by rw[X8 (r a o h)];exact W _ _ (e _ _ h),?_,_,rfl⟩⟩
  rw[Xa,GR U]
 .rintro z l h;obtain⟨e,_⟩:=(u _ _ _).mp h;exact q _ e
abbrev DA:SpM:=λu M Q=>∃(k:Nat) (f:Addr) (j:List (Str×Int)),u=[.int k,.ref f]/\M f=some (.lst (j.map prV))/\k<=64/\j.length<=6/\(j.map (·.1)).Nodup/\(∀x∈j,Zv x.1/\0<=x.2/\x.2<2^k)/\∀l,SameM M l->Q .non l
theorem RY:MonW DA:=by walk_at "m"
theorem _7Z(T:Txt K mg t):FnOk P w K mg base CX0 3 t.fj t.eP ["width","pairs"] (liSp K DA):=by
 refine T.bJ.F.okM _7V (fC (G:=NG) (Φ:=[("fits",GN),("refuse_name",Bp)]) T rfl (fMc ⟨_g9,(fMc ⟨GK,nl0⟩)⟩) (fMc ⟨fE T.bS (_o1 T),(fMc ⟨fE T.aM (GM T),nl0⟩)⟩)) FS _8f (fun Z M Q h=>?_) (fun Z M Q h=>?_)
 .obtain⟨k,f,F,rfl,_⟩:=h;rfl
 obtain⟨k,f,F,rfl,N,A,X,B,C,q⟩:=h;show wSs _ _ _ [some (.int k),some (.ref f),none,none,none] M;delta FS NF;simp!;intro p O;have R:=SameM.new O (.lst []);have d:=R _ _ N;have c:updM M p (.lst []) p=some (.lst []):=Xa;have r:∀a o,M a=some o->a≠p:=λa o h=>neM h O;generalize updM M p _=M1 at*;delta NE
 simp![d]
 obtain⟨J,u⟩:∃J:Nat->Sm->MH->Prop,∀j z l,J j z l↔SameM M l/\l p=some (.lst (((F.map (·.1)).take j).map MV.str))/\∃v U,z=[some (.int k),some (.ref f),some (.ref p),v,U]:=⟨_,λ_ _ _=>Y8⟩;refine⟨J,(u _ _ _).mpr ⟨R,by simpa using c,_,_,rfl⟩,λj z l h=>((u _ _ _).mp h).1 _ _ N,?_,?_⟩
 .rintro j y z l D h;obtain⟨e,m,v,U,rfl⟩:=(u _ _ _).mp h;obtain⟨g,rfl⟩:=YF D;have g:j<F.length:=g;have W:(F.map (·.1))[j]?=some F[j].1:=by rw[Xr,X7 g];rfl
  obtain⟨E,I,S⟩:=C _ (XQ g);delta ND
  simp![prV]
  delta NC;simp!;refine⟨F[j].1,p,(F.map (·.1)).take j,rfl,m,E,GQ B W,λH Y=>?_⟩;have L:=Y _ _ m;simp!;delta NB
  simp![L,Xb,Yf]
  refine⟨⟨_,rfl⟩,by lia,?_⟩
  delta NA
  simp![prV]
  refine⟨k,F[j].2,rfl,A,I,S,?_⟩;simp!;refine(u _ _ _).mpr ⟨λa o h=>by rw[X8 (r a o h)];exact Y _ _ (e _ _ h),?_,_,_,rfl⟩
  rw[Xa,GR W]
 .rintro z l h;obtain⟨e,_⟩:=(u _ _ _).mp h;exact q _ e
abbrev GS:SpM:=λu M Q=>∃(U:Tm) (e:Addr) (j:List Str),u=[U.mv,.ref e]/\M e=some (.lst (j.map MV.str))/\j.length<=6/\TmIn j U/\∀l,SameM M l->Q .non l
theorem _8z:MonW GS:=by walk_at "m"
theorem _cv(T:Txt K mg t):FnOk P w K mg base CX0 51 t.fM t.gZ ["T","known"] (liSp K GS):=by
 refine T.bf.F.okM _cn (fC (G:=NL) (Φ:=[("refuse_unknown",Bq),("size_of",(Bo 8)),("vars_in",GG)]) T rfl (fMc ⟨GO,(fMc ⟨(RI _),(fMc ⟨_cB,nl0⟩)⟩)⟩) (fMc ⟨⟨_,_,_,FnOk.mono (GP T) (by decide),T.ao.m,T.ao.F.kp,T.ao.b⟩,(fMc ⟨⟨_,_,_,FnOk.mono (RJ T 8) (by decide),T.ax.m,T.ax.F.kp,T.ax.b⟩,(fMc ⟨⟨_,_,_,FnOk.mono (_hP T) (by decide),T.aI.m,T.aI.F.kp,T.aI.b⟩,nl0⟩)⟩)⟩)) FT _cL (fun e M Q h=>?_) (fun e M Q h=>?_)
 .obtain⟨U,a,g,rfl,_⟩:=h;rfl
 obtain⟨U,a,g,rfl,L,Z,⟨N,A,d⟩,q⟩:=h;show wSs _ _ _ [some U.mv,some (.ref a),none,none] M;delta FT NK;simp!;refine⟨U,rfl,N,λM1 c=>?_⟩;simp!;delta NJ;simp!;rw[if_neg (by lia:¬((U.size:Nat):Int)>30)]
 rw[if_neg (by lia:¬((U.depth:Nat):Int)>8)]
 delta NI;simp!;refine⟨U,g,rfl,by lia,by lia,d,by lia,λp M2 O f B l C R _=>?_⟩
 simp![l]
 obtain⟨J,u⟩:∃J:Nat->Sm->MH->Prop,∀j z m,J j z m↔m=M2/\∃v r,z=[some U.mv,some (.ref a),v,r]:=⟨_,λ_ _ _=>Y8⟩;refine⟨J,(u _ _ _).mpr ⟨rfl,_,_,rfl⟩,λj z m h=>by rw[((u _ _ _).mp h).1];exact l,?_,?_⟩
 .rintro j y z m W h;obtain⟨rfl,v,r,rfl⟩:=(u _ _ _).mp h;obtain⟨Y,rfl⟩:=YF W;delta NH;simp!;refine⟨O[j],a,g,rfl,f _ _ (c _ _ L),d _ ((R _).mp (XQ Y)),?_⟩;simp!;exact(u _ _ _).mpr ⟨rfl,_,_,rfl⟩
 .rintro z m h;obtain⟨rfl,_⟩:=(u _ _ _).mp h;exact q _ (c.trans f)
theorem GT{f x:Str}:(Stp.take f x).mv=.tup [.str "take",.str f,.str x]:=rfl
theorem GU{f:Str}{U:Tm}:(Stp.give f U).mv=.tup [.str "give",.str f,U.mv]:=rfl
theorem GV{f:Str}{U:Tm}:(Stp.put f U).mv=.tup [.str "put",.str f,U.mv]:=rfl
theorem GW{i:Int}{U:Tm}:(Stp.jump U i).mv=.tup [.str "jump",U.mv,.int i]:=rfl
abbrev DB:SpM:=λu M Q=>∃(S:Stp) (a b:Addr) (j fs:List Str) (n:Nat),u=[S.mv,.ref a,.int n,.ref b]/\M a=some (.lst (j.map MV.str))/\M b=some (.lst (fs.map MV.str))/\j.length<=6/\ZS fs j n S/\∀l,SameM M l->Q .non l
theorem RZ:MonW DB:=by walk_at "m"
theorem _cw(T:Txt K mg t):FnOk P w K mg base CX0 52 t.gF t.ff ["step","known","count","ferry_names"] (liSp K DB):=by
 refine T.c8.F.okM _co (fC (G:=NV) (Φ:=[("refuse_term",GS),("refuse_unknown",Bq)]) T rfl (fMc ⟨_8z,(fMc ⟨GO,nl0⟩)⟩) (fMc ⟨fE T.bf (_cv T),(fMc ⟨fE T.ao (GP T),nl0⟩)⟩)) FV _cM (fun c M Q h=>?_) (fun c M Q h=>?_)
 .obtain⟨S,a,b,u,fs,n,rfl,_⟩:=h;rfl
 obtain⟨S,a,b,u,fs,n,rfl,y,d,g,m,q⟩:=h;show wSs _ _ _ [some S.mv,some (.ref a),some (.int n),some (.ref b)] M;delta FV NU;cases S with
 |take f x=>
  obtain⟨j,l⟩:=m
  simp![GT]
  delta NN;simp!;refine⟨f,b,fs,rfl,d,j,?_⟩;simp!;delta NM;simp!;refine⟨x,a,u,rfl,y,l,?_⟩;simp!;exact q _ (SameM.refl _)
 |give f U=>
  obtain⟨j,l⟩:=m
  simp![GU]
  delta Dj;simp!;delta NP;simp!;refine⟨f,b,fs,rfl,d,j,?_⟩;simp!;delta NO;simp!;refine⟨U,a,u,rfl,y,g,l,λM1 z=>?_⟩;simp!;exact q _ z
 |put f U=>
  obtain⟨j,l⟩:=m
  simp![GV]
  delta Dj;simp!;delta FU;simp!;delta NR;simp!;refine⟨f,a,u,rfl,y,j,?_⟩;simp!;delta NQ;simp!;refine⟨U,a,u,rfl,y,g,l,λM1 z=>?_⟩;simp!;exact q _ z
 |jump U i=>
  obtain⟨j,l,r⟩:=m
  simp![GW]
  delta Dj;simp!;delta FU;simp!;delta NT;simp!;refine⟨U,a,u,rfl,y,g,j,λM1 z=>?_⟩;simp!;delta NS;simp!;rw[if_pos l];rw[if_neg (by lia:¬¬i<=(n:Int))]
  exact q _ z
abbrev GX:SpM:=λl M Q=>∃(k:Nat) (I:Isl) (y:MV) (b:Addr) (fs:List Str),l=[.int k,y,.ref b]/\k<=64/\IslIn M I y/\M b=some (.lst (fs.map MV.str))/\IslOk k fs I/\∀j,SameM M j->Q .non j
theorem _6T:MonW GX:=by walk_at "m"
theorem _aL(T:Txt K mg t):FnOk P w K mg base CX0 53 t.fi t.ik ["width","island","ferry_names"] (liSp K GX):=by
 refine T.b0.F.okM _aJ (fC (G:=O2) (Φ:=[("refuse_step",DB),("refuse_variables",DA)]) T rfl (fMc ⟨RZ,(fMc ⟨RY,nl0⟩)⟩) (fMc ⟨fE T.c8 (_cw T),(fMc ⟨fE T.bJ (_7Z T),nl0⟩)⟩)) FW _aU (fun A M Q h=>?_) (fun A M Q h=>?_)
 .obtain⟨k,I,y,b,fs,rfl,_⟩:=h;rfl
 obtain⟨k,I,y,f,fs,rfl,B,⟨a,b,rfl,r,U⟩,e,ok,q⟩:=h;show wSs _ _ _ [some (.int k),some (.tup [.str I.name,.ref a,.ref b]),some (.ref f),none,none] M;have W:=ok.nv;have X:=ok.ns;delta FW O1
 simp![r,Xb]
 refine Y3 (λz=>by lia) (λ_=>?_)
 delta O0
 simp![U,Xb]
 refine Y3 (λz=>by lia) (λ_=>?_)
 delta NZ;simp!;refine⟨k,a,I.prs,rfl,r,B,W,ok.nd,λx Y=>⟨ok.gd _ (XT.mpr ⟨x,Y,rfl⟩),ok.wd _ Y⟩,λM1 Z=>?_⟩;simp!;have g:=Z _ _ r;delta NY;simp!;refine _N I.prs prV (fun p=>.str p.1) ?_ ?_ (UG (Φ:=[("refuse_step",DB),("refuse_variables",DA)]) (fMc ⟨RZ,(fMc ⟨RY,nl0⟩)⟩)) fun D C=>?_
 .simp![g]
  exact⟨rfl,by lia,g⟩
 .intro p H u s;simp only[sCm,Xx,Yg,Yr,Ys,Ym,Y7]
  simp![prV]
  try exact⟨rfl,rfl⟩
 have E:(I.prs.map λp=>MV.str p.1)=I.vars.map MV.str:=by unfold Isl.vars;rw[Yu];rfl
 rw[E];have L:=Z.trans (SameM.new C (.lst (I.vars.map MV.str)));have N:updM M1 D (.lst (I.vars.map MV.str)) D=some (.lst (I.vars.map MV.str)):=Xa;generalize updM M1 D _=M2 at*;have l:=L _ _ U;delta NX
 simp![l]
 obtain⟨J,d⟩:∃J:Nat->Sm->MH->Prop,∀j c u,J j c u↔SameM M2 u/\∃v,c=[some (.int k),some (.tup [.str I.name,.ref a,.ref b]),some (.ref f),some (.ref D),v]:=⟨_,λ_ _ _=>Y8⟩;refine⟨J,(d _ _ _).mpr ⟨SameM.refl _,_,rfl⟩,λj c u h=>((d _ _ _).mp h).1 _ _ l,?_,?_⟩
 .rintro j y c u F h;obtain⟨m,v,rfl⟩:=(d _ _ _).mp h;obtain⟨O,rfl⟩:=YF F;have O:j<I.stps.length:=O;have R:=m _ _ l;delta NW
  simp![R,Xb]
  refine⟨I.stps[j],D,f,I.vars,fs,I.stps.length,rfl,m _ _ N,m _ _ (L _ _ e),by unfold Isl.vars;rw[Xb];exact W,ok.st _ (XQ O),λo S=>?_⟩
  simp!;exact(d _ _ _).mpr ⟨m.trans S,_,rfl⟩
 .rintro c u h;obtain⟨m,_⟩:=(d _ _ _).mp h;exact q _ (L.trans m)
abbrev DC:SpM:=λy M Q=>∃(k:Nat) (p b:Addr) (j:List Isl) (l:List MV) (fs:List Str),y=[.int k,.ref p,.ref b]/\k<=64/\M p=some (.lst l)/\IslsIn M j l/\j.length<=5/\fs.length<=6/\M b=some (.lst (fs.map MV.str))/\(fs++j.map (·.name)).Nodup/\(∀I∈j,Zv I.name)/\(∀I∈j,IslOk k fs I)/\∀u,SameM M u->Q .non u
theorem S0:MonW DC:=by walk_at "m"
theorem _9m(T:Txt K mg t):FnOk P w K mg base CX0 54 t.fz t.iJ ["width","islands","ferry_names"] (liSp K DC):=by
 refine T.aJ.F.okM _9j (fC (G:=O8) (Φ:=[("refuse_island",GX),("refuse_name",Bp)]) T rfl (fMc ⟨_6T,(fMc ⟨GK,nl0⟩)⟩) (fMc ⟨fE T.b0 (_aL T),(fMc ⟨fE T.aM (GM T),nl0⟩)⟩)) FX _9C (fun x M Q h=>?_) (fun x M Q h=>?_)
 .obtain⟨k,p,b,l,E,fs,rfl,_⟩:=h;rfl
 obtain⟨k,p,f,l,E,fs,rfl,hk,F,L,h5,hf6,I,N,hg,ok,q⟩:=h;show wSs _ _ _ [some (.int k),some (.ref p),some (.ref f),none,none] M;delta FX O7
 simp![I]
 intro e S;have X:=SameM.new S (.lst (fs.map MV.str));have O:updM M e (.lst (fs.map MV.str)) e=some (.lst (fs.map MV.str)):=Xa;have R:=X _ _ F;have U:∀a o,M a=some o->a≠e:=λa o h=>neM h S;generalize updM M e _=M1 at*;delta O6
 simp![R]
 obtain⟨J,m⟩:∃J:Nat->Sm->MH->Prop,∀j g u,J j g u↔SameM M u/\u e=some (.lst ((fs++(l.map (·.name)).take j).map MV.str))/\∃v,g=[some (.int k),some (.ref p),some (.ref f),some (.ref e),v]:=⟨_,λ_ _ _=>Y8⟩;refine⟨J,(m _ _ _).mpr ⟨X,by simpa using O,_,rfl⟩,λj g u h=>((m _ _ _).mp h).1 _ _ F,?_,?_⟩
 .rintro j y g u d h;obtain⟨r,c,v,rfl⟩:=(m _ _ _).mp h;have d:E[j]?=some y:=d;have H:j<l.length:=by rw[<-L.1];exact(XE.mp d).1
  have W:l[j]?=some l[j]:=X7 H;have s:(l.map (·.name))[j]?=some l[j].name:=by rw[Xr,W];rfl
  have Y:=XQ H;obtain⟨a,b,rfl,_⟩:=(L.keep r).2 j l[j] y W d;have Z:l[j].name∉fs++(l.map (·.name)).take j:=by
   rw[Zj]at N;intro z;rcases Yt.mp z with z|z
   .exact N.2.2 _ z _ (XT.mpr ⟨_,Y,rfl⟩) rfl
   .exact GQ N.2.1 s z
  delta O5;simp!;refine⟨l[j].name,e,fs++(l.map (·.name)).take j,rfl,c,hg _ Y,Z,λA i=>?_⟩;have B:=i _ _ c;simp!;delta O4
  simp![B,Xb,Ye,Yf]
  refine⟨⟨_,rfl⟩,by lia,?_⟩
  have C:SameM M (updM A e (.lst ((fs++(l.map (·.name)).take j).map MV.str++[.str l[j].name]))):=λa o h=>by rw[X8 (U a o h)];exact i _ _ (r _ _ h)
  have D:updM A e (.lst ((fs++(l.map (·.name)).take j).map MV.str++[.str l[j].name])) e=some (.lst ((fs++(l.map (·.name)).take (j+1)).map MV.str)):=by
   rw[Xa,XX,XX,Vo,GR s]
  generalize updM A e _=M4 at*;delta O3;simp!;refine⟨k,l[j],_,f,fs,rfl,hk,(L.keep C).2 j _ _ W d,C _ _ I,ok _ Y,λM5 n=>?_⟩;simp!;exact(m _ _ _).mpr ⟨C.trans n,n _ _ D,_,rfl⟩
 .rintro g u h;obtain⟨r,_⟩:=(m _ _ _).mp h;exact q _ r
noncomputable abbrev DD:SpM:=λl M Q=>∃(x:Fer) (e:Addr) (j:List Str),l=[x.mv,.ref e]/\M e=some (.lst (j.map MV.str))/\FerOk j x/\Q .non M
theorem S1:MonW DD:=by walk_at "m"
theorem _bp(T:Txt K mg t):FnOk P w K mg base CX0 2 t.iA t.iq ["ferry","island_names"] (liSp K DD):=by
 refine T.aL.F.okM _bc (fC (G:=Oe) (Φ:=[("refuse_unknown",Bq)]) T rfl (fMc ⟨GO,nl0⟩) (fMc ⟨fE T.ao (GP T),nl0⟩)) FY _c2 (fun u M Q h=>?_) (fun u M Q h=>?_)
 .obtain⟨x,a,j,rfl,_⟩:=h;rfl
 obtain⟨x,a,j,rfl,l,ok,q⟩:=h;show wSs _ _ _ [some (.tup [.str x.name,.str x.giver,.str x.taker,.int x.k,.int x.st]),some (.ref a)] M;have y:=ok.k3;have z:=ok.s1;have m:=ok.s3;delta FY Od;simp!;refine⟨_,a,j,rfl,l,ok.g,?_⟩;simp!;delta Oc;simp!;refine⟨_,a,j,rfl,l,ok.t,?_⟩;simp!;delta Ob;simp!;rw[if_neg ok.ne];delta Oa;simp!;rw[if_pos (by lia:(0:Int)<=(x.k:Int))]
 rw[if_neg (by lia:¬¬(x.k:Int)<=3)]
 delta O9;simp!;rw[if_pos (by lia:(1:Int)<=(x.st:Int))]
 rw[if_neg (by lia:¬¬(x.st:Int)<=3)]
 exact q
theorem _hL{F:List Fer}{g:Fer->Str}:∀{c:List (Key×MV)},(F.map (·.name)).Nodup->(∀x∈F,valM c (Xm x.name)=none)->∀x∈F,valM ((F.map λy=>((Xm y.name:Key),MV.str (g y))).foldl (λc z=>putM c z.1 z.2) c) (Xm x.name)=some (.str (g x)):=by
 have stay:∀(F:List Fer)(c:List (Key×MV))(z:Str),(∀y∈F,y.name≠z)->valM ((F.map λy=>((Xm y.name:Key),MV.str (g y))).foldl (λc z=>putM c z.1 z.2) c) (Xm z)=valM c (Xm z):=by
  intro F
  induction F with
  |nil=>intro c z _;rfl
  |cons y r m=>
   intro c z h;rw[Xx,Vv,m _ _ (λy d=>h y (XS _ d)),Dl,if_neg (λe=>h y (Yb ..) (V1 e).symm)]
 induction F with
 |nil=>intro c _ _ x j;cases j
 |cons y r m=>
  intro c l h x j;rw[Xx,YI]at l;rw[Xx,Vv];rcases Xl.mp j with rfl|j
  .rw[stay _ _ _ (λz u e=>l.1 (XT.mpr ⟨z,u,e⟩)),Dl,if_pos rfl]
  .refine m l.2 (λz u=>?_) x j;rw[Dl,if_neg (λe=>l.1 (XT.mpr ⟨z,u,V1 e⟩))];exact h z (XS _ u)
def dirK(F:List Fer)(g:Fer->Str):List (Key×MV):=Yj (F.map λy=>((Xm y.name:Key),MV.str (g y)))
theorem S2{F:List Fer}{g:Fer->Str}(j:(F.map (·.name)).Nodup){x:Fer}(l:x∈F):valM (dirK F g) (Xm x.name)=some (.str (g x)):=_hL j (λ_ _=>rfl) x l
abbrev DE:SpM:=λj M Q=>∃(z:Str) (S:Stp) (a b:Addr) (F:List Fer),j=[.str z,S.mv,.ref a,.ref b]/\M a=some (.dic (dirK F (·.giver)))/\M b=some (.dic (dirK F (·.taker)))/\(F.map (·.name)).Nodup/\Z5 F z S/\(∀f,(∃x,S=.take f x)\/(∃U,S=.give f U)->f∈F.map (·.name))/\Q .non M
theorem S3:MonW DE:=by walk_at "m"
theorem _7Y(T:Txt K mg t):FnOk P w K mg base CX0 1 t.fk t.eU ["name","step","givers","takers"] (liSp K DE):=by
 refine T.bF.F.okM _7U (fC (G:=Og) (Φ:=[]) T rfl nl0 nl0) FZ _8e (λd M Q h=>?_) (λd M Q h=>?_)
 .obtain⟨z,S,a,b,F,rfl,_⟩:=h;rfl
 obtain⟨z,S,a,b,F,rfl,c,r,l,u,m,q⟩:=h;show wSs _ _ _ [some (.str z),some S.mv,some (.ref a),some (.ref b)] M;delta FZ Of;cases S with
 |take f x=>
  obtain⟨y,j,rfl⟩:=XT.mp (m f (.inl ⟨x,rfl⟩));have v:=S2 (g:=(·.taker)) l j;have e:=u y j rfl
  simp![GT,r,v,e]
  delta Bi
  simp![GT]
  exact q
 |give f U=>
  obtain⟨y,j,rfl⟩:=XT.mp (m f (.inr ⟨U,rfl⟩));have v:=S2 (g:=(·.giver)) l j;have e:=u y j rfl
  simp![GU]
  delta Bi
  simp![GU,c,v,e]
  exact q
 |put f U=>
  simp![GV]
  delta Bi
  simp![GV]
  exact q
 |jump U i=>
  simp![GW]
  delta Bi
  simp![GW]
  exact q
theorem _dP{fs j:List Str}{n:Nat}{S:Stp}(h:ZS fs j n S):∀f,(∃x,S=.take f x)\/(∃U,S=.give f U)->f∈fs:=by
 rintro f (⟨x,rfl⟩|⟨U,rfl⟩)
 .exact h.1
 .exact h.1
abbrev DF:SpM:=λy M Q=>∃(p f:Addr) (l:List MV) (j:List Isl) (F:List Fer),y=[.ref p,.ref f]/\M p=some (.lst l)/\IslsIn M j l/\j.length<=5/\M f=some (.lst (F.map Fer.mv))/\F.length<=6/\(F.map (·.name)).Nodup/\
 (∀I∈j,I.stps.length<=12/\∀s∈I.stps,Z5 F I.name s/\∃z n,ZS (F.map (·.name)) z n s)/\∀u,SameM M u->Q .non u
theorem S4:MonW DF:=by walk_at "m"
theorem S5(F:List Fer)(g:Fer->Str):(F.map λx=>MV.tup [.str x.name,.str (g x)])=(F.map λy=>((Xm y.name:Key),MV.str (g y))).map prM:=by rw[Yu];rfl
theorem _6S(T:Txt K mg t):FnOk P w K mg base CX0 2 t.dU t.eX ["islands","ferries"] (liSp K DF):=by
 refine T.aK.F.okM _6Q (fC (G:=On) (Φ:=[("refuse_wrong_end",DE)]) T rfl (fMc ⟨S3,nl0⟩) (fMc ⟨fE T.bF (_7Y T),nl0⟩)) G0 _6W (fun vs M Q h=>?_) (fun vs M Q h=>?_)
 .obtain⟨p,f,ys,Is,F,rfl,_⟩:=h;rfl
 obtain⟨p,f,ys,Is,F,rfl,hp,hI,h5,N,h6,nd,hE,q⟩:=h;show wSs _ _ _ [some (.ref p),some (.ref f),none,none,none,none] M;have g:=(UG (Φ:=[("refuse_wrong_end",DE)]) (fMc ⟨S3,nl0⟩));delta G0 Om;simp!;refine _N F Fer.mv (λx=>.tup [.str x.name,.str x.giver]) ?_ ?_ g λD hD=>?_
 .simp![N]
  exact⟨rfl,by lia,N⟩
 .intro x O z s;simp only[sCm,Xx,Yg,Yr,Ys,Ym,Y7]
  simp![Fer.mv]
  try exact⟨rfl,rfl⟩
 rw[S5 F (·.giver)];have s1:=SameM.new hD (.lst ((F.map λy=>((Xm y.name:Key),MV.str y.giver)).map prM));have d1:updM M D (.lst ((F.map λy=>((Xm y.name:Key),MV.str y.giver)).map prM)) D=some (.lst ((F.map λy=>((Xm y.name:Key),MV.str y.giver)).map prM)):=Xa;generalize updM M D _=M1 at*;simp!;refine⟨_,d1,λa ha=>?_⟩;have H:=s1.trans (SameM.new ha (.dic (dirK F (·.giver))));have R:updM M1 a (.dic (dirK F (·.giver))) a=some (.dic (dirK F (·.giver))):=Xa
 change wSs _ _ _ _ (updM M1 a (.dic (dirK F (·.giver))))
 generalize updM M1 a _=M2 at*;have r:=H _ _ N;delta Ol;simp!;refine _N F Fer.mv (λx=>.tup [.str x.name,.str x.taker]) ?_ ?_ g λU W=>?_
 .simp![r]
  exact⟨rfl,by lia,r⟩
 .intro x O z s;simp only[sCm,Xx,Yg,Yr,Ys,Ym,Y7]
  simp![Fer.mv]
  try exact⟨rfl,rfl⟩
 rw[S5 F (·.taker)];have s3:=SameM.new W (.lst ((F.map λy=>((Xm y.name:Key),MV.str y.taker)).map prM));have d3:updM M2 U (.lst ((F.map λy=>((Xm y.name:Key),MV.str y.taker)).map prM)) U=some (.lst ((F.map λy=>((Xm y.name:Key),MV.str y.taker)).map prM)):=Xa;generalize updM M2 U _=M3 at*;simp!;refine⟨_,d3,λb hb=>?_⟩;have o:=s3.trans (SameM.new hb (.dic (dirK F (·.taker))));have Y:updM M3 b (.dic (dirK F (·.taker))) b=some (.dic (dirK F (·.taker))):=Xa
 change wSs _ _ _ _ (updM M3 b (.dic (dirK F (·.taker))))
 generalize updM M3 b _=M4 at*;have Z:=o _ _ R;have A:=H.trans o;have e:=A _ _ hp;have B:=hI.keep A;delta Oj
 simp![e]
 obtain⟨J,L⟩:∃J:Nat->Sm->MH->Prop,∀j l z,J j l z↔z=M4/\∃v m,l=[some (.ref p),some (.ref f),some (.ref a),some (.ref b),v,m]:=⟨_,λ_ _ _=>Y8⟩;refine⟨J,(L _ _ _).mpr ⟨rfl,_,_,rfl⟩,λj l z h=>by rw[((L _ _ _).mp h).1];exact e,?_,?_⟩
 .rintro j y l z hy h;obtain⟨rfl,v,m,rfl⟩:=(L _ _ _).mp h;obtain⟨I,hm,c,d,rfl,hc,hd⟩:=B.mem (Xu hy);obtain⟨l12,hS⟩:=hE I hm;delta Oi
  simp![hd]
  obtain⟨C,u⟩:∃C:Nat->Sm->MH->Prop,∀j l M,C j l M↔M=z/\∃m,l=[some (.ref p),some (.ref f),some (.ref a),some (.ref b),some (.tup [.str I.name,.ref c,.ref d]),m]:=⟨_,λ_ _ _=>Y8⟩;refine⟨C,(u _ _ _).mpr ⟨rfl,_,rfl⟩,λj l M h=>by rw[((u _ _ _).mp h).1];exact hd,?_,?_⟩
  .rintro i x l E O S;obtain⟨rfl,m,rfl⟩:=(u _ _ _).mp S;obtain⟨X,rfl⟩:=YF O;have X:i<I.stps.length:=X;obtain⟨e1,ns,n,e2⟩:=hS _ (XQ X);delta Oh;simp!;refine⟨I.name,I.stps[i],a,b,F,rfl,Z,Y,nd,e1,_dP e2,?_⟩;simp!;exact(u _ _ _).mpr ⟨rfl,_,rfl⟩
  .rintro l E S;obtain⟨rfl,m,rfl⟩:=(u _ _ _).mp S
   try simp!
   exact(L _ _ _).mpr ⟨rfl,_,_,rfl⟩
 .rintro l z h;obtain⟨rfl,_⟩:=(L _ _ _).mp h;exact q _ A
theorem FroD.up{M:MH}:∀{n:Nat} {v j:MV},FroD n M v j->FroD (n+1) M v j
 |0,_,_,h=>.inl h
 |n+1,v,j,h=>by
  rcases h with h|⟨l,u,y,z,m⟩
  .exact .inl h
  .exact .inr ⟨l,u,y,z,λp g=>(m p g).up⟩
theorem FroD.to{M:MH}{n m:Nat}{v j:MV}(h:FroD n M v j)(l:n<=m):FroD m M v j:=by
 obtain⟨d,rfl⟩:∃d,m=n+d:=⟨m - n,by lia⟩
 clear l
 induction d with
 |zero=>exact h
 |succ d u=>exact u.up
theorem fro_str{M:MH}{z:Str}:FroD 0 M (.str z) (.str z):=⟨.inr ⟨z,rfl⟩,rfl⟩
theorem fro_int{M:MH}{i:Int}:FroD 0 M (.int i) (.int i):=⟨.inl ⟨i,rfl⟩,rfl⟩
theorem _T{M:MH}{n:Nat}{xs:List MV}(l:xs.length<=1000)(h:∀x∈xs,FroD n M x x):FroD (n+1) M (.tup xs) (.tup xs):=by
 have j:(xs.map λx=>(x,x)).map (·.1)=xs:=by rw[Yu];exact C5 xs
 have u:(xs.map λx=>(x,x)).map (·.2)=xs:=by rw[Yu];exact C5 xs
 refine .inr ⟨xs.map λx=>(x,x),.inl (by rw[j]),by rw[u],by rw[Xb];exact l,λp y=>?_⟩
 obtain⟨x,z,rfl⟩:=XT.mp y;exact h x z
theorem GY{M:MH}{n:Nat}{a:Addr}{xs:List MV}(e:M a=some (.lst xs))(l:xs.length<=1000)(h:∀x∈xs,FroD n M x x):FroD (n+1) M (.ref a) (.tup xs):=by
 have j:(xs.map λx=>(x,x)).map (·.1)=xs:=by rw[Yu];exact C5 xs
 have u:(xs.map λx=>(x,x)).map (·.2)=xs:=by rw[Yu];exact C5 xs
 refine .inr ⟨xs.map λx=>(x,x),.inr ⟨a,rfl,by rw[j];exact e⟩,by rw[u],by rw[Xb];exact l,λp y=>?_⟩
 obtain⟨x,z,rfl⟩:=XT.mp y;exact h x z
theorem UI{M:MH}:∀U:Tm,FroD U.depth M U.mv U.mv
 |.num n=>_T (xs:=[.str "num",.int n]) (by simp) (by
   intro x j;simp only[Xl,XI,or_false]at j;rcases j with rfl|rfl
   .exact fro_str
   .exact fro_int)
 |.var z=>_T (xs:=[.str "var",.str z]) (by simp) (by
   intro x j;simp only[Xl,XI,or_false]at j;rcases j with rfl|rfl
   .exact fro_str
   .exact fro_str)
 |.two f a b=>by
  have l:=UI (M:=M) a;have u:=UI (M:=M) b;show FroD (1+max a.depth b.depth) M (.tup [.str f.str,a.mv,b.mv]) (.tup [.str f.str,a.mv,b.mv]);rw[Ch];refine _T (by simp) λx j=>?_
  simp only[Xl,XI,or_false]at j;rcases j with rfl|rfl|rfl
  .exact fro_str.to (YA _)
  .exact l.to (by lia)
  .exact u.to (by lia)
 |.pick c a b=>by
  have y:=UI (M:=M) c;have l:=UI (M:=M) a;have u:=UI (M:=M) b;show FroD (1+max c.depth (max a.depth b.depth)) M (.tup [.str "pick",c.mv,a.mv,b.mv]) (.tup [.str "pick",c.mv,a.mv,b.mv]);rw[Ch];refine _T (by simp) λx j=>?_
  simp only[Xl,XI,or_false]at j;rcases j with rfl|rfl|rfl|rfl
  .exact fro_str.to (YA _)
  .exact y.to (by lia)
  .exact l.to (by lia)
  .exact u.to (by lia)
theorem _na{M:MH}{fs l:List Str}{n:Nat}{S:Stp}(h:ZS fs l n S):FroD 9 M S.mv S.mv:=by
 cases S with
 |take f x=>
  refine _T (xs:=[.str "take",.str f,.str x]) (by simp) fun v j=>?_
  simp only[Xl,XI,or_false]at j;rcases j with rfl|rfl|rfl<;>exact fro_str.to (by decide)
 |give f U=>
  refine _T (xs:=[.str "give",.str f,U.mv]) (by simp) fun v j=>?_
  simp only[Xl,XI,or_false]at j;rcases j with rfl|rfl|rfl
  .exact fro_str.to (by decide)
  .exact fro_str.to (by decide)
  .exact(UI U).to h.2.1
 |put f U=>
  refine _T (xs:=[.str "put",.str f,U.mv]) (by simp) fun v j=>?_
  simp only[Xl,XI,or_false]at j;rcases j with rfl|rfl|rfl
  .exact fro_str.to (by decide)
  .exact fro_str.to (by decide)
  .exact(UI U).to h.2.1
 |jump U i=>
  refine _T (xs:=[.str "jump",U.mv,.int i]) (by simp) fun v j=>?_
  simp only[Xl,XI,or_false]at j;rcases j with rfl|rfl|rfl
  .exact fro_str.to (by decide)
  .exact(UI U).to h.1.1
  .exact fro_int.to (by decide)
theorem _op{M:MH}{k:Nat}{fs:List Str}{I:Isl}{y:MV}(ok:IslOk k fs I)(h:IslIn M I y):FroD 11 M y I.mv:=by
 obtain⟨a,b,rfl,z,m⟩:=h;have d:=ok.nv;have c:=ok.ns;refine .inr ⟨[(.str I.name,.str I.name),(.ref a,.tup (I.prs.map prV)),(.ref b,.tup (I.stps.map Stp.mv))],.inl rfl,rfl,by simp,λp l=>?_⟩
 simp only[Xl,XI,or_false]at l;rcases l with rfl|rfl|rfl
 .exact fro_str.to (by decide)
 .refine GY z (by rw[Xb];lia) λx j=>?_
  obtain⟨q,_,rfl⟩:=XT.mp j;refine(_T (n:=0) (xs:=[.str q.1,.int q.2]) (by simp) λv u=>?_).to (by decide)
  simp only[Xl,XI,or_false]at u;rcases u with rfl|rfl
  .exact fro_str
  .exact fro_int
 .refine GY m (by rw[Xb];lia) λx j=>?_
  obtain⟨S,g,rfl⟩:=XT.mp j;exact _na (ok.st S g)
theorem _oN{M:MH}(f:Fer):FroD 1 M f.mv f.mv:=by
 refine _T (xs:=[.str f.name,.str f.giver,.str f.taker,.int f.k,.int f.st]) (by simp) λv j=>?_
 simp only[Xl,XI,or_false]at j;rcases j with rfl|rfl|rfl|rfl|rfl
 .exact fro_str
 .exact fro_str
 .exact fro_str
 .exact fro_int
 .exact fro_int
theorem _lA{M:MH}{k:Nat}{fs:List Str}{Is:List Isl}{ys:List MV}{p:Addr}(y:M p=some (.lst ys))(h:IslsIn M Is ys)(l:Is.length<=5)(ok:∀I∈Is,IslOk k fs I):FroD 12 M (.ref p) (.tup (Is.map Isl.mv)):=by
 have c:=h.1;have z:(ys.zip (Is.map Isl.mv)).map (·.1)=ys:=List.map_fst_zip (by rw[Xb];lia)
 have m:(ys.zip (Is.map Isl.mv)).map (·.2)=Is.map Isl.mv:=List.map_snd_zip (by rw[Xb];lia)
 refine .inr ⟨ys.zip (Is.map Isl.mv),.inr ⟨p,rfl,by rw[z];exact y⟩,by rw[m],by rw[List.length_zip,Xb];lia,λq g=>?_⟩
 obtain⟨i,d,rfl⟩:=Y0 g;rw[List.length_zip,Xb]at d;have u:i<ys.length:=by lia
 have j:i<Is.length:=by lia
 rw[List.getElem_zip,DY];exact _op (ok _ (XQ j)) (h.2 i _ _ (X7 j) (X7 u))
noncomputable def fstM:MV->MV
 |.tup (x::_)=>x
 |v=>v
abbrev Br:SpM:=λu M Q=>∃(p f:Addr) (j:List MV) (W:Wld),u=[.int W.w,.ref p,.ref f]/\M p=some (.lst j)/\IslsIn M W.isl j/\M f=some (.lst (W.fer.map Fer.mv))/\W.Good/\∀l,SameM M l->Q W.mv l
theorem S6:MonW Br:=by walk_at "m"
theorem _o0(T:Txt K mg t):FnOk P w K mg base CX0 56 t.il t.gT ["width","islands","ferries"] (liSp K Br):=by
 refine T.ck.F.okM _ni (fC (G:=OA) (Φ:=[("frozen",(ZR 13)),("is_width",Dy),("refuse_ferry",DD),("refuse_ferry_names",Dz),("refuse_islands",DC),("refuse_wrong_ends",DF)]) T rfl (fMc ⟨(Dw _),(fMc ⟨RW,(fMc ⟨S1,(fMc ⟨RX,(fMc ⟨S0,(fMc ⟨S4,nl0⟩)⟩)⟩)⟩)⟩)⟩) (fMc ⟨⟨_,_,_,FnOk.mono (RT T 13) (by decide),T.am.m,T.am.F.kp,T.am.b⟩,(fMc ⟨⟨_,_,_,FnOk.mono (_g3 T) (by decide),T.aG.m,T.aG.F.kp,T.aG.b⟩,(fMc ⟨⟨_,_,_,FnOk.mono (_bp T) (by decide),T.aL.m,T.aL.F.kp,T.aL.b⟩,(fMc ⟨⟨_,_,_,FnOk.mono (_5D T) (by decide),T.aO.m,T.aO.F.kp,T.aO.b⟩,(fMc ⟨⟨_,_,_,FnOk.mono (_9m T) (by decide),T.aJ.m,T.aJ.F.kp,T.aJ.b⟩,(fMc ⟨⟨_,_,_,FnOk.mono (_6S T) (by decide),T.aK.m,T.aK.F.kp,T.aK.b⟩,nl0⟩)⟩)⟩)⟩)⟩)⟩)) G4 _oX (fun vs M Q h=>?_) (fun vs M Q h=>?_)
 .obtain⟨p,f,d,W,rfl,_⟩:=h;rfl
 obtain⟨p,f,d,W,rfl,c,m,g,G,q⟩:=h;have e:=UG (Φ:=[("frozen",ZR 13),("is_width",Dy),("refuse_ferry",DD),("refuse_ferry_names",Dz),("refuse_islands",DC),("refuse_wrong_ends",DF)]) (fMc ⟨Dw 13,fMc ⟨RW,fMc ⟨S1,fMc ⟨RX,fMc ⟨S0,fMc ⟨S4,fun _ h=>nomatch h⟩⟩⟩⟩⟩⟩);show wSs _ _ _ [some (.int W.w),some (.ref p),some (.ref f),none,none] M;have w1:=G.w1;have w2:=G.w2;have C:=G.i5;have E:=G.f6;have hl:=m.1;have nd:=Zj.mp G.nd;delta G4 Oz;simp!;refine⟨W.w,rfl,by lia,by lia,?_⟩
 simp!;delta Oy
 simp![c]
 refine Y3 (λz=>by lia) (λ_=>?_)
 delta Ox
 simp![g,Xb]
 refine Y3 (λz=>by lia) (λ_=>?_)
 delta Ow;simp!;refine⟨f,W.fer,rfl,g,E,nd.1,λx Y=>G.fg _ (XT.mpr ⟨x,Y,rfl⟩),λM1 s1=>?_⟩;simp!;have L:=s1 _ _ g;delta Ov;simp!;refine _N W.fer Fer.mv (λx=>.str x.name) ?_ ?_ e λD F=>?_
 .simp![L]
  exact⟨rfl,by lia,L⟩
 .intro x Y l s;simp only[sCm,Xx,Yg,Yr,Ys,Ym,Y7]
  simp![Fer.mv]
  try exact⟨rfl,rfl⟩
 have eF:(W.fer.map λx=>MV.str x.name)=W.fns.map MV.str:=by unfold Wld.fns;rw[Yu];rfl
 rw[eF];have X:=s1.trans (SameM.new F (.lst (W.fns.map MV.str)));have H:updM M1 D (.lst (W.fns.map MV.str)) D=some (.lst (W.fns.map MV.str)):=Xa;generalize updM M1 D _=M2 at*
 try simp!
 refine⟨W.w,p,D,W.isl,d,W.fns,rfl,w2,X _ _ c,m.keep X,C,by unfold Wld.fns;rw[Xb];exact E,H,G.nd,λI N=>G.ig _ (XT.mpr ⟨I,N,rfl⟩),G.io,λM3 s3=>?_⟩
 have Z:=X.trans s3;have O:=Z _ _ c;have hf3:=Z _ _ g;have o:=m.keep Z;simp!;delta Ou;simp!;refine _N d (λy=>y) fstM ?_ ?_ e λD F=>?_
 .simp![O]
  exact⟨by simp[Src.items],by lia,O⟩
 .intro y i l s;obtain⟨I,_,a,b,rfl,_⟩:=o.mem i;simp only[sCm,Xx,Yg,Yr,Ys,Ym,Y7];simp!
  rfl
 have eI:d.map fstM=W.ins.map MV.str:=m.fst λz r=>rfl;rw[eI];have A:=Z.trans (SameM.new F (.lst (W.ins.map MV.str)));have hD5:updM M3 D (.lst (W.ins.map MV.str)) D=some (.lst (W.ins.map MV.str)):=Xa;generalize updM M3 D _=M5 at*;have u:=A _ _ g;delta Ot
 simp![u]
 obtain⟨J,R⟩:∃J:Nat->Sm->MH->Prop,∀j U l,J j U l↔l=M5/\∃v,U=[some (.int W.w),some (.ref p),some (.ref f),some (.ref D),v]:=⟨_,λ_ _ _=>Y8⟩;refine⟨J,(R _ _ _).mpr ⟨rfl,_,rfl⟩,λj U l h=>by rw[((R _ _ _).mp h).1];exact u,?_,?_⟩
 .rintro j y U l i h;obtain⟨rfl,v,rfl⟩:=(R _ _ _).mp h;obtain⟨hj,rfl⟩:=YF i;have hj:j<W.fer.length:=hj;delta Os;simp!;refine⟨W.fer[j],D,W.ins,rfl,hD5,G.fo _ (XQ hj),?_⟩;simp!;exact(R _ _ _).mpr ⟨rfl,_,rfl⟩
 .rintro U l h;obtain⟨rfl,v,rfl⟩:=(R _ _ _).mp h;delta Oq;simp!;refine⟨p,f,d,W.isl,W.fer,rfl,A _ _ c,m.keep A,C,u,E,nd.1,λI N=>⟨(G.io I N).ns,λS hS=>⟨G.en I N S hS,_,_,(G.io I N).st S hS⟩⟩,λM6 s6=>?_⟩;have B:=A.trans s6;simp!;delta Op;simp!;refine⟨_,W.mv,rfl,?_,λl s'=>q l (B.trans s')⟩;refine .inr ⟨[(.int W.w,.int W.w),(.ref p,.tup (W.isl.map Isl.mv)),(.ref f,.tup (W.fer.map Fer.mv))],.inl rfl,rfl,by simp,λz hz=>?_⟩
  simp only[Xl,XI,or_false]at hz;rcases hz with rfl|rfl|rfl
  .exact fro_int.to (by decide)
  .exact _lA (B _ _ c) (m.keep B) C G.io
  .refine(GY (n:=1) (B _ _ g) (by rw[Xb];lia) λx Y=>?_).to (by decide)
   obtain⟨y,_,rfl⟩:=XT.mp Y;exact _oN y
theorem _g5(m:Nat):∀n:Nat,(m^^^n)+2*(m&&& n)=m+n:=by
 induction m using Nat.strongRecOn with
 |ind m l=>
  intro n;by_cases h0:m=0
  .subst h0;simp
  .have j:=l (m/2) (by lia) (n/2)
   rw[<-Nat.xor_div_two,<-Nat.and_div_two]at j;have u:=@Nat.xor_mod_two_eq_one m n;have y:=@Nat.and_mod_two_eq_one m n;lia
noncomputable def seen(o n c:Nat):Nat:=o^^^((o^^^n)&&& c)
theorem Bs(m n:Nat):CI (m:Int) (n:Int)=((m^^^n:Nat):Int):=by
 rw[PyProof.Rows.bitXor_and,HL (Wu m) (Wu n),YR,YR];have:=_g5 m n;lia
theorem _m1(m n:Nat):CH (m:Int) (n:Int)=((m&&& n:Nat):Int):=by
 rw[HL (Wu m) (Wu n),YR,YR]
noncomputable def gray(n:Nat):Nat:=n^^^(n/2)
noncomputable def ugF:Nat->Nat->Nat->Nat
 |0,n,_=>n
 |k+1,n,a=>if a=0 then n else ugF k (n^^^a) (a/2)
theorem GZ:∀k n,ugF k n 0=n
 |0,_=>rfl
 |k+1,n=>by simp[ugF]
def Ue(w:Nat):Nat:=ugF 64 w (w/2)
noncomputable def DG(x:Nat):Bool:=x==1||x==2||x==4||x==8
def Zpp(m:Nat):Bool:=(Xs (2^(m+1))).all λn=>decide (gray n<16)&&decide (Ue (gray n)=n)&&DG (gray n^^^gray ((n+1)%2^(m+1)))
theorem _kL:(Xs 4).all Zpp=true:=by decide+kernel
theorem S7{m n:Nat}(l:m<4)(u:n<2^(m+1)):gray n<16/\Ue (gray n)=n/\DG (gray n^^^gray ((n+1)%2^(m+1)))=true:=by
 have y:=US.mp _kL m (Z3.mpr l);have j:=US.mp y n (Z3.mpr u);simp only[XY,decide_eq_true_eq]at j;exact⟨j.1.1,j.1.2,j.2⟩
theorem _p6{x c:Nat}(h:DG x=true):x&&& c=0\/x&&& c=x:=by
 have l:∀i:Nat,(2^i&&& c)=0\/(2^i&&& c)=2^i:=λi=>by
  cases h:c.testBit i with
  |false=>
   left
   refine Nat.eq_of_testBit_eq λj=>?_;rw[Nat.testBit_and,Nat.testBit_two_pow,Nat.zero_testBit];by_cases e:i=j
   .subst e;rw[h,Wt]
   .rw[decide_eq_false e,Ws]
  |true=>
   right
   refine Nat.eq_of_testBit_eq λj=>?_;rw[Nat.testBit_and,Nat.testBit_two_pow];by_cases e:i=j
   .subst e;rw[h,Bool.and_true]
   .rw[decide_eq_false e,Ws]
 unfold DG at h;simp only[Ea,beq_iff_eq]at h;rcases h with((rfl|rfl)|rfl)|rfl
 .exact l 0
 .exact l 1
 .exact l 2
 .exact l 3
set_option tactic.hygienic true in
theorem _iK{m a b c:Nat}(u:m<4)(h:a=b\/a=b+1):
  seen (gray (b%2^(m+1))) (gray (a%2^(m+1))) c=if c&&&(gray (a%2^(m+1))^^^gray (b%2^(m+1)))=0 then gray (b%2^(m+1))else gray (a%2^(m+1)):=by
 have l:0<2^(m+1):=Zp _;have y:=S7 u (VC b l);have g:a=b+1->(b%2^(m+1)+1)%2^(m+1)=a%2^(m+1):=λe=>by rw[e,Nat.mod_add_mod]
 unfold seen;rcases h with rfl|h
 .rw[Nat.xor_self,Nat.and_zero,if_pos rfl,Nat.zero_and,Nat.xor_zero]
 .have j:=y.2.2;rw[g h]at j;rw[Nat.and_comm c,Nat.xor_comm (gray (a%2^(m+1)))];rcases _p6 (c:=c) j with e|e
  .rw[e,if_pos rfl,Nat.xor_zero]
  .rw[e,<-Nat.xor_assoc,Nat.xor_self,Nat.zero_xor];split
   .rename_i z
    rw[z]at j;cases j
   .rfl
structure Ab where
 k:Nat
 ws:List Nat
 tn:Nat
 gp:Nat
 tp:Nat
 gm:Int
 tm:Int
 gx:List Nat
 tx:List Nat
 lg:Nat
 lt:Nat
def Zw(k n p:Nat)(fresh:Bool)(c:Nat):Nat:=if fresh=true/\c&&&(gray (n%2^(k+1))^^^gray (p%2^(k+1)))=0 then p else n
noncomputable def Xy(xs:List Nat):Nat:=xs.getLastD 0
def Ab.gSamp(A:Ab)(c:Nat):Nat:=Zw A.k A.tn A.tp (decide (A.gm<A.tm)) c
def Ab.tSamp(A:Ab)(c:Nat):Nat:=Zw A.k A.ws.length A.gp (decide (A.tm<A.gm)) c
def Ab.gives(A:Ab)(w:Option Nat):Bool:=w.isSome&&decide (A.ws.length<Xy A.gx+2^A.k)
def Ab.takes(A:Ab)(w:Bool):Bool:=w&&decide (Xy A.tx≠A.tn)
noncomputable def Ab.giver(A:Ab)(m:Int)(c:Nat)(w:Option Nat):Ab:=
 {A with ws:=if A.gives w=true then A.ws++[w.getD 0]else A.ws,gp:=A.ws.length,gm:=m,gx:=A.gSamp c::A.gx.dropLast,lg:=A.tn}
noncomputable def Ab.taker(A:Ab)(m:Int)(c:Nat)(w:Bool):Ab:=
 {A with tn:=if A.takes w=true then A.tn+1 else A.tn,tp:=A.tn,tm:=m,tx:=A.tSamp c::A.tx.dropLast,lt:=A.ws.length}
structure Ab.Ok (A:Ab):Prop where
 k4:A.k<4
 gl:1<=A.gx.length/\A.gx.length<=3
 tl:A.tx.length=A.gx.length
 g1:A.gp<=A.ws.length/\A.ws.length<=A.gp+1
 t1:A.tp<=A.tn/\A.tn<=A.tp+1
 gs:A.gx.Pairwise (·>= ·)
 ts:A.tx.Pairwise (·>= ·)
 gb:∀d∈A.gx,d<=A.lg/\A.ws.length<=d+2^A.k
 tb:∀c∈A.tx,c<=A.lt/\A.tn<=c
 lg1:A.lg<=A.tn
 lt1:A.lt<=A.ws.length
 lg2:A.gm<A.tm->A.lg<=A.tp
 lt2:A.tm<A.gm->A.lt<=A.gp
theorem Bt:∀{xs:List Nat},1<=xs.length->xs=xs.dropLast++[Xy xs]
 |[],h=>by simp at h
 |[a],_=>rfl
 |a::b::s,_=>by
  have j:=Bt (xs:=b::s) (by simp)
  have e:Xy (a::b::s)=Xy (b::s):=by simp[Xy]
  rw[e];show a::b::s=a::((b::s).dropLast++[Xy (b::s)]);rw[<-j]
theorem _0{xs:List Nat}(h:1<=xs.length):Xy xs∈xs:=by
 have e:=Bt h;rw[e];have j:Xy (xs.dropLast++[Xy xs])=Xy xs:=by rw[<-e]
 rw[j];simp
theorem _kA{k n p:Nat}{f:Bool}{c:Nat}:Zw k n p f c=p\/Zw k n p f c=n:=by
 unfold Zw;split
 .exact .inl rfl
 .exact .inr rfl
theorem _kz{k n p:Nat}{c:Nat}:Zw k n p false c=n:=by simp[Zw]
theorem S8{k n p l:Nat}{f:Bool}{c:Nat}(h1:p<=n)(h2:l<=n)(h3:f=true->l<=p):l<=Zw k n p f c/\Zw k n p f c<=n:=by
 cases f with
 |false=>rw[_kz];exact⟨h2,Xf _⟩
 |true=>
  rcases @_kA k n p true c with e|e
  all_goals first|exact⟨by rw[e];exact h3 rfl,by rw[e];exact h1⟩|exact⟨by rw[e];exact h2,by rw[e];exact Xf _⟩
theorem Ab.Ok.gSamp{A:Ab}(h:A.Ok)(c:Nat):A.lg<=A.gSamp c/\A.gSamp c<=A.tn:=S8 h.t1.1 h.lg1 (λf=>h.lg2 (of_decide_eq_true f))
theorem Ab.Ok.tSamp{A:Ab}(h:A.Ok)(c:Nat):A.lt<=A.tSamp c/\A.tSamp c<=A.ws.length:=S8 h.g1.1 h.lt1 (λf=>h.lt2 (of_decide_eq_true f))
theorem Ab.Ok.room{A:Ab}(h:A.Ok):A.tn<=A.ws.length/\A.ws.length<=A.tn+2^A.k:=by
 have a:=h.gb _ (_0 h.gl.1);have b:=h.tb _ (_0 (by rw[h.tl];exact h.gl.1))
 have:=h.lg1;have:=h.lt1;lia
set_option tactic.hygienic true in
theorem Ab.Ok.giver{A:Ab}(h:A.Ok){m:Int}{c:Nat}{w:Option Nat}(u:A.tm<m):(A.giver m c w).Ok:=by
 have g:=h.gSamp c;have f:=h.gb _ (_0 h.gl.1);have L:=h.room;have q:∃n,(A.giver m c w).ws.length=n/\A.ws.length<=n/\n<=A.ws.length+1/\n<=Xy A.gx+2^A.k:=by
  unfold Ab.giver;dsimp only;split
  .rename_i e
   unfold Ab.gives at e;simp only[XY,decide_eq_true_eq]at e;exact⟨_,rfl,by simp,by simp,by simp;lia⟩
  .exact⟨_,rfl,by lia,by lia,by lia⟩
 obtain⟨n,l,y,r,N⟩:=q;refine⟨h.k4,?_,?_,?_,h.t1,?_,h.ts,?_,?_,Xf _,?_,λz=>?_,λz=>?_⟩
 .show 1<=(A.gSamp c::A.gx.dropLast).length/\(A.gSamp c::A.gx.dropLast).length<=3;have:=h.gl;simp only[Yl,Wj];lia
 .show A.tx.length=(A.gSamp c::A.gx.dropLast).length;have:=h.gl;have:=h.tl;simp[Wj];lia
 .rw[l];exact⟨y,r⟩
 .show(A.gSamp c::A.gx.dropLast).Pairwise (·>= ·);rw[DV];refine⟨λd j=>?_,Io (List.dropLast_sublist _) h.gs⟩;have:=(h.gb d (BW _ j)).1;show d<=A.gSamp c;lia
 .intro d j;rw[l];show d<=A.tn/\n<=d+2^A.k;rcases Xl.mp j with rfl|j
  .have:=f.1;exact⟨g.2,by lia⟩
  .have u:=BW _ j;refine⟨Y4 (h.gb d u).1 h.lg1,?_⟩;have:Xy A.gx<=d:=by
    have e:=Bt h.gl.1;have p:=h.gs;rw[e]at p;exact(List.pairwise_append.mp p).2.2 d j _ (Y1.mpr rfl)
   lia
 .exact h.tb
 .rw[l];exact Y4 h.lt1 y
 .exact absurd z (by show¬m<A.tm;lia)
 .exact h.lt1
set_option tactic.hygienic true in
theorem Ab.Ok.taker{A:Ab}(h:A.Ok){m:Int}{c:Nat}{w:Bool}(y:A.gm<m):(A.taker m c w).Ok:=by
 have f:=h.tSamp c;have l:1<=A.tx.length:=by rw[h.tl];exact h.gl.1
 have q:=h.tb _ (_0 l);have N:=h.room;have r:∃n,(A.taker m c w).tn=n/\A.tn<=n/\n<=A.tn+1/\n<=Xy A.tx:=by
  unfold Ab.taker;dsimp only;split
  .rename_i e
   unfold Ab.takes at e;simp only[XY,decide_eq_true_eq]at e;exact⟨_,rfl,by simp,by simp,by lia⟩
  .exact⟨_,rfl,by lia,by lia,by lia⟩
 obtain⟨n,u,g,L,O⟩:=r;refine⟨h.k4,h.gl,?_,h.g1,?_,h.gs,?_,?_,?_,?_,Xf _,λz=>?_,λz=>?_⟩
 .show(A.tSamp c::A.tx.dropLast).length=A.gx.length;have:=h.tl;simp[Wj];lia
 .rw[u];exact⟨g,L⟩
 .show(A.tSamp c::A.tx.dropLast).Pairwise (·>= ·);rw[DV];refine⟨λd j=>?_,Io (List.dropLast_sublist _) h.ts⟩;have:=(h.tb d (BW _ j)).1;show d<=A.tSamp c;lia
 .exact h.gb
 .intro d j;rw[u];show d<=A.ws.length/\n<=d;rcases Xl.mp j with rfl|j
  .exact⟨f.2,by have:=q.1;lia⟩
  .have y:=BW _ j;refine⟨Y4 (h.tb d y).1 h.lt1,?_⟩;have:Xy A.tx<=d:=by
    have e:=Bt l;have p:=h.ts;rw[e]at p;exact(List.pairwise_append.mp p).2.2 d j _ (Y1.mpr rfl)
   lia
 .rw[u];exact Y4 h.lg1 g
 .exact h.lg1
 .exact absurd z (by show¬m<A.gm;lia)
noncomputable def ab0(k st:Nat):Ab:=⟨k,[],0,0,0,-1,-1,Xj st 0,Xj st 0,0,0⟩
theorem S9(n:Nat):(Xj n 0).Pairwise (·>= ·):=by
 induction n with
 |zero=>exact .nil
 |succ n j=>rw[Za,DV];exact⟨λd l=>by rw[UQ l];exact Xf _,j⟩
theorem _rk{k st:Nat}(l:k<4)(h1:1<=st)(h3:st<=3):(ab0 k st).Ok:=by
 refine⟨l,by simpa [ab0]using⟨h1,h3⟩,by simp[ab0],by simp[ab0],by simp[ab0],S9 _,S9 _,?_,?_,Xf _,Xf _,λz=>Xf _,λz=>Xf _⟩
 .intro d j;rw[UQ j];exact⟨Xf _,YA _⟩
 .intro d j;rw[UQ j];exact⟨Xf _,Xf _⟩
noncomputable def PlOk(A:Ab)(pl:List (Nat×Nat×Int)):Prop:=pl.length=2^A.k/\∀j (u:j<A.ws.length),A.ws.length<=j+2^A.k->∃l,pl[j%2^A.k]?=some (A.ws[j],l,A.gm)/\(j<A.gp->l=A.ws[j])
noncomputable def YU(A:Ab)(m:Int)(w:Option Nat)(pl:List (Nat×Nat×Int)):List (Nat×Nat×Int):=
 (Xs pl.length).map λi=>((if A.gives w=true/\i=A.ws.length%2^A.k then w.getD 0 else(pl.getD i (0,0,0)).1),(pl.getD i (0,0,0)).1,m)
theorem _qG{a b n:Nat}(h1:a<b)(h2:b<a+n):a%n≠b%n:=by
 intro e;have j:(b - a)%n=0:=Nat.sub_mod_eq_zero_of_mod_eq e.symm;rw[Nat.mod_eq_of_lt (by lia)]at j
 lia
theorem _hN{A:Ab}{m:Int}{c:Nat}{w:Option Nat}{pl:List (Nat×Nat×Int)}(h:PlOk A pl):PlOk (A.giver m c w) (YU A m w pl):=by
 have q:0<2^A.k:=Zp _;refine⟨?_,?_⟩
 .show(YU A m w pl).length=2^A.k;simp[YU,h.1]
 .intro j r d;have d:(A.giver m c w).ws.length<=j+2^A.k:=d;show∃f,(YU A m w pl)[j%2^A.k]?=some ((A.giver m c w).ws[j],f,m)/\(j<A.ws.length->f=(A.giver m c w).ws[j]);have lt:j%2^A.k<pl.length:=by rw[h.1];exact VC _ q
  have get:(YU A m w pl)[j%2^A.k]?=some ((if A.gives w=true/\j%2^A.k=A.ws.length%2^A.k then w.getD 0 else(pl.getD (j%2^A.k) (0,0,0)).1),(pl.getD (j%2^A.k) (0,0,0)).1,m):=by
   unfold YU;rw[Xr,Wk lt]
   rfl
  rw[get];by_cases g:A.gives w=true
  .have y:(A.giver m c w).ws=A.ws++[w.getD 0]:=by unfold Ab.giver;rw[if_pos g]
   have N:j<A.ws.length+1:=by rw[y]at r;simpa using r
   have O:A.ws.length+1<=j+2^A.k:=by rw[y]at d;simpa using d
   by_cases e:j=A.ws.length
   .subst e;refine⟨(pl.getD (A.ws.length%2^A.k) (0,0,0)).1,?_,λz=>absurd z (Uv _)⟩;rw[if_pos ⟨g,rfl⟩];simp[y]
   .have l:j<A.ws.length:=by lia
    obtain⟨f,p,_⟩:=h.2 j l (by lia)
    have R:=_qG (n:=2^A.k) l (by lia)
    have L:pl.getD (j%2^A.k) (0,0,0)=(A.ws[j],f,A.gm):=by rw[Ya,p];rfl
    have u:(A.giver m c w).ws[j]=A.ws[j]:=by simp[y,l]
    refine⟨A.ws[j],?_,λ_=>u.symm⟩;rw[if_neg (λz=>R z.2),L,u]
  .have y:(A.giver m c w).ws=A.ws:=by unfold Ab.giver;rw[if_neg g]
   have l:j<A.ws.length:=by rw[y]at r;exact r
   obtain⟨f,p,_⟩:=h.2 j l (by rw[y]at d;exact d)
   have L:pl.getD (j%2^A.k) (0,0,0)=(A.ws[j],f,A.gm):=by rw[Ya,p];rfl
   have u:(A.giver m c w).ws[j]=A.ws[j]:=by simp[y]
   refine⟨A.ws[j],?_,λ_=>u.symm⟩;rw[if_neg (λz=>g z.1),L,u]
theorem _iw{A:Ab}(h:A.Ok){pl:List (Nat×Nat×Int)}(y:PlOk A pl)(c:Xy A.tx≠A.tn):∃(l:A.tn<A.ws.length) (j:Nat),pl[A.tn%2^A.k]?=some (A.ws[A.tn],j,A.gm)/\(A.tm<A.gm->j=A.ws[A.tn]):=by
 have u:1<=A.tx.length:=by rw[h.tl];exact h.gl.1
 have f:=h.tb _ (_0 u);have m:=h.room;have q:=h.lt1;have l:A.tn<A.ws.length:=by lia
 obtain⟨j,g,d⟩:=y.2 A.tn l m.2;exact⟨l,j,g,λz=>d (by have:=h.lt2 z;lia)⟩
theorem _iJ(a c:Nat):seen a a c=a:=by simp[seen]
theorem _l4{A:Ab}(h:A.Ok):(((A.ws.length:Int) - ((Xy A.gx%2^(A.k+1):Nat):Int))%((2^(A.k+1):Nat):Int)<((2^A.k:Nat):Int))↔A.ws.length<Xy A.gx+2^A.k:=by
 have a:=h.gb _ (_0 h.gl.1);have j:=h.room;have l:=h.lg1;have e:((A.ws.length:Int) - ((Xy A.gx%2^(A.k+1):Nat):Int))%((2^(A.k+1):Nat):Int)=((A.ws.length - Xy A.gx:Nat):Int):=by
  rw[Ed,Cq,Int.emod_emod,<-Cq];have:(A.ws.length:Int) - (Xy A.gx:Int)=((A.ws.length - Xy A.gx:Nat):Int):=by lia
  rw[this,<-Ed,Nat.mod_eq_of_lt (by rw[Ci];have:=Zp A.k;lia)]
 rw[e];lia
theorem Sa{A:Ab}(h:A.Ok):(((A.tn:Int) - ((Xy A.tx%2^(A.k+1):Nat):Int))%((2^(A.k+1):Nat):Int)=0)↔Xy A.tx=A.tn:=by
 have j:1<=A.tx.length:=by rw[h.tl];exact h.gl.1
 have a:=h.tb _ (_0 j);have y:=h.room;have m:=h.lt1;have p:=Zp A.k;rw[Ed,Cq,Int.emod_emod,<-Cq];constructor
 .intro z;have d:=Int.dvd_of_emod_eq_zero z;have l:((2^(A.k+1):Nat):Int)∣((Xy A.tx - A.tn:Nat):Int):=by
   have:((Xy A.tx - A.tn:Nat):Int)= -((A.tn:Int) - (Xy A.tx:Int)):=by lia
   rw[this];exact Int.dvd_neg.mpr d
  have u:=Int.natCast_dvd_natCast.mp l;have:=Nat.eq_zero_of_dvd_of_lt u (by rw[Ci];lia)
  lia
 .intro z;rw[z,Int.sub_self];rfl
abbrev Ha:SpM:=λj M Q=>∃(o n c:Nat),j=[.int o,.int n,.int c]/\Q (.int (seen o n c:Nat)) M
theorem _ga:MonW Ha:=by walk_at "m"
theorem _o2(T:Txt K mg t):FnOk P w K mg base CX0 1 t.iy t.eC ["old","new","choice"] (liSp K Ha):=by
 refine T.bU.F.okM _nk (fC (G:=L9) (Φ:=[]) T rfl nl0 nl0) F6 _oZ (λj M Q h=>?_) (λj M Q h=>?_)
 .obtain⟨o,n,c,rfl,_⟩:=h;rfl
 obtain⟨o,n,c,rfl,q⟩:=h;show wSs _ _ _ [some (.int o),some (.int n),some (.int c)] M;delta F6 L8;simp!;rw[Bs,_m1,Bs];exact q
noncomputable abbrev Bu:SpM:=λj M Q=>∃w:Int,j=[.int w]/\Q (.tup [.int w,.int w,.int (-1)]) M
theorem Sb:MonW Bu:=by walk_at "m"
theorem Sc(T:Txt K mg t):FnOk P w K mg base CX0 1 t.fW t.dl ["word"] (liSp K Bu):=by
 refine T.aQ.F.okM _dF (fC (G:=Ll) (Φ:=[]) T rfl nl0 nl0) F9 _ec (λj M Q h=>?_) (λj M Q h=>?_)
 .obtain⟨n,rfl,_⟩:=h;rfl
 obtain⟨n,rfl,q⟩:=h;show wSs _ _ _ [some (.int n)] M;delta F9 Lk;simp!;exact q
noncomputable abbrev UJ:SpM:=λj M Q=>∃a b c w m:Int,j=[.tup [.int a,.int b,.int c],.int w,.int m]/\Q (.tup [.int w,.int a,.int m]) M
theorem Hb:MonW UJ:=by walk_at "m"
theorem Sd(T:Txt K mg t):FnOk P w K mg base CX0 1 t.fB t.dF ["sign","word","moment"] (liSp K UJ):=by
 refine T.aY.F.okM _l0 (fC (G:=Ln) (Φ:=[]) T rfl nl0 nl0) Fa _lX (λj M Q h=>?_) (λj M Q h=>?_)
 .obtain⟨a,b,c,w,m,rfl,_⟩:=h;rfl
 obtain⟨a,b,c,w,m,rfl,q⟩:=h;show wSs _ _ _ [some (.tup [.int a,.int b,.int c]),some (.int w),some (.int m)] M;delta Fa Lm;simp!;exact q
abbrev Va:SpM:=λj M Q=>∃(a b:Nat) (m s:Int) (c:Nat),j=[.tup [.int a,.int b,.int m],.int s,.int c]/\Q (.int ((if s<m then seen b a c else a:Nat):Int)) M
theorem Se:MonW Va:=by walk_at "m"
theorem Sf(T:Txt K mg t):FnOk P w K mg base CX0 2 t.fV t.gX ["sign","since","choice"] (liSp K Va):=by
 refine T.aR.F.okM _hH (fC (G:=Lu) (Φ:=[("amid",Ha)]) T rfl (fMc ⟨_ga,nl0⟩) (fMc ⟨fE T.bU (_o2 T),nl0⟩)) Fc _id (fun j M Q h=>?_) (fun j M Q h=>?_)
 .obtain⟨a,b,m,s,c,rfl,_⟩:=h;rfl
 obtain⟨a,b,m,s,c,rfl,q⟩:=h;show wSs _ _ _ [some (.tup [.int a,.int b,.int m]),some (.int s),some (.int c)] M;delta Fc Ls;simp!;refine Y3 (λh=>?_) (λh=>?_)
 .rw[if_pos h]at q;delta Lr;simp!;exact⟨b,a,c,rfl,q⟩
 .rw[if_neg h]at q;delta Lq;simp!;exact q
noncomputable abbrev Hc:SpM:=λj M Q=>∃(w:Int) (k:Nat),j=[.int w,.int k]/\1<=k/\k<=3/\Q (.tup ((Xj k w).map MV.int)) M
theorem _8A:MonW Hc:=by walk_at "m"
theorem Hd{j:Type}(x:j):∀k:Nat,(Xj k [x]).flatten=Xj k x
 |0=>rfl
 |k+1=>by rw[Za,ZE,Hd x k];rfl
theorem _cx(T:Txt K mg t):FnOk P w K mg base CX0 1 t.df t.fL ["word","stages"] (liSp K Hc):=by
 refine T.bg.F.okM _cq (fC (G:=Lp) (Φ:=[]) T rfl nl0 nl0) Fb _cO (λj M Q h=>?_) (λj M Q h=>?_)
 .obtain⟨w,k,rfl,_⟩:=h;rfl
 obtain⟨w,k,rfl,l,u,q⟩:=h;show wSs _ _ _ [some (.int w),some (.int k)] M;delta Fb Lo;simp!;refine⟨by lia,by lia,?_⟩
 rw[YR,Hd];rw[Wl]at q;exact q
noncomputable abbrev He:SpM:=λj M Q=>∃(l:List Int) (a:Int),j=[.tup ((l++[a]).map MV.int)]/\Q (.int a) M
theorem _g8:MonW He:=by walk_at "m"
theorem _p8(xs:List Int)(a:Int):atI ((xs++[a]).map MV.int) (-1)=some (.int a):=by
 unfold atI ixN;rw[if_neg (by decide),if_pos (by simp;lia)]
 have e:((-1:Int)+(((xs++[a]).map MV.int).length:Int)).toNat=xs.length:=by simp;lia
 rw[e];simp
theorem _nZ(T:Txt K mg t):FnOk P w K mg base CX0 1 t.fA t.eL ["sight"] (liSp K He):=by
 refine T.bW.F.okM _nh (fC (G:=Ly) (Φ:=[]) T rfl nl0 nl0) Fe _oW (λl M Q h=>?_) (λl M Q h=>?_)
 .obtain⟨j,a,rfl,_⟩:=h;rfl
 obtain⟨j,a,rfl,q⟩:=h;show wSs _ _ _ [some (.tup ((j++[a]).map MV.int))] M;delta Fe Lx;simp!;exact⟨_,_p8 j a,q⟩
noncomputable abbrev DH:SpM:=λl M Q=>∃(j:List Int) (a w:Int),l=[.tup ((j++[a]).map MV.int),.int w]/\j.length<=100/\Q (.tup ((w::j).map MV.int)) M
theorem _f3:MonW DH:=by walk_at "m"
theorem _lo(T:Txt K mg t):FnOk P w K mg base CX0 1 t.dD t.gP ["sight","word"] (liSp K DH):=by
 refine T.bC.F.okM _l1 (fC (G:=Lw) (Φ:=[]) T rfl nl0 nl0) Fd _lY (λl M Q h=>?_) (λl M Q h=>?_)
 .obtain⟨j,a,w,rfl,_⟩:=h;rfl
 obtain⟨j,a,w,rfl,y,q⟩:=h;show wSs _ _ _ [some (.tup ((j++[a]).map MV.int)),some (.int w)] M;delta Fd Lv;simp!;have len:([MV.int w]++(j++[a]).map MV.int).length=j.length+2:=by simp
 have u:HT.sIx (j.length+2) (j.length+2) (some (-1))=j.length+1:=by
  unfold HT.sIx;dsimp only;rw[if_pos (by decide)]
  lia
 have cut:cutM ([MV.int w]++(j++[a]).map MV.int) none (some (-1))=(w::j).map MV.int:=by
  unfold cutM;rw[len,u,HT.sIx_none,Nat.sub_zero,List.drop_zero,XX,<-Vo];rw[HD (by simp),UR (by simp)]
  rfl
 refine⟨by simp;lia,?_⟩
 rw[cut];exact q
abbrev Bv:SpM:=λj M Q=>∃n:Nat,j=[.int n]/\Q (.int (gray n:Nat)) M
theorem Sg:MonW Bv:=by walk_at "m"
theorem Sh(T:Txt K mg t):FnOk P w K mg base CX0 1 t.dz t.fP ["n"] (liSp K Bv):=by
 refine T.aV.F.okM _hJ (fC (G:=Lb) (Φ:=[]) T rfl nl0 nl0) F7 _if (λj M Q h=>?_) (λj M Q h=>?_)
 .obtain⟨n,rfl,_⟩:=h;rfl
 obtain⟨n,rfl,q⟩:=h;show wSs _ _ _ [some (.int n)] M;delta F7 La;simp!;have e:(n:Int)/2=((n/2:Nat):Int):=by lia
 rw[e,Bs];exact q
abbrev Hf:SpM:=λl M Q=>∃j:Nat,l=[.int j]/\j<2^60/\Q (.int (Ue j:Nat)) M
theorem _aO:MonW Hf:=by walk_at "m"
theorem _eS(T:Txt K mg t):FnOk P w K mg base CX0 1 t.iI t.hG ["word"] (liSp K Hf):=by
 refine T.bo.F.okM _eu (fC (G:=Lj) (Φ:=[]) T rfl nl0 nl0) F8 _fr (λf M Q h=>?_) (λf M Q h=>?_)
 .obtain⟨n,rfl,_⟩:=h;rfl
 obtain⟨l,rfl,p,q⟩:=h;show wSs _ _ _ [some (.int l),none,none] M;have j:∀a:Nat,(a:Int)/2=((a/2:Nat):Int):=λa=>by lia
 delta F8 Li;simp!;delta Lh;simp!;rw[j];delta Lg;simp!;refine⟨λm z g=>g=M/\∃n a k:Nat,a=m/\a<2^k/\ugF k n a=Ue l/\z=[some (.int l),some (.int n),some (.int a)],⟨l/2,rfl,l,l/2,64,rfl,by lia,rfl,rfl⟩,?_⟩
 rintro m z g ⟨rfl,n,a,k,rfl,d,u,rfl⟩;simp!;refine Y3 (λc=>?_) (λc=>?_)
 .delta Lf;simp!;rw[Bs];delta Ld;simp!;rw[j];obtain⟨y,rfl⟩:∃y,k=y+1:=⟨k - 1,by
   cases k with
   |zero=>simp at d;lia
   |succ k=>rfl⟩
  refine⟨a/2,by lia,?_⟩
  refine⟨_,y,by rw[Ci]at d;lia,?_,rfl⟩
  rw[ugF,if_neg (by lia)]at u
  exact u
 .have r:a=0:=by lia
  subst r;rw[GZ]at u;rw[u];delta Lc;simp!;exact q
noncomputable abbrev natM:Nat->MV:=λn=>.int n
noncomputable abbrev sgnM(s:Nat×Nat×Int):MV:=.tup [.int s.1,.int s.2.1,.int s.2.2]
def Xk(j n:Nat)(s:Nat×Nat×Int)(xs:List Nat):MO:=.ins "Side" [("turn",.int j),("total",.int n),("sign",sgnM s),("sight",.tup (xs.map natM))]
theorem Hg(xs:List Nat):xs.map natM=(xs.map λn:Nat=>(n:Int)).map MV.int:=by rw[Yu];rfl
theorem Hh(a b:Nat):(a:Int)%(b:Int)=((a%b:Nat):Int):=by lia
theorem Si{k n p:Nat}(j:k<4)(h:p<=n/\n<=p+1)(s m:Int)(c:Nat):(if s<m then seen (gray (p%2^(k+1))) (gray (n%2^(k+1))) c else gray (n%2^(k+1)))=gray (Zw k n p (decide (s<m)) c%2^(k+1)):=by
 unfold Zw;by_cases e:s<m
 .rw[if_pos e,_iK j (a:=n) (b:=p) (by lia)]
  by_cases f:c&&&(gray (n%2^(k+1))^^^gray (p%2^(k+1)))=0
  .rw[if_pos f,if_pos ⟨decide_eq_true e,f⟩]
  .rw[if_neg f,if_neg (λz=>f z.2)]
 .rw[if_neg e,if_neg (λz=>e (of_decide_eq_true z.1))]
abbrev DI:SpM:=fun l M Q=>∃(a:Addr) (j st:Nat),l=[.ref a,.int j,.int st]/\M a=some (.ins "Side" [])/\1<=st/\st<=3/\Q .non (updM M a (Xk j 0 (0,0,-1) (Xj st 0)))
theorem _6U:MonW DI:=by walk_at "m"
theorem _aM(T:Txt K mg t):FnOk P w K mg base CX0 2 t.aT t.bp ["self","turn","stages"] (liSp K DI):=by
 refine T.eO.okM _aK (fC (G:=LD) (Φ:=[("code_of",Bv),("first_sight",Hc),("first_sign",Bu)]) T rfl (fMc ⟨Sg,(fMc ⟨_8A,(fMc ⟨Sb,nl0⟩)⟩)⟩) (fMc ⟨fE T.aV (Sh T),(fMc ⟨fE T.bg (_cx T),(fMc ⟨fE T.aQ (Sc T),nl0⟩)⟩)⟩)) Ff _aV (fun l M Q h=>?_) (fun l M Q h=>?_)
 .obtain⟨a,j,st,rfl,_⟩:=h;rfl
 obtain⟨a,j,st,rfl,u,y,z,q⟩:=h;show wSs _ _ _ [some (.ref a),some (.int j),some (.int st)] M;have m:gray 0=0:=by decide
 delta Ff LC
 simp![u,putM]
 delta LB
 simp![putM,YK]
 delta LA
 simp![putM,YK]
 refine⟨0,rfl,?_⟩
 simp![putM,YK]
 refine⟨_,rfl,?_⟩
 simp![putM,YK]
 delta Lz
 simp![putM,YK]
 refine⟨0,rfl,?_⟩
 simp![putM,YK]
 refine⟨_,st,rfl,y,z,?_⟩
 simp![putM,YK]
 rw[m];have e:List.map MV.int (Xj st (((0:Nat):Int)))=(Xj st 0).map natM:=by rw[Wl,Wl]
 rw[e];exact q
abbrev Vb:SpM:=λj M Q=>∃(a:Addr) (l n:Nat) (s:Nat×Nat×Int) (u:List Nat),j=[.ref a]/\M a=some (Xk l n s u)/\Q (.int s.2.2) M
theorem Sj:MonW Vb:=by walk_at "m"
theorem Sk(T:Txt K mg t):FnOk P w K mg base CX0 1 t.cv t.br ["self"] (liSp K Vb):=by
 refine T.cS.okM _8n (fC (G:=LG) (Φ:=[]) T rfl nl0 nl0) Fg _95 (λj M Q h=>?_) (λj M Q h=>?_)
 .obtain⟨a,l,n,s,u,rfl,_⟩:=h;rfl
 obtain⟨a,l,n,s,u,rfl,y,q⟩:=h;show wSs _ _ _ [some (.ref a)] M;delta Fg LF
 simp![y,Xk,valM]
 exact q
abbrev Uf:SpM:=λl M Q=>∃(a:Addr) (j n:Nat) (s:Nat×Nat×Int) (y:List Nat) (u:Nat),l=[.ref a]/\M a=some (Xk j n s (y++[u]))/\u<2^60/\0<j/\Q (.int (((n:Int) - (Ue u:Nat))%(j:Int))) M
theorem Hi:MonW Uf:=by walk_at "m"
theorem Sl(T:Txt K mg t):FnOk P w K mg base CX0 2 t.bA t.bc ["self"] (liSp K Uf):=by
 refine T.gc.okM _5w (fC (G:=LI) (Φ:=[("number_of",Hf),("used",He)]) T rfl (fMc ⟨_aO,(fMc ⟨_g8,nl0⟩)⟩) (fMc ⟨fE T.bo (_eS T),(fMc ⟨fE T.bW (_nZ T),nl0⟩)⟩)) Fh _6C (fun y M Q h=>?_) (fun y M Q h=>?_)
 .obtain⟨a,z,n,s,l,u,rfl,_⟩:=h;rfl
 obtain⟨a,z,n,s,l,u,rfl,j,m,g,q⟩:=h;show wSs _ _ _ [some (.ref a)] M;delta Fh LH
 simp![j,Xk,valM]
 refine⟨l.map (λn:Nat=>(n:Int)),(u:Int),by rw[Hg,XX];rfl,?_⟩
 simp![j,Xk,valM]
 refine⟨u,rfl,m,?_⟩
 simp![j,Xk,valM]
 exact⟨by lia,q⟩
abbrev Ug:SpM:=λu M Q=>∃(a:Addr) (j n:Nat) (s:Nat×Nat×Int) (l:List Nat),u=[.ref a]/\M a=some (Xk j n s l)/\Q .non (updM M a (Xk j (n+1) s l))
theorem Hj:MonW Ug:=by walk_at "m"
theorem Sn(T:Txt K mg t):FnOk P w K mg base CX0 1 t.bm t.bE ["self"] (liSp K Ug):=by
 refine T.dc.okM _eC (fC (G:=LK) (Φ:=[]) T rfl nl0 nl0) Fi _fz (λj M Q h=>?_) (λj M Q h=>?_)
 .obtain⟨a,l,n,s,u,rfl,_⟩:=h;rfl
 obtain⟨a,l,n,s,u,rfl,y,q⟩:=h;show wSs _ _ _ [some (.ref a)] M;delta Fi LJ
 simp![y,Xk,valM,putM]
 exact q
abbrev Uh:SpM:=λy M Q=>∃(a:Addr) (j n:Nat) (s:Nat×Nat×Int) (l:List Nat) (u:Nat) (m:Int) (c:Nat) (o:Nat×Nat×Int),y=[.ref a,.int m,.int c,sgnM o]/\M a=some (Xk j n s (l++[u]))/\l.length<=100/\0<j/\
 ∀d:Nat,(if s.2.2<o.2.2 then seen o.2.1 o.1 c else o.1)=d->Q (.int d) (updM M a (Xk j n (gray (n%j),s.1,m) (d::l)))
theorem Hk:MonW Uh:=by walk_at "m"
theorem So(T:Txt K mg t):FnOk P w K mg base CX0 3 t.bd t.bH ["self","moment","choice","other_sign"] (liSp K Uh):=by
 refine T.gB.okM _6R (_M (k:=2) (G:=LP) (Φ:=[("code_of",Bv),("moved",DH),("sampled",Va),("shown",UJ)]) (Ψ:=[("Side_ring_ahead",Vb)]) (Χ:=[("code_of",Bv),("moved",DH),("sampled",Va),("shown",UJ),("Side_ring_ahead",Vb)]) rfl (_O T) (_P T) rfl (fMc ⟨Sg,(fMc ⟨_f3,(fMc ⟨Se,(fMc ⟨Hb,(fMc ⟨Sj,nl0⟩)⟩)⟩)⟩)⟩) (fMc ⟨fE T.aV (Sh T),(fMc ⟨fE T.bC (_lo T),(fMc ⟨fE T.aR (Sf T),(fMc ⟨fE T.aY (Sd T),nl0⟩)⟩)⟩)⟩) (fMc ⟨⟨_,_,rfl,_,_,_,_,(FnOk.mono (Sk T) (by decide)),T.ae,T.ak,T.cr,T.aZ⟩,nl0⟩) nl0 (_Q T)) Fj _6X (fun f M Q h=>?_) (fun f M Q h=>?_)
 .obtain⟨a,y,n,s,l,u,m,c,o,rfl,_⟩:=h;rfl
 obtain⟨a,y,n,s,l,u,m,c,o,rfl,j,r,p,q⟩:=h;show wSs _ _ _ [some (.ref a),some (.int m),some (.int c),some (sgnM o),none] M;delta Fj LO
 simp![j,Xk,valM]
 refine⟨a,y,n,s,l++[u],rfl,j,?_⟩
 simp![j,Xk,valM]
 refine⟨o.1,o.2.1,o.2.2,s.2.2,c,rfl,?_⟩;obtain⟨d,g⟩:∃d:Nat,(if s.2.2<o.2.2 then seen o.2.1 o.1 c else o.1)=d:=⟨_,rfl⟩;rw[g];delta LN
 simp![j,Xk,valM]
 refine⟨by lia,?_⟩
 rw[Hh];refine⟨_,rfl,?_⟩
 simp![j,Xk,valM,putM]
 refine⟨s.1,s.2.1,s.2.2,_,m,rfl,?_⟩
 simp![j,Xk,valM,putM]
 delta LM
 simp![j,Xk,valM,putM,YK]
 refine⟨l.map (λn:Nat=>(n:Int)),(u:Int),(d:Int),by rw[Hg,XX];rfl,by rw[Xb];exact r,?_⟩
 simp![j,Xk,valM,putM,YK]
 delta LL
 simp![j,Xk,valM,putM,YK]
 have e:MV.int (d:Int)::List.map MV.int (l.map λn:Nat=>(n:Int))=(d::l).map natM:=by rw[Xx,Hg]
 have z:=q d g;rw[Xk,<-e]at z
 simpa only[Xx]using z
noncomputable def XW(p g u:Addr):MO:=.ins "Ferry" [("places",.ref p),("giver",.ref g),("taker",.ref u)]
abbrev Xh(k n:Nat):Nat:=gray (n%2^(k+1))
noncomputable def wM:Option Nat->MV
 |none=>.non
 |some x=>.int x
structure FyAt (M:MH)(f p g u:Addr)(A:Ab):Prop where
 ok:A.Ok
 fe:M f=some (XW p g u)
 pls:∃pl,M p=some (.lst (pl.map sgnM))/\PlOk A pl
 gi:M g=some (Xk (2^(A.k+1)) A.ws.length (Xh A.k A.ws.length,Xh A.k A.gp,A.gm) (A.gx.map (Xh A.k)))
 ta:M u=some (Xk (2^(A.k+1)) A.tn (Xh A.k A.tn,Xh A.k A.tp,A.tm) (A.tx.map (Xh A.k)))
 ne:g≠u
noncomputable def FrM(M M':MH)(l:List Addr):Prop:=∀a o,M a=some o->a∉l->M' a=some o
theorem FrM.refl(M:MH)(l:List Addr):FrM M M l:=λ_ _ h _=>h
theorem FrM.new{M M':MH}{l:List Addr}(h:FrM M M' l){p:Addr}(j:M' p=none)(o:MO):FrM M (updM M' p o) l:=λa u e n=>by
 have:=h a u e n;rw[X8 (neM this j)];exact this
theorem FrM.upd{M M':MH}{l:List Addr}(h:FrM M M' l){p:Addr}(j:p∈l)(o:MO):FrM M (updM M' p o) l:=λa u e n=>by
 rw[X8 (λz=>n (by rw[z];exact j))];exact h a u e n
theorem DJ{j n:Nat}{s:Nat×Nat×Int}{xs:List Nat}{p g u:Addr}:Xk j n s xs≠XW p g u:=by
 intro e;unfold Xk XW at e;injection e with e1 _;exact absurd e1 (by rw[V8];decide)
theorem _1{M:MH}{a b:Addr}{o u:MO}(h1:M a=some o)(h2:M b=some u)(n:o≠u):a≠b:=by
 intro e;subst e;rw[h1]at h2;cases h2;exact n rfl
theorem Hl{k n:Nat}(j:k<4):Xh k n<2^60/\Ue (Xh k n)=n%2^(k+1):=by
 have h:=S7 j (VC n (Zp (k+1)));exact⟨Yz h.1 (by decide),h.2.1⟩
theorem Sq{k:Nat}{xs:List Nat}(h:1<=xs.length):xs.map (Xh k)=xs.dropLast.map (Xh k)++[Xh k (Xy xs)]:=by
 have e:=Bt h;have:xs.map (Xh k)=(xs.dropLast++[Xy xs]).map (Xh k):=by rw[<-e]
 rw[this,XX];rfl
theorem _oo{n j:Nat}(h:j<n):ixN n (j:Int)=some j:=by
 unfold ixN;rw[if_pos (by lia),if_pos (by lia),YR]
abbrev Bw:SpM:=fun l M Q=>∃(f:Addr) (k st:Nat),l=[.ref f,.int k,.int st]/\M f=some (.ins "Ferry" [])/\k<4/\1<=st/\st<=3/\∀p g u j,M p=none->M g=none->M u=none->FrM M j [f]->FyAt j f p g u (ab0 k st)->Q .non j
theorem Sr:MonW Bw:=by walk_at "m"
theorem _9o(T:Txt K mg t):FnOk P w K mg base CX0 4 t.aU t.cq ["self","k","stages"] (liSp K Bw):=by
 refine T.fq.okM _9l (_M (k:=3) (G:=LU) (Φ:=[("first_sign",Bu),("two_to",Zu)]) (Ψ:=[("Side___init__",DI)]) (Χ:=[("first_sign",Bu),("two_to",Zu),("Side___init__",DI)]) rfl (_O T) (_P T) rfl (fMc ⟨Sb,(fMc ⟨Dp,(fMc ⟨_6U,nl0⟩)⟩)⟩) (fMc ⟨fE T.aQ (Sc T),(fMc ⟨fE T.aB (Dq T),nl0⟩)⟩) nl0 (fMc ⟨⟨_,_,rfl,_,_,_,_,_,(by decide:2+1<=3),_aM T,T.ae,T.fQ,T.eW,T.di⟩,nl0⟩) (_Q T)) Fk _9E (fun vs M Q h=>?_) (fun vs M Q h=>?_)
 .obtain⟨f,k,st,rfl,_⟩:=h;rfl
 obtain⟨f,k,st,rfl,hM,hk,J,S,q⟩:=h;show wSs _ _ _ [some (.ref f),some (.int k),some (.int st)] M;have X:∀j:Nat,((2:Int)^j)=((2^j:Nat):Int):=λj=>by rw[Wv];rfl
 have kp0:(0:Int)<=((2^k:Nat):Int):=Wu _;have k16:2^k<=8:=Cd (by lia) (by lia:k<=3)
 delta Fk LS
 simp![putM]
 refine⟨0,rfl,?_⟩
 simp![putM]
 intro F U;have W:=(FrM.refl M [f]).new U (.lst [.tup [.int 0,.int 0,.int (-1)]]);have c:updM M F (.lst [.tup [.int 0,.int 0,.int (-1)]]) f=some (.ins "Ferry" []):=by rw[X8 (neM hM U)];exact hM
 have H:updM M F (.lst [.tup [.int 0,.int 0,.int (-1)]]) F=some (.lst [.tup [.int 0,.int 0,.int (-1)]]):=Xa;generalize updM M F _=M0 at*;refine⟨k,rfl,by lia,?_⟩
 simp![H,X]
 rw[YR];refine⟨by lia,by lia,by lia,λp O=>?_⟩
 have v:M p=none:=by
  cases e:M p with
  |none=>rfl
  |some o=>
   by_cases ez:p=f
   .subst ez;rw[c]at O;cases O
   .rw[W p o e (by simpa using ez)]at O;cases O
 have s:=W.new O (.lst (Xj (2^k) [MV.tup [.int 0,.int 0,.int (-1)]]).flatten);have Y:updM M0 p (.lst (Xj (2^k) [MV.tup [.int 0,.int 0,.int (-1)]]).flatten) f=some (.ins "Ferry" []):=by rw[X8 (neM c O)];exact c
 have Z:updM M0 p (.lst (Xj (2^k) [MV.tup [.int 0,.int 0,.int (-1)]]).flatten) p=some (.lst (Xj (2^k) [MV.tup [.int 0,.int 0,.int (-1)]]).flatten):=Xa;generalize updM M0 p _=M1 at*
 simp![Y,putM]
 have A:=s.upd (Y1.mpr rfl) (.ins "Ferry" [("places",.ref p)]);have l:updM M1 f (.ins "Ferry" [("places",.ref p)]) f=some (.ins "Ferry" [("places",.ref p)]):=Xa;have jN:updM M1 f (.ins "Ferry" [("places",.ref p)]) p=some (.lst (Xj (2^k) [MV.tup [.int 0,.int 0,.int (-1)]]).flatten):=by rw[X8 (_1 Z Y (by intro z;cases z))];exact Z
 have free:∀z,updM M1 f (.ins "Ferry" [("places",.ref p)]) z=none->M z=none:=fun z d=>by
  cases e:M z with
  |none=>rfl
  |some o=>
   by_cases ez:z=f
   .subst ez;rw[l]at d;cases d
   .rw[A z o e (by simpa using ez)]at d;cases d
 generalize updM M1 f _=M2 at*;delta LR
 simp![l,putM]
 refine⟨k+1,rfl,by lia,?_⟩
 simp![l,putM,X]
 intro g I;refine⟨g,2^(k+1),st,rfl,Xa,J,S,rfl,?_⟩;rw[YK];have i:=A.new I (Xk (2^(k+1)) 0 (0,0,-1) (Xj st 0));have r:updM M2 g (Xk (2^(k+1)) 0 (0,0,-1) (Xj st 0)) f=some (.ins "Ferry" [("places",.ref p)]):=by rw[X8 (neM l I)];exact l
 have jO:updM M2 g (Xk (2^(k+1)) 0 (0,0,-1) (Xj st 0)) p=some (.lst (Xj (2^k) [MV.tup [.int 0,.int 0,.int (-1)]]).flatten):=by rw[X8 (neM jN I)];exact jN
 have B:updM M2 g (Xk (2^(k+1)) 0 (0,0,-1) (Xj st 0)) g=some (Xk (2^(k+1)) 0 (0,0,-1) (Xj st 0)):=Xa;have n:=free g I;generalize updM M2 g _=M3 at*
 simp![r,putM]
 have gf:g≠f:=_1 B r (by intro z;unfold Xk at z;injection z with z1 _;exact absurd z1 (by rw[V8];decide))
 have C:=i.upd (Y1.mpr rfl) (.ins "Ferry" [("places",.ref p),("giver",.ref g)]);have y:updM M3 f (.ins "Ferry" [("places",.ref p),("giver",.ref g)]) f=some (.ins "Ferry" [("places",.ref p),("giver",.ref g)]):=Xa;have jP:updM M3 f (.ins "Ferry" [("places",.ref p),("giver",.ref g)]) p=some (.lst (Xj (2^k) [MV.tup [.int 0,.int 0,.int (-1)]]).flatten):=by rw[X8 (_1 jO r (by intro z;cases z))];exact jO
 have m:updM M3 f (.ins "Ferry" [("places",.ref p),("giver",.ref g)]) g=some (Xk (2^(k+1)) 0 (0,0,-1) (Xj st 0)):=by rw[X8 gf];exact B
 generalize updM M3 f _=M4 at*;have L:∀z,M4 z=none->M z=none:=λz d=>by
  cases e:M z with
  |none=>rfl
  |some o=>
   by_cases ez:z=f
   .subst ez;rw[y]at d;cases d
   .rw[C z o e (by simpa using ez)]at d;cases d
 delta LQ
 simp![y,putM]
 refine⟨k+1,rfl,by lia,?_⟩
 simp![y,putM,X]
 intro u R;refine⟨u,2^(k+1),st,rfl,Xa,J,S,rfl,?_⟩;rw[YK];have x:=C.new R (Xk (2^(k+1)) 0 (0,0,-1) (Xj st 0));have N:updM M4 u (Xk (2^(k+1)) 0 (0,0,-1) (Xj st 0)) f=some (.ins "Ferry" [("places",.ref p),("giver",.ref g)]):=by rw[X8 (neM y R)];exact y
 have jQ:updM M4 u (Xk (2^(k+1)) 0 (0,0,-1) (Xj st 0)) p=some (.lst (Xj (2^k) [MV.tup [.int 0,.int 0,.int (-1)]]).flatten):=by rw[X8 (neM jP R)];exact jP
 have D:updM M4 u (Xk (2^(k+1)) 0 (0,0,-1) (Xj st 0)) g=some (Xk (2^(k+1)) 0 (0,0,-1) (Xj st 0)):=by rw[X8 (neM m R)];exact m
 have E:updM M4 u (Xk (2^(k+1)) 0 (0,0,-1) (Xj st 0)) u=some (Xk (2^(k+1)) 0 (0,0,-1) (Xj st 0)):=Xa;have gu:=neM m R;have b:=L u R;generalize updM M4 u _=M5 at*
 simp![N,putM]
 have uf:u≠f:=_1 E N (by intro z;unfold Xk at z;injection z with z1 _;exact absurd z1 (by rw[V8];decide))
 have a:=x.upd (Y1.mpr rfl) (XW p g u);have g0:gray 0=0:=by decide
 have g1:∀j,Xh j 0=0:=λj=>by unfold Xh;rw[Nat.zero_mod,g0]
 have gr:(Xj st 0).map (Xh k)=Xj st 0:=by rw[Wl,g1]
 refine q p g u _ v n b a ⟨_rk hk J S,Xa,⟨Xj (2^k) (0,0,-1),?_,by simp[ab0],λj hj=>absurd hj (by simp[ab0])⟩,?_,?_,gu⟩
 .rw[X8 (_1 jQ N (by intro z;cases z)),jQ,Hd,Wl]
  rfl
 .rw[X8 gf,D];show some (Xk _ 0 (0,0,-1) _)=some (Xk (2^(k+1)) 0 (Xh k 0,Xh k 0,-1) ((Xj st 0).map (Xh k)));rw[g1,gr]
 .rw[X8 uf,E];show some (Xk _ 0 (0,0,-1) _)=some (Xk (2^(k+1)) 0 (Xh k 0,Xh k 0,-1) ((Xj st 0).map (Xh k)));rw[g1,gr]
abbrev Vc:SpM:=λy M Q=>∃(f p g u:Addr) (A:Ab) (m:Int) (c:Nat) (x:Option Nat),y=[.ref f,.int m,.int c,wM x]/\FyAt M f p g u A/\A.gm<m/\A.tm<m/\
 ∀l j,M l=none->FrM M j [f,g,u]->FyAt j f l g u (A.giver m c x)->Q (.tup [.bl (A.gives x),.int (Xh A.k (A.gSamp c):Nat)]) j
theorem _4X:MonW Vc:=by walk_at "m"
theorem _81(T:Txt K mg t):FnOk P w K mg base CX0 4 t.bP t.bV ["self","moment","choice","word"] (liSp K Vc):=by
 refine T.cB.okM _7X (_M (k:=3) (G:=Mh) (Φ:=[("shown",UJ)]) (Ψ:=[("Side_grow",Ug),("Side_less_the_seen",Uf),("Side_show_and_see",Uh)]) (Χ:=[("shown",UJ),("Side_grow",Ug),("Side_less_the_seen",Uf),("Side_show_and_see",Uh)]) rfl (_O T) (_P T) rfl (fMc ⟨Hb,(fMc ⟨Hj,(fMc ⟨Hi,(fMc ⟨Hk,nl0⟩)⟩)⟩)⟩) (fMc ⟨fE T.aY (Sd T),nl0⟩) (fMc ⟨⟨_,_,rfl,_,_,_,_,(FnOk.mono (Sn T) (by decide)),T.ae,T.ak,T.cj,T.b7⟩,(fMc ⟨⟨_,_,rfl,_,_,_,_,(FnOk.mono (Sl T) (by decide)),T.ae,T.ak,T.bu,T.bL⟩,(fMc ⟨⟨_,_,rfl,_,_,_,_,(FnOk.mono (So T) (by decide)),T.ae,T.ak,T.be,T.bN⟩,nl0⟩)⟩)⟩) nl0 (_Q T)) Fn _8h (fun vs M Q h=>?_) (fun vs M Q h=>?_)
 .obtain⟨f,p,g,u,A,m,c,x,rfl,_⟩:=h;rfl
 obtain⟨f,p,g,u,A,m,c,x,rfl,J,h1,h2,q⟩:=h;have hf:=J.fe;obtain⟨j,hp,hpl⟩:=J.pls;have hg:=J.gi;have hu:=J.ta;have ok:=J.ok;have hΦ:=(UG (Φ:=[("shown",UJ),("Side_grow",Ug),("Side_less_the_seen",Uf),("Side_show_and_see",Uh)]) (fMc ⟨Hb,(fMc ⟨Hj,(fMc ⟨Hi,(fMc ⟨Hk,nl0⟩)⟩)⟩)⟩));have kpos:0<2^A.k:=Zp _;have k8:2^A.k<=8:=Cd (by lia) (by have:=ok.k4;lia:A.k<=3)
 have pll:j.length=2^A.k:=hpl.1;have gs:=Hl (n:=Xy A.gx) ok.k4;have eg:=Sq (k:=A.k) ok.gl.1;have gf:g≠f:=_1 hg hf DJ;have uf:u≠f:=_1 hu hf DJ;have W:∀(M1:MH)(D:Addr)(n:Nat),FrM M M1 [f,g,u]->M1 f=some (XW p g u)->M1 p=some (.lst (j.map sgnM))->M1 u=M u->M1 g=some (Xk (2^(A.k+1)) n (Xh A.k A.ws.length,Xh A.k A.gp,A.gm) (A.gx.map (Xh A.k)))->n=(A.giver m c x).ws.length->
   M1 D=some (.lst ((Xs j.length).map λi=>MV.int ((if A.gives x=true/\i=A.ws.length%2^A.k then x.getD 0 else(j.getD i (0,0,0)).1:Nat):Int)))->
   wSs ([("shown",UJ),("Side_grow",Ug),("Side_less_the_seen",Uf),("Side_show_and_see",Uh)]:List (Str×SpM)) Fl {nx:=fun _ M'=>Q .non M',rt:=Q} [some (.ref f),some (.int m),some (.int c),some (wM x),some (.ref D),some (.bl (A.gives x))] M1:=by
  intro M1 D n fr N C Y L hn O;delta Fl;simp!;refine _N (Xs j.length) (λi=>.int (0+(i:Nat))) (λi=>sgnM ((if A.gives x=true/\i=A.ws.length%2^A.k then x.getD 0 else(j.getD i (0,0,0)).1),(j.getD i (0,0,0)).1,m)) ?_ ?_ hΦ λr l=>?_
  .simp![O,Xb,Uq]
   rw[YR];exact⟨by lia,by lia,rfl,by lia,trivial⟩
  .intro i E M' s;have E:i<j.length:=by simpa using E
   have f':=s _ _ N;have p':=s _ _ C;have d':=s _ _ O;simp only[sCm,Xx,Yg,Yr,Ys,Ym,Y7];have a1:atI (j.map sgnM) (0+(i:Int))=some (sgnM (j.getD i (0,0,0))):=by
    rw[Ww];refine Yp ?_;rw[Xr,X7 E,Ya,X7 E];rfl
   have a2:atI ((Xs j.length).map λi=>MV.int ((if A.gives x=true/\i=A.ws.length%2^A.k then x.getD 0 else(j.getD i (0,0,0)).1:Nat):Int)) (0+(i:Int))=some (.int ((if A.gives x=true/\i=A.ws.length%2^A.k then x.getD 0 else(j.getD i (0,0,0)).1:Nat):Int)):=by
    rw[Ww];refine Yp ?_;rw[Xr,Wk E];rfl
   simp![f',p',d',a1,a2,XW,valM]
   exact⟨_,_,_,_,_,rfl,rfl,rfl⟩
  have md2:M r=none:=by
   cases e:M r with
   |none=>rfl
   |some o=>
    by_cases e1:r=f
    .subst e1;rw[N]at l;cases l
    .by_cases e2:r=g
     .subst e2;rw[L]at l;cases l
     .by_cases e3:r=u
      .subst e3;rw[Y,hu]at l;cases l
      .rw[fr r o e (by simp[e1,e2,e3])]at l;cases l
  have F:=fr.new l (.lst ((Xs j.length).map λi=>sgnM ((if A.gives x=true/\i=A.ws.length%2^A.k then x.getD 0 else(j.getD i (0,0,0)).1),(j.getD i (0,0,0)).1,m)));have hpl2:(Xs j.length).map (λi=>sgnM ((if A.gives x=true/\i=A.ws.length%2^A.k then x.getD 0 else(j.getD i (0,0,0)).1),(j.getD i (0,0,0)).1,m))=(YU A m x j).map sgnM:=by
   unfold YU;rw[Yu];rfl
  rw[hpl2]at F ⊢;have hf2:updM M1 r (.lst ((YU A m x j).map sgnM)) f=some (XW p g u):=by rw[X8 (neM N l)];exact N
  have hg2:updM M1 r (.lst ((YU A m x j).map sgnM)) g=some (Xk (2^(A.k+1)) n (Xh A.k A.ws.length,Xh A.k A.gp,A.gm) (A.gx.map (Xh A.k))):=by rw[X8 (neM L l)];exact L
  have hu2:updM M1 r (.lst ((YU A m x j).map sgnM)) u=M u:=by rw[X8 (neM (Y.trans hu) l)];exact Y
  have hd2:updM M1 r (.lst ((YU A m x j).map sgnM)) r=some (.lst ((YU A m x j).map sgnM)):=Xa;generalize updM M1 r _=M2 at*
  simp![hf2,XW,putM]
  have fr3:=F.upd (p:=f) (by simp) (XW r g u)
  have X:updM M2 f (XW r g u) f=some (XW r g u):=Xa;have Z:updM M2 f (XW r g u) g=some (Xk (2^(A.k+1)) n (Xh A.k A.ws.length,Xh A.k A.gp,A.gm) (A.gx.map (Xh A.k))):=by rw[X8 gf];exact hg2
  have I:updM M2 f (XW r g u) u=M u:=by rw[X8 uf];exact hu2
  have H:updM M2 f (XW r g u) r=some (.lst ((YU A m x j).map sgnM)):=by rw[X8 (_1 hd2 hf2 (by intro z;cases z))];exact hd2
  rw[XW]at fr3 X Z I H;generalize updM M2 f _=M3 at*;delta LV;rw[hu]at I
  simp![X,Z,I,Xk,valM]
  rw[eg]at Z;refine⟨g,2^(A.k+1),n,(Xh A.k A.ws.length,Xh A.k A.gp,A.gm),A.gx.dropLast.map (Xh A.k),Xh A.k (Xy A.gx),m,c,(Xh A.k A.tn,Xh A.k A.tp,A.tm),rfl,Z,?_,Zp _,?_⟩
  .have:=ok.gl;rw[Xb,Wj];lia
  intro d hd;have ed:d=Xh A.k (A.gSamp c):=by
   rw[<-hd];exact Si ok.k4 ok.t1 _ _ c
  simp![ed]
  have fr4:=fr3.upd (p:=g) (by simp) (Xk (2^(A.k+1)) n (gray (n%2^(A.k+1)),Xh A.k A.ws.length,m) (d::A.gx.dropLast.map (Xh A.k)))
  rw[ed]at fr4;refine q r _ md2 fr4 ⟨ok.giver h2,?_,⟨YU A m x j,?_,_hN hpl⟩,?_,?_,J.ne⟩
  .rw[X8 gf.symm];exact X
  .rw[X8 (_1 H Z (by intro z;unfold Xk at z;cases z))];exact H
  .rw[Xa];show _=some (Xk (2^(A.k+1)) (A.giver m c x).ws.length (Xh A.k (A.giver m c x).ws.length,Xh A.k A.ws.length,m) ((A.gSamp c::A.gx.dropLast).map (Xh A.k)));rw[<-hn];rfl
  .rw[X8 J.ne.symm];exact I
 show wSs _ _ _ [some (.ref f),some (.int m),some (.int c),some (wM x),none,none] M;delta Fn LZ;simp!;refine _N j sgnM (λs=>.int s.1) ?_ ?_ hΦ λD O=>?_
 .simp![hf,hp,XW,valM]
  exact⟨rfl,by lia,hp⟩
 .intro s hs M' same;simp only[sCm,Xx,Yg,Yr,Ys,Ym,Y7];simp!
 have v:=(FrM.refl M [f,g,u]).new O (.lst (j.map λs=>MV.int s.1));have B:updM M D (.lst (j.map λs=>MV.int s.1)) f=some (XW p g u):=by rw[X8 (neM hf O)];exact hf
 have b:updM M D (.lst (j.map λs=>MV.int s.1)) p=some (.lst (j.map sgnM)):=by rw[X8 (neM hp O)];exact hp
 have R:updM M D (.lst (j.map λs=>MV.int s.1)) g=some (Xk (2^(A.k+1)) A.ws.length (Xh A.k A.ws.length,Xh A.k A.gp,A.gm) (A.gx.map (Xh A.k))):=by rw[X8 (neM hg O)];exact hg
 have hu0:updM M D (.lst (j.map λs=>MV.int s.1)) u=M u:=by rw[X8 (neM hu O)]
 have U:updM M D (.lst (j.map λs=>MV.int s.1)) D=some (.lst (j.map λs=>MV.int s.1)):=Xa;generalize updM M D _=M0 at*;have no:¬A.gives x=true->j.map (λs=>MV.int s.1)=(Xs j.length).map λi=>MV.int ((if A.gives x=true/\i=A.ws.length%2^A.k then x.getD 0 else(j.getD i (0,0,0)).1:Nat):Int):=λz=>by
  refine C1 (by simp) λi h1 h2=>?_
  have E:i<j.length:=by simpa using h1
  simp[z,E]
 delta LY;cases x with
 |none=>
  have z:¬A.gives none=true:=by simp[Ab.gives]
  have z':A.gives none=false:=by simpa using z
  simp![wM]
  delta Fm
  simp![true_and]
  rw[no z]at U;have S:=W M0 D A.ws.length v B b hu0 R (by unfold Ab.giver;rw[if_neg z]) U
  rw[z',wM]at S;exact S
 |some y=>
  have jR:=R;rw[eg]at jR
  simp![wM,B,R,XW,Xk,valM]
  refine⟨g,_,_,_,_,_,rfl,jR,gs.1,Zp _,?_⟩
  simp![U]
  rw[gs.2,Xb,pll];have er:decide ((((A.ws.length:Int) - ((Xy A.gx%2^(A.k+1):Nat):Int))%((2^(A.k+1):Nat):Int)<((2^A.k:Nat):Int)))=A.gives (some y):=by
   unfold Ab.gives;simp only[Option.isSome_some,Cn];exact decide_eq_decide.mpr (_l4 ok)
  rw[er];delta Fm;cases z:A.gives (some y)with
  |false=>
   simp![true_and]
   rw[no (by rw[z];exact XG)]at U
   have S:=W M0 D A.ws.length v B b hu0 R (by unfold Ab.giver;rw[if_neg (by rw[z];exact XG)]) U
   rw[z,wM]at S;exact S
  |true=>
   simp![true_and]
   delta LX
   simp![wM,B,R,U,XW,Xk,valM,Xb]
   rw[pll,Hh];refine⟨by lia,A.ws.length%2^A.k,_oo (VC _ kpos),?_⟩
   have fr1:FrM M (updM M0 D (.lst ((j.map λs=>MV.int s.1).set (A.ws.length%2^A.k) (.int y)))) [f,g,u]:=λa o e n=>by
    rw[X8 (neM e O)];exact v a o e n
   have eset:(j.map λs=>MV.int s.1).set (A.ws.length%2^A.k) (.int y)=(Xs j.length).map λi=>MV.int ((if A.gives (some y)=true/\i=A.ws.length%2^A.k then(some y).getD 0 else(j.getD i (0,0,0)).1:Nat):Int):=by
    refine C1 (by simp) λi h1 h2=>?_
    have E:i<j.length:=by simpa using h1
    rw[DZ];by_cases e:A.ws.length%2^A.k=i
    .subst e;rw[if_pos rfl];simp[z]
    .rw[if_neg e];have e2:¬(A.gives (some y)=true/\i=A.ws.length%2^A.k):=λw=>e w.2.symm;simp[e2,E]
   rw[eset]at fr1 ⊢;have N:updM M0 D (.lst ((Xs j.length).map λi=>MV.int ((if A.gives (some y)=true/\i=A.ws.length%2^A.k then(some y).getD 0 else(j.getD i (0,0,0)).1:Nat):Int))) f=some (XW p g u):=by rw[X8 (neM hf O)];exact B
   have C:updM M0 D (.lst ((Xs j.length).map λi=>MV.int ((if A.gives (some y)=true/\i=A.ws.length%2^A.k then(some y).getD 0 else(j.getD i (0,0,0)).1:Nat):Int))) p=some (.lst (j.map sgnM)):=by rw[X8 (neM hp O)];exact b
   have L:updM M0 D (.lst ((Xs j.length).map λi=>MV.int ((if A.gives (some y)=true/\i=A.ws.length%2^A.k then(some y).getD 0 else(j.getD i (0,0,0)).1:Nat):Int))) g=some (Xk (2^(A.k+1)) A.ws.length (Xh A.k A.ws.length,Xh A.k A.gp,A.gm) (A.gx.map (Xh A.k))):=by rw[X8 (neM hg O)];exact R
   have Y:updM M0 D (.lst ((Xs j.length).map λi=>MV.int ((if A.gives (some y)=true/\i=A.ws.length%2^A.k then(some y).getD 0 else(j.getD i (0,0,0)).1:Nat):Int))) u=M u:=by rw[X8 (neM hu O)];exact hu0
   have hd1:updM M0 D (.lst ((Xs j.length).map λi=>MV.int ((if A.gives (some y)=true/\i=A.ws.length%2^A.k then(some y).getD 0 else(j.getD i (0,0,0)).1:Nat):Int))) D=some (.lst ((Xs j.length).map λi=>MV.int ((if A.gives (some y)=true/\i=A.ws.length%2^A.k then(some y).getD 0 else(j.getD i (0,0,0)).1:Nat):Int))):=Xa;generalize updM M0 D _=M1 at*;delta LW
   simp![N,L,XW,Xk,valM]
   refine⟨g,_,_,_,_,rfl,L,?_⟩;have F:=fr1.upd (p:=g) (by simp) (Xk (2^(A.k+1)) (A.ws.length+1) (Xh A.k A.ws.length,Xh A.k A.gp,A.gm) (A.gx.map (Xh A.k)))
   have S:=W _ D (A.ws.length+1) F (by rw[X8 gf.symm];exact N) (by rw[X8 (_1 C L (by intro z;unfold Xk at z;cases z))];exact C) (by rw[X8 J.ne.symm];exact Y) Xa
    (by unfold Ab.giver;rw[if_pos z];simp) (by rw[X8 (_1 hd1 L (by intro z;unfold Xk at z;cases z))];exact hd1)
   rw[z,wM]at S;exact S
noncomputable def takM(A:Ab)(x:Bool):MV:=if A.takes x=true then .int (A.ws.getD A.tn 0:Nat)else .non
abbrev Wb:SpM:=λl M Q=>∃(f p g u:Addr) (A:Ab) (m:Int) (c:Nat) (x:Bool),l=[.ref f,.int m,.int c,.bl x]/\FyAt M f p g u A/\A.gm<m/\A.tm<m/\
 ∀j,FrM M j [f,g,u]->FyAt j f p g u (A.taker m c x)->Q (.tup [takM A x,.int (Xh A.k (A.tSamp c):Nat)]) j
theorem _4W:MonW Wb:=by walk_at "m"
set_option tactic.hygienic true in
theorem _80(T:Txt K mg t):FnOk P w K mg base CX0 4 t.bj t.bB ["self","moment","choice","wished"] (liSp K Wb):=by
 refine T.fO.okM _7W (_M (k:=3) (G:=Mq) (Φ:=[("sampled",Va)]) (Ψ:=[("Side_grow",Ug),("Side_less_the_seen",Uf),("Side_ring_ahead",Vb),("Side_show_and_see",Uh)]) (Χ:=[("sampled",Va),("Side_grow",Ug),("Side_less_the_seen",Uf),("Side_ring_ahead",Vb),("Side_show_and_see",Uh)]) rfl (_O T) (_P T) rfl (fMc ⟨Se,(fMc ⟨Hj,(fMc ⟨Hi,(fMc ⟨Sj,(fMc ⟨Hk,nl0⟩)⟩)⟩)⟩)⟩) (fMc ⟨fE T.aR (Sf T),nl0⟩) (fMc ⟨⟨_,_,rfl,_,_,_,_,(FnOk.mono (Sn T) (by decide)),T.ae,T.ak,T.cj,T.b7⟩,(fMc ⟨⟨_,_,rfl,_,_,_,_,(FnOk.mono (Sl T) (by decide)),T.ae,T.ak,T.bu,T.bL⟩,(fMc ⟨⟨_,_,rfl,_,_,_,_,(FnOk.mono (Sk T) (by decide)),T.ae,T.ak,T.cr,T.aZ⟩,(fMc ⟨⟨_,_,rfl,_,_,_,_,(FnOk.mono (So T) (by decide)),T.ae,T.ak,T.be,T.bN⟩,nl0⟩)⟩)⟩)⟩) nl0 (_Q T)) Fp _8g (fun vs M Q h=>?_) (fun vs M Q h=>?_)
 .obtain⟨f,p,g,u,A,m,c,x,rfl,_⟩:=h;rfl
 obtain⟨f,p,g,u,A,m,c,x,rfl,r,h1,h2,q⟩:=h;have y:=r.fe;obtain⟨B,W,N⟩:=r.pls;have S:=r.gi;have j:=r.ta;have ok:=r.ok;have X:0<2^A.k:=Zp _;have k8:2^A.k<=8:=Cd (by lia) (by have:=ok.k4;lia:A.k<=3)
 have D:B.length=2^A.k:=N.1;have H:=Hl (n:=Xy A.tx) ok.k4;have E:1<=A.tx.length:=by rw[ok.tl];exact ok.gl.1
 have v:=Sq (k:=A.k) E;have gf:g≠f:=_1 S y DJ;have o:u≠f:=_1 j y DJ;have up:u≠p:=_1 j W (by intro z;unfold Xk at z;cases z)
 have l:∀(M1:MH)(n:Nat)(s:Option MV),FrM M M1 [f,g,u]->M1 f=some (XW p g u)->M1 p=some (.lst (B.map sgnM))->M1 g=M g->M1 u=some (Xk (2^(A.k+1)) n (Xh A.k A.tn,Xh A.k A.tp,A.tm) (A.tx.map (Xh A.k)))->n=(A.taker m c x).tn->
   wSs ([("sampled",Va),("Side_grow",Ug),("Side_less_the_seen",Uf),("Side_ring_ahead",Vb),("Side_show_and_see",Uh)]:List (Str×SpM)) Fo {nx:=fun _ M'=>Q .non M',rt:=Q} [some (.ref f),some (.int m),some (.int c),some (.bl x),some (takM A x),s] M1:=by
  intro M1 n s fr Y F O R hn;rw[S]at O;delta Fo
  simp![Y,R,O,XW,Xk,valM]
  rw[v]at R;refine⟨u,2^(A.k+1),n,(Xh A.k A.tn,Xh A.k A.tp,A.tm),A.tx.dropLast.map (Xh A.k),Xh A.k (Xy A.tx),m,c,(Xh A.k A.ws.length,Xh A.k A.gp,A.gm),rfl,R,?_,Zp _,?_⟩
  .have:=ok.gl;have:=ok.tl;rw[Xb,Wj];lia
  intro d hd;have i:d=Xh A.k (A.tSamp c):=by
   rw[<-hd];exact Si ok.k4 ok.g1 _ _ c
  simp![i]
  have Z:=fr.upd (p:=u) (by simp) (Xk (2^(A.k+1)) n (gray (n%2^(A.k+1)),Xh A.k A.tn,m) (d::A.tx.dropLast.map (Xh A.k)))
  rw[i]at Z;refine q _ Z ⟨ok.taker h1,?_,⟨B,?_,N⟩,?_,?_,r.ne⟩
  .rw[X8 o.symm];exact Y
  .rw[X8 up.symm];exact F
  .rw[X8 r.ne];exact O
  .rw[Xa];show _=some (Xk (2^(A.k+1)) (A.taker m c x).tn (Xh A.k (A.taker m c x).tn,Xh A.k A.tn,m) ((A.tSamp c::A.tx.dropLast).map (Xh A.k)));rw[<-hn];rfl
 show wSs _ _ _ [some (.ref f),some (.int m),some (.int c),some (.bl x),none,none] M;delta Fp Mp;simp!;delta Mo;cases x with
 |false=>
  have z:¬A.takes false=true:=by simp[Ab.takes]
  simp![true_and]
  have L:=l M A.tn none (FrM.refl _ _) y W rfl j (by unfold Ab.taker;rw[if_neg z])
  rw[takM,if_neg z]at L;exact L
 |true=>
  have b:=j;rw[v]at b
  simp![y,j,XW,Xk,valM]
  refine⟨u,_,_,_,_,_,rfl,b,H.1,Zp _,?_⟩
  simp![true_and]
  rw[H.2];refine Y3 (λU=>?_) (λU=>?_)
  .have a:Xy A.tx≠A.tn:=λe=>U ((Sa ok).mpr e);have z:A.takes true=true:=by unfold Ab.takes;simpa using a
   obtain⟨hj,C,ha,hb⟩:=_iw ok N a;delta Mn
   simp![y,j,W,XW,Xk,valM,Xb]
   rw[D,Hh];have a1:atI (B.map sgnM) ((A.tn%2^A.k:Nat):Int)=some (sgnM (A.ws[A.tn],C,A.gm)):=by
    refine Yp ?_;rw[Xr,ha];rfl
   refine⟨by lia,_,a1,?_⟩
   delta Mm
   simp![y,j,XW,Xk,valM]
   refine⟨u,_,_,_,_,rfl,j,?_⟩
   simp![true_and]
   refine⟨A.ws[A.tn],C,A.gm,A.tm,c,rfl,?_⟩;have ew:(if A.tm<A.gm then seen C A.ws[A.tn] c else A.ws[A.tn])=A.ws[A.tn]:=by
    split
    .rename_i w;rw[hb w,_iJ]
    .rfl
   rw[ew];delta Mj
   simp![y,j,XW,Xk,valM]
   refine⟨u,_,_,_,_,rfl,j,?_⟩;have I:=(FrM.refl M [f,g,u]).upd (p:=u) (by simp) (Xk (2^(A.k+1)) (A.tn+1) (Xh A.k A.tn,Xh A.k A.tp,A.tm) (A.tx.map (Xh A.k)))
   have L:=l _ (A.tn+1) (some (sgnM (A.ws[A.tn],C,A.gm))) I (by rw[X8 o.symm];exact y) (by rw[X8 up.symm];exact W) (by rw[X8 r.ne]) Xa (by unfold Ab.taker;rw[if_pos z])
   have J:A.ws.getD A.tn 0=A.ws[A.tn]:=by rw[Ya,X7 hj];rfl
   rw[takM,if_pos z,J]at L;exact L
  .have e:Xy A.tx=A.tn:=(Sa ok).mp (Decidable.not_not.mp U);have z:¬A.takes true=true:=by unfold Ab.takes;simpa using e
   have L:=l M A.tn none (FrM.refl _ _) y W rfl j (by unfold Ab.taker;rw[if_neg z])
   rw[takM,if_neg z]at L;exact L
theorem FyAt.same{M M':MH}{f p g u:Addr}{A:Ab}(h:FyAt M f p g u A)(s:∀a o,M a=some o->(∀xs,o=.lst xs->a=p)->M' a=some o):FyAt M' f p g u A:=by
 obtain⟨l,y,j⟩:=h.pls;exact⟨h.ok,s _ _ h.fe (λxs z=>by cases z),⟨l,s _ _ y (λxs _=>rfl),j⟩,s _ _ h.gi (λxs z=>by cases z),s _ _ h.ta (λxs z=>by cases z),h.ne⟩
theorem FyAt.keep{M M':MH}{f p g u:Addr}{A:Ab}(h:FyAt M f p g u A)(s:SameM M M'):FyAt M' f p g u A:=h.same λa o e _=>s a o e
theorem FyAt.put{M:MH}{f p g u q:Addr}{A:Ab}{xs:List MV}(h:FyAt M f p g u A)(j:M q=some (.lst xs))(n:q≠p)(ys:List MV):FyAt (updM M q (.lst ys)) f p g u A:=h.same λa o e z=>by
 by_cases w:a=q
 .subst w;rw[j]at e;cases e;exact absurd (z xs rfl) n
 .rw[X8 w];exact e
theorem Su{M:MH}{f p g u q:Addr}{A:Ab}{xs:List MV}(h:FyAt M f p g u A)(j:M q=some (.lst xs)):q∉ [f,g,u]:=by
 intro z;rcases Xl.mp z with rfl|z
 .rw[h.fe]at j;cases j
 rcases Xl.mp z with rfl|z
 .rw[h.gi]at j;cases j
 rcases Xl.mp z with rfl|z
 .rw[h.ta]at j;cases j
 .cases z
noncomputable abbrev Hm:SpM:=λl M Q=>∃(j:List Int) (k:Nat),l=[.frl (j.map .int),.int k]/\Q (.int (j.getD k 0)) M
theorem _84:MonW Hm:=by walk_at "m"
theorem _bs(T:Txt K mg t):FnOk P w K mg base CX0 1 t.gh t.cE ["script","k"] (liSp K Hm):=by
 refine T.ci.F.okM _bf (fC (G:=PK) (Φ:=[]) T rfl nl0 nl0) Gk _c5 (λu M Q h=>?_) (λu M Q h=>?_)
 .obtain⟨j,k,rfl,_⟩:=h;rfl
 obtain⟨j,k,rfl,q⟩:=h;show wSs _ _ _ [some (.frl (j.map .int)),some (.int k)] M;delta Gk PJ;simp!;refine Y3 (λc=>?_) (λc=>?_)
 .rw[Xb]at c;have l:k<j.length:=by lia
  delta PH;simp!;have e:j.getD k 0=j[k]:=by simp[Ya,l]
  rw[e]at q;exact⟨_,Yp (by rw[Xr,X7 l];rfl),q⟩
 .rw[Xb]at c;have e:j.getD k 0=0:=by simp[Ya,DP.mpr (show j.length<=k by lia)]
  rw[e]at q;delta PF;simp!;exact q
noncomputable def alph:Str:="abcdefghijklmnopqrstuvwxyz"
theorem _ma:alph.cps.toList.length=26:=by decide+kernel
theorem _ky:alph.length<=16777216:=by decide+kernel
theorem Hn{i:Int}(l:0<=i)(h1:i<26):∃c,atI alph.cps.toList i=some c:=by
 have u:i.toNat<alph.cps.toList.length:=by rw[_ma];lia
 refine⟨alph.cps.toList[i.toNat],?_⟩;have:=Yp (xs:=alph.cps.toList) (j:=i.toNat) (X7 u)
 rwa [Ux l]at this
theorem Sv(c:Nat):(⟨#[c]⟩:Str).length=1:=rfl
theorem _pc(a b:Str):(a++b).length=a.length+b.length:=by
 show(a.cps++b.cps).size=_;rw[Array.size_append]
 rfl
def ltr(i:Int):Str:=match atI alph.cps.toList i with
 |some c=>⟨#[c]⟩
 |none=>U4
def YV(n k:Int):Str:=if n%3=2 then Txt.mul (ltr (n/192%26)) (1+(3*k+n/192)%7)++Txt.mul (ltr ((n/192%26+1+n/4992%25)%26)) (k/7)
 else Txt.mul (ltr (n/192%26)) (n/24%8%(1+n/3%8))++ltr ((n/4992+7*k)%26)++Txt.mul (ltr (n/192%26)) (1+n/3%8 - 1 - n/24%8%(1+n/3%8))
abbrev Bx:SpM:=λj M Q=>∃(n k:Int),j=[.int n,.int k]/\0<=k/\k<=50/\Q (.str (YV n k)) M
theorem Sw:MonW Bx:=by walk_at "m"
theorem Sx(T:Txt K mg t):FnOk P w K mg base CX0 1 t.cI t.cX ["number","k"] (liSp K Bx):=by
 refine T.aX.F.okM _eB (fC (G:=PY) (Φ:=[]) T rfl nl0 nl0) Gm _fy (λL M Q h=>?_) (λL M Q h=>?_)
 .obtain⟨n,k,rfl,_⟩:=h;rfl
 obtain⟨n,k,rfl,N,O,q⟩:=h;show wSs _ _ _ [some (.int n),some (.int k),none,none,none,none,none,none] M;delta Gm PX;simp!;delta PV;simp!;delta PU;simp!;have y:=_ky;obtain⟨u,g⟩:=Hn (i:=n/192%26) (by lia) (by lia)
 have R:ltr (n/192%26)=⟨#[u]⟩:=by unfold ltr;rw[g]
 unfold YV at q;rw[R]at q;refine Y3 (λc=>?_) (λc=>?_)
 .rw[if_pos c]at q;delta PR;simp!;obtain⟨d,f⟩:=Hn (i:=(n/192%26+1+n/4992%25)%26) (by lia) (by lia)
  have U:ltr ((n/192%26+1+n/4992%25)%26)=⟨#[d]⟩:=by unfold ltr;rw[f]
  rw[U]at q;refine⟨y,d,f,?_⟩;delta PQ;simp!;refine⟨y,u,g,?_⟩;have W:=CV (z:=⟨#[u]⟩) (i:=1+(3*k+n/192)%7) 8 (by lia) (Xf 1)
  have Y:=CV (z:=⟨#[d]⟩) (i:=k/7) 8 (by lia) (Xf 1)
  simp only[Sv];exact⟨by decide,by lia,by lia,by decide,by lia,by lia,by lia,q⟩
 .rw[if_neg c]at q;obtain⟨lo,m⟩:∃lo:Int,1+n/3%8=lo:=⟨_,rfl⟩;obtain⟨r,p⟩:=Hn (i:=(n/4992+7*k)%26) (by lia) (by lia)
  have Z:ltr ((n/4992+7*k)%26)=⟨#[r]⟩:=by unfold ltr;rw[p]
  rw[Z,m]at q;delta PP;simp!;rw[m];delta PN;simp!;have e:(0:Int)<lo:=by lia
  refine⟨e,?_⟩;obtain⟨j,l⟩:∃j:Int,n/24%8%lo=j:=⟨_,rfl⟩;have A:0<=j:=by rw[<-l];exact ZH _ (by lia)
  have B:j<lo:=by rw[<-l];exact U3 _ e
  rw[l]at q;rw[l];delta PM;simp!;refine⟨y,r,p,?_⟩;delta PL;simp!;have W:=CV (z:=⟨#[u]⟩) (i:=j) 8 (by lia) (Xf 1)
  have Y:=CV (z:=⟨#[u]⟩) (i:=lo - 1 - j) 8 (by lia) (Xf 1)
  refine⟨y,u,g,?_⟩;simp only[Sv,_pc];exact⟨by decide,by lia,by lia,by lia,y,u,g,by decide,by lia,by lia,by lia,q⟩
theorem Sy(c:Nat):∀(k:Nat)(j:Array Nat),((Xj k #[c]).foldl (·++·) j).toList=j.toList++Xj k c
 |0,j=>by simp
 |k+1,j=>by
  rw[Za,Vv,Sy c k,Array.toList_append,Vo,Za];rfl
theorem mul_one(c:Nat)(i:Int):(Txt.mul (⟨#[c]⟩:Str) i).cps.toList=Xj i.toNat c:=by
 unfold Txt.mul;by_cases h:i<1
 .rw[if_pos h];have:i.toNat=0:=by lia
  rw[this];rfl
 rw[if_neg h];by_cases h2:(i==1||(⟨#[c]⟩:Str).length==0)=true
 .rw[if_pos h2];rcases(Ea _ _).mp h2 with e|e
  .have:i=1:=by simpa using e
   subst this;rfl
  .have:(⟨#[c]⟩:Str).length=0:=by simpa using e
   cases this
 .rw[if_neg h2];show((Xj i.toNat #[c]).foldl (·++·) #[]).toList=_;rw[Sy];rfl
theorem _pd:alph.cps.toList=(Xs 26).map (97+·):=by decide+kernel
theorem DK{i:Int}(l:0<=i)(h1:i<26):ltr i=⟨#[97+i.toNat]⟩:=by
 unfold ltr;have u:i.toNat<26:=by lia
 have e:atI alph.cps.toList i=some (97+i.toNat):=by
  have:=Yp (xs:=alph.cps.toList) (j:=i.toNat) (v:=97+i.toNat) (by rw[_pd,Xr,Wk u];rfl)
  rwa [Ux l]at this
 rw[e]
theorem Ho(a b:Str):(a++b).cps.toList=a.cps.toList++b.cps.toList:=by
 show(a.cps++b.cps).toList=_;rw[Array.toList_append]
theorem Hq{n:Int}(c:n%3=2){k:Int}(u:0<=k)(h1:k<=10):∃j l:Nat,j≠l/\97<=j/\j<=122/\97<=l/\l<=122/\j=97+(n/192%26).toNat/\l=97+((n/192%26+1+n/4992%25)%26).toNat/\(YV n k).cps.toList=Xj (1+(3*k+n/192)%7).toNat j++Xj (k/7).toNat l:=by
 refine⟨_,_,?_,?_,?_,?_,?_,rfl,rfl,?_⟩
 .lia
 .lia
 .lia
 .lia
 .lia
 .unfold YV;rw[if_pos c,Ho,DK (by lia) (by lia),DK (by lia) (by lia),mul_one,mul_one]
theorem Hr{n:Int}(c:¬n%3=2)(k:Int):∃j lo l:Nat,j<lo/\lo<=8/\97<=l/\l<=122/\j=(n/24%8%(1+n/3%8)).toNat/\
  (YV n k).cps.toList=Xj j l++(97+((n/4992+7*k)%26).toNat)::Xj (lo - 1 - j) l:=by
 have u:0<=n/24%8%(1+n/3%8):=ZH _ (by lia)
 have y:n/24%8%(1+n/3%8)<1+n/3%8:=U3 _ (by lia)
 refine⟨(n/24%8%(1+n/3%8)).toNat,(1+n/3%8).toNat,97+(n/192%26).toNat,by lia,by lia,by lia,by lia,rfl,?_⟩
 unfold YV;rw[if_neg c,Ho,Ho,DK (by lia) (by lia),DK (by lia) (by lia),mul_one,mul_one]
 have e:(1+n/3%8 - 1 - n/24%8%(1+n/3%8)).toNat=(1+n/3%8).toNat - 1 - (n/24%8%(1+n/3%8)).toNat:=by lia
 rw[e,Vo];rfl
theorem DL{n k:Int}(m:0<=k)(h1:k<=10):Zv (YV n k):=by
 have l:∀z:Str,z.length=z.cps.toList.length:=λz=>Yv.symm;by_cases c:n%3=2
 .obtain⟨g,r,p,u,y,d,f,_,_,e⟩:=Hq c m h1;refine⟨?_,?_,?_⟩
  .rw[l,e,Ye,YO,YO];lia
  .rw[l,e,Ye,YO,YO];lia
  .intro x j;rw[e]at j;rcases Yt.mp j with j|j
   .rw[UQ j];exact⟨u,y⟩
   .rw[UQ j];exact⟨d,f⟩
 .obtain⟨q,lo,g,L,N,u,y,_,e⟩:=Hr c k;refine⟨?_,?_,?_⟩
  .rw[l,e,Ye,Yl,YO,YO];lia
  .rw[l,e,Ye,Yl,YO,YO];lia
  .intro x j;rw[e]at j;rcases Yt.mp j with j|j
   .rw[UQ j];exact⟨u,y⟩
   .rcases Xl.mp j with j|j
    .rw[j];lia
    .rw[UQ j];exact⟨u,y⟩
theorem By{n k k':Int}(r:0<=k)(h1:k<=10)(j:0<=k')(u:k'<=10)(h:YV n k=YV n k'):k=k':=by
 by_cases c:n%3=2
 .obtain⟨L,N,y,_,_,_,_,O,R,e⟩:=Hq c r h1;obtain⟨T,U,_,_,_,_,_,z,m,f⟩:=Hq c j u;rw[<-O]at z;rw[<-R]at m;subst z m;rw[<-h,e]at f;have g:=congrArg (List.count T) f;have d:=congrArg (List.count U) f;simp only[List.count_append,List.count_replicate,beq_iff_eq,if_true,y,XM y,if_false,Nat.add_zero,Nat.zero_add]at g d
  try simp at g d
  omega
 .obtain⟨W,lo,L,A,B,C,D,Y,e⟩:=Hr c k;obtain⟨at2,Z,N,_,_,_,_,q,f⟩:=Hr c k';rw[<-Y]at q;subst q;rw[<-h,e]at f;have p:=congrArg (λl=>l[at2]?) f
  try simp only at p
  rw[Zh (by rw[YO];exact Xf _),Zh (by rw[YO];exact Xf _),YO,Cj]at p
  have p:97+((n/4992+7*k)%26).toNat=97+((n/4992+7*k')%26).toNat:=by simpa using p
  omega
abbrev Wc:SpM:=λl M Q=>∃(n:Int) (a:Addr) (x y:Str),l=[.int n,.ref a]/\M a=some (.lst [.str x,.str y])/\0<=n/\n<=10^8/\∀(U:Tm)j,SameM M j->TmIn [x,y] U->Q U.mv j
theorem Sz:MonW Wc:=by walk_at "m"
theorem _eW(T:Txt K mg t):FnOk P w K mg base CX0 1 t.cK t.cy ["number","names"] (liSp K Wc):=by
 refine T.b8.F.okM _ez (fC (G:=Q8) (Φ:=[]) T rfl nl0 nl0) Gn _fw (λY M Q h=>?_) (λY M Q h=>?_)
 .obtain⟨n,a,x,y,rfl,_⟩:=h;rfl
 obtain⟨n,a,x,y,rfl,R,E,F,q⟩:=h;show wSs _ _ _ [some (.int n),some (.ref a),none,none] M;obtain⟨z,U,Z⟩:∃z,(z=x\/z=y)/\atI [MV.str x,.str y] (n/8%2)=some (.str z):=by
  rcases(show n/8%2=0\/n/8%2=1 by lia)with e|e<;>rw[e]
  .exact⟨x,.inl rfl,at0⟩
  .exact⟨y,.inr rfl,at1⟩
 obtain⟨A,c,L⟩:∃z,(z=x\/z=y)/\atI [MV.str x,.str y] (n/224%2)=some (.str z):=by
  rcases(show n/224%2=0\/n/224%2=1 by lia)with e|e<;>rw[e]
  .exact⟨x,.inl rfl,at0⟩
  .exact⟨y,.inr rfl,at1⟩
 delta Gn Q7
 simp![R,Z]
 delta Q6;simp!;intro p B;obtain⟨r,C⟩:∃r:Int,atI [MV.int (n/16%7 - 3),MV.int (n/16*1000000007%100000000000000000000)] (n/112%2)=some (.int r):=by
  rcases(show n/112%2=0\/n/112%2=1 by lia)with e|e<;>rw[e]
  .exact⟨_,at0⟩
  .exact⟨_,at1⟩
 refine⟨_,C,?_⟩;have g:=SameM.new B (.lst [MV.int (n/16%7 - 3),MV.int (n/16*1000000007%100000000000000000000)]);generalize updM M p _=M1 at*;have N:=g _ _ R;have O:∀u,u∈ [z]->u∈ [x,y]:=λu j=>by
  rw[Y1.mp j];rcases U with rfl|rfl<;>simp
 delta Q5;simp!;refine Y3 (λ_=>?_) (λI=>?_)
 .delta Q4;simp!;intro W l;have d:=g.trans (SameM.new l (.lst [.tup [.str "var",.str z],.tup [.str "num",.int r]]));rcases(show n%2=0\/n%2=1 by lia)with e|e<;>rw[e]
  .exact⟨_,at0,q (.var z) _ d ⟨by simp[Tm.depth],by simp[Tm.size],λu j=>O u j⟩⟩
  .exact⟨_,at1,q (.num r) _ d ⟨by simp[Tm.depth],by simp[Tm.size],λu j=>by simp[Tm.reads]at j⟩⟩
 delta Q3;simp!;refine Y3 (λD=>?_) (λD=>?_)
 .delta Q2;simp!;intro W l;have d:=g.trans (SameM.new l (.lst [.str "plus",.str "minus",.str "times"]));have m:∀f:Form,Q (.tup [.str f.str,.tup [.str "var",.str z],.tup [.str "num",.int r]]) (updM M1 W (.lst [.str "plus",.str "minus",.str "times"])):=fun f=>
   q (.two f (.var z) (.num r)) _ d ⟨by simp[Tm.depth],by simp[Tm.size],λu j=>O u (by simpa [Tm.reads]using j)⟩
  rcases(show n%8 - 2=0\/n%8 - 2=1\/n%8 - 2=2 by lia)with e|e|e<;>rw[e]
  .exact⟨_,at0,m .plus⟩
  .exact⟨_,at1,m .minus⟩
  .exact⟨_,at2,m .times⟩
 delta Q1;simp!;refine Y3 (λ_=>?_) (λ_=>?_)
 .delta Q0;simp!;exact q (.pick (.two .less (.var z) (.num r)) (.num r) (.var z)) _ g ⟨by simp[Tm.depth],by simp[Tm.size],λu j=>O u (by simpa [Tm.reads]using j)⟩
 .delta PZ
  simp![N,L]
  refine q (.two .plus (.var z) (.var A)) _ g ⟨by simp[Tm.depth],by simp[Tm.size],λu j=>?_⟩
  simp only[Tm.reads,Ym,Y7,Xl,XI,or_false]at j;rcases j with rfl|rfl
  .rcases U with rfl|rfl<;>simp
  .rcases c with rfl|rfl<;>simp
theorem Hs{Φ:List (Str×SpM)}{own:List Str}{fr:List Nat}{u:ISr}{tg:ITg}{l elt:IE}{r:Sm}{M:MH}{Q:QM}{p:Type}(xs:List p)(f g:p->MV)(b:p->Bool)
  (Y:wSr Φ u r M λS M1=>S.items=xs.map f/\xs.length<sizeLine/\S.okF M1/\M1=M)
  (Z:∀x∈xs,∀M',SameM M M'->wTg tg (f x) (sCm own fr r) λz=>wE Φ l z M' λv M2=>v=.bl (b x)/\M2=M'/\(b x=true->wE Φ elt z M' λy M2=>y=g x/\M2=M'))
  (m:∀(j:Nat)f sp,Φ[j]?=some (f,sp)->MonW sp)(q:∀D,M D=none->Q (.ref D) (updM M D (.lst ((xs.filter b).map g)))):wE Φ (.comp own fr u tg (.some l) elt) r M Q:=by
 rw[Dd];refine mon_sr m u (λS M1 ⟨c,A,O,B⟩=>?_) Y;subst B;have R:S.len=xs.length:=by rw[<-S.items_len,c,Xb]
 refine⟨by rw[R];exact A,λD e=>⟨λi d M2=>M2=updM M1 D (.lst d)/\d=((xs.take i).filter b).map g,⟨rfl,by simp⟩,?_,?_,?_⟩⟩
 .rintro i d M2 ⟨rfl,rfl⟩;refine⟨Xa,?_,?_⟩
  .rw[Xb];have c:=List.length_filter_le b (xs.take i);rw[Yf]at c;lia
  cases S with
  |tup _=>trivial
  |rng _ _=>trivial
  |str _=>trivial
  |lst a E=>exact SameM.new e _ _ _ O
 .rintro i x d M2 T ⟨rfl,rfl⟩;rw[c]at T;obtain⟨U,rfl⟩:=YF T;refine V5 tg (λz h=>?_) (Z xs[i] (XQ U) _ (SameM.new e (.lst (((xs.take i).filter b).map g))));rw[wI];refine Xc m l (λv M2 ⟨L,N,C⟩=>?_) h;subst L N;have W:xs.take (i+1)=xs.take i++[xs[i]]:=by rw[Zk,X7 U];rfl
  refine⟨b xs[i],rfl,?_⟩;by_cases hb:b xs[i]=true
  .rw[if_pos hb];refine Xc m elt (λy M2 ⟨L,N⟩=>?_) (C hb);subst L N;refine⟨Xa,YK,?_⟩;rw[W,BX,XX,List.filter_cons_of_pos hb]
   rfl
  .rw[if_neg hb];refine⟨rfl,?_⟩;rw[W,BX,XX,List.filter_cons_of_neg hb];simp
 .rintro d M2 ⟨rfl,rfl⟩;rw[R,UR (Xf _),De O];exact q D e
abbrev DM:SpM:=λl M Q=>∃(n:Int) (z:Str) (a f:Addr) (x y:Str) (F:List Fer) (m:Nat),l=[.int n,.str z,.ref a,.ref f,.int m]/\M a=some (.lst [.str x,.str y])/\M f=some (.lst (F.map Fer.mv))/\F.length<=6/\0<=n/\n<=10^8/\m<=100/\(F.map (·.name)).Nodup/\
 ∀(S:Stp)j,SameM M j->ZS (F.map (·.name)) [x,y] m S->Z5 F z S->Q S.mv j
theorem _aQ:MonW DM:=by walk_at "m"
theorem SA{F:List Fer}(l:(F.map (·.name)).Nodup){u v:Fer}(y:u∈F)(z:v∈F)(e:u.name=v.name):u=v:=by
 obtain⟨i,m,rfl⟩:=Y0 y;obtain⟨j,g,rfl⟩:=Y0 z;have:i=j:=by
  refine(BZ (xs:=F.map (·.name)) (h₀:=by simpa using m) (h₁:=by simpa using g) l).mp ?_
  rw[DY,DY];exact e
 subst this;rfl
theorem SC{F:List Fer}{b:Fer->Bool}{i:Int}(h:F.filter b≠ []):∃v∈F,b v=true/\atI ((F.filter b).map λv=>MV.str v.name) (i%((F.filter b).length:Int))=some (.str v.name):=by
 have z:0<(F.filter b).length:=DU.mpr h;have m:=ZH i (b:=((F.filter b).length:Int)) (by lia)
 have g:=U3 i (b:=((F.filter b).length:Int)) (by lia)
 obtain⟨j,y⟩:∃j:Nat,i%((F.filter b).length:Int)=(j:Int):=⟨(i%((F.filter b).length:Int)).toNat,by lia⟩
 have l:j<(F.filter b).length:=by lia
 have u:=XQ l;rw[Vt]at u;refine⟨(F.filter b)[j],u.1,u.2,?_⟩;rw[y];exact Yp (by rw[Xr,X7 l];rfl)
theorem _eX(T:Txt K mg t):FnOk P w K mg base CX0 2 t.dq t.fY ["number","name","names","ferries","many"] (liSp K DM):=by
 refine T.bq.F.okM _eA (fC (G:=Qh) (Φ:=[("_law_term",Wc)]) T rfl (fMc ⟨Sz,nl0⟩) (fMc ⟨fE T.b8 (_eW T),nl0⟩)) Gq _fx (fun vs M Q h=>?_) (fun vs M Q h=>?_)
 .obtain⟨n,z,a,f,x,y,F,m,rfl,_⟩:=h;rfl
 obtain⟨n,z,a,f,x,y,F,m,rfl,ha,X,h6,n0,n1,hm,nd,q⟩:=h;show wSs _ _ _ [some (.int n),some (.str z),some (.ref a),some (.ref f),some (.int m),none,none,none] M;have O:=(UG (Φ:=[("_law_term",Wc)]) (fMc ⟨Sz,nl0⟩));delta Gq Qg;simp!;refine Hs F Fer.mv (λv=>.str v.name) (λv=>decide (v.taker=z)) ?_ ?_ O λR H=>?_
 .simp![X]
  exact⟨rfl,by lia,X⟩
 .intro v c W s;simp only[sCm,Xx,Yg,Yr,Ys,Ym,Y7]
  simp![Fer.mv]
  try simp
 have s1:=SameM.new H (.lst ((F.filter λv=>decide (v.taker=z)).map λv=>MV.str v.name));have d1:updM M R (.lst ((F.filter λv=>decide (v.taker=z)).map λv=>MV.str v.name)) R=some (.lst ((F.filter λv=>decide (v.taker=z)).map λv=>MV.str v.name)):=Xa;generalize updM M R _=M1 at*;have Y:=s1 _ _ X;delta Qf;simp!;refine Hs F Fer.mv (λv=>.str v.name) (λv=>decide (v.giver=z)) ?_ ?_ O λZ o=>?_
 .simp![Y]
  exact⟨rfl,by lia,Y⟩
 .intro v c W s;simp only[sCm,Xx,Yg,Yr,Ys,Ym,Y7]
  simp![Fer.mv]
  try simp
 have s2:=SameM.new o (.lst ((F.filter λv=>decide (v.giver=z)).map λv=>MV.str v.name));have d2:updM M1 Z (.lst ((F.filter λv=>decide (v.giver=z)).map λv=>MV.str v.name)) Z=some (.lst ((F.filter λv=>decide (v.giver=z)).map λv=>MV.str v.name)):=Xa;generalize updM M1 Z _=M2 at*;have b:=s2 _ _ d1;have J:=s1.trans s2;have r:=J _ _ ha;delta Qe;simp!;have last:∀l,SameM M2 l->wSs ([("_law_term",Wc)]:List (Str×SpM)) Go {nx:=fun x W=>Q MV.non W,rt:=Q} [some (.int n),some (.str z),some (.ref a),some (.ref f),some (.int m),some (.ref R),some (.ref Z),some (.int (n/128))] l:=by
  intro l A;have L:=A _ _ r;have st:=J.trans A;delta Go;simp!;refine Y3 (λ_=>?_) (λ_=>?_)
  .delta Qa;simp!;refine⟨n/128,a,x,y,rfl,L,by lia,by lia,λU d j B=>?_⟩
   simp!;have N:(0:Int)<(m:Int)+1:=by lia
   exact⟨N,q (.jump U (n/8%(m+1))) d (st.trans j) ⟨B,ZH _ (by lia),by have:=U3 (n/8) N;lia⟩ trivial⟩
  .delta Q9;obtain⟨u,C,S⟩:∃u,u∈ [x,y]/\atI [MV.str x,.str y] (n/8%2)=some (.str u):=by
    rcases(show n/8%2=0\/n/8%2=1 by lia)with e|e<;>rw[e]
    .exact⟨x,by simp,at0⟩
    .exact⟨y,by simp,at1⟩
   simp![L,S]
   refine⟨n/128,a,x,y,rfl,L,by lia,by lia,λU d j B=>?_⟩
   try simp!
   exact q (.put u U) d (st.trans j) ⟨C,B⟩ trivial
 have D:∀l,SameM M2 l->wSs ([("_law_term",Wc)]:List (Str×SpM)) Gp {nx:=fun x W=>Q MV.non W,rt:=Q} [some (.int n),some (.str z),some (.ref a),some (.ref f),some (.int m),some (.ref R),some (.ref Z),some (.int (n/128))] l:=by
  intro l A;delta Gp;simp!;refine Y3 (λ_=>?_) (λ_=>last l A);intro p N;have j:=A.trans (SameM.new N (.lst []));have p4:updM l p (.lst []) p=some (.lst []):=Xa;generalize updM l p _=d at*;have E:=j _ _ d2;have g:=j _ _ r;refine KL E p4 ?_;by_cases hn:(F.filter λv=>decide (v.giver=z))=[]
  .rw[hn];exact last d j
  .have he:((F.filter λv=>decide (v.giver=z)).map λv=>MV.str v.name).isEmpty=false:=by
    cases e:F.filter λv=>decide (v.giver=z)with
    |nil=>exact absurd e hn
    |cons _ _=>rfl
   rw[he,if_pos rfl];delta Qb;obtain⟨v,c,hb,I⟩:=SC (i:=n/8) hn;have hl:0<(F.filter λv=>decide (v.giver=z)).length:=DU.mpr hn
   simp![E,Xb,I]
   refine⟨by lia,?_⟩
   try simp![I]
   refine⟨n/128,a,x,y,rfl,g,by lia,by lia,λU M5 s5 B=>?_⟩
   try simp!
   refine q (.give v.name U) M5 ((J.trans j).trans s5) ⟨XT.mpr ⟨v,c,rfl⟩,B⟩ (λu C e=>?_);rw[SA nd C c e];exact of_decide_eq_true hb
 delta Qd;simp!;refine Y3 (λ_=>?_) (λ_=>D M2 (SameM.refl _));intro p N;have j:=SameM.new N (.lst []);have p4:updM M2 p (.lst []) p=some (.lst []):=Xa;generalize updM M2 p _=d at*;have E:=j _ _ b;have g:=j _ _ r;refine KL E p4 ?_;by_cases hn:(F.filter λv=>decide (v.taker=z))=[]
 .rw[hn];exact D d j
 .have he:((F.filter λv=>decide (v.taker=z)).map λv=>MV.str v.name).isEmpty=false:=by
   cases e:F.filter λv=>decide (v.taker=z)with
   |nil=>exact absurd e hn
   |cons _ _=>rfl
  rw[he,if_pos rfl];delta Qc;obtain⟨v,c,hb,I⟩:=SC (i:=n/8) hn;have hl:0<(F.filter λv=>decide (v.taker=z)).length:=DU.mpr hn;obtain⟨u,C,S⟩:∃u,u∈ [x,y]/\atI [MV.str x,.str y] (n/128%2)=some (.str u):=by
   rcases(show n/128%2=0\/n/128%2=1 by lia)with e|e<;>rw[e]
   .exact⟨x,by simp,at0⟩
   .exact⟨y,by simp,at1⟩
  simp![E,Xb,I,g,S]
  refine⟨by lia,?_⟩
  try simp![I,g,S]
  refine q (.take v.name u) d (J.trans j) ⟨XT.mpr ⟨v,c,rfl⟩,C⟩ (λu' hu' e=>?_);rw[SA nd hu' c e];exact of_decide_eq_true hb
abbrev Ht:SpM:=λu M Q=>∃(n l y:Int) (k:Nat) (f:Addr) (F:List Fer),u=[.int n,.int k,.int l,.ref f,.int y]/\M f=some (.lst (F.map Fer.mv))/\F.length<=6/\(F.map (·.name)).Nodup/\0<=n/\n<=10^60/\k<=4/\
 ∀(I:Isl)(a b:Addr)j,SameM M j->M a=none->M b=none->a≠b->j a=some (.lst (I.prs.map prV))->j b=some (.lst (I.stps.map Stp.mv))->I.name=YV l k->(∀w,1<=w->IslOk w (F.map (·.name)) I)->(∀s∈I.stps,Z5 F I.name s)->Q (.tup [.str I.name,.ref a,.ref b]) j
theorem _8C:MonW Ht:=by walk_at "m"
theorem _cA(T:Txt K mg t):FnOk P w K mg base CX0 3 t.gM t.eZ ["number","k","naming","ferries","around"] (liSp K Ht):=by
 refine T.bY.F.okM _ct (fC (G:=Qu) (Φ:=[("_law_name",Bx),("_law_step",DM)]) T rfl (fMc ⟨Sw,(fMc ⟨_aQ,nl0⟩)⟩) (fMc ⟨fE T.aX (Sx T),(fMc ⟨fE T.bq (_eX T),nl0⟩)⟩)) Gs _cR (fun vs M Q h=>?_) (fun vs M Q h=>?_)
 .obtain⟨n,g,Z,k,f,F,rfl,_⟩:=h;rfl
 obtain⟨n,g,Z,k,f,F,rfl,hf,h6,nd,n0,n1,hk,q⟩:=h;show wSs _ _ _ [some (.int n),some (.int k),some (.int g),some (.ref f),some (.int Z),none,none,none,none,none,none,none] M;delta Gs Qt;simp!;refine⟨g,k,rfl,by lia,by lia,?_⟩
 obtain⟨z,hz⟩:∃z,YV g k=z:=⟨_,rfl⟩;rw[hz]at q ⊢;delta Qs;simp!;refine⟨g,9,rfl,by lia,by lia,?_⟩
 refine⟨g,10,rfl,by lia,by lia,?_⟩
 simp!;intro A hpn;obtain⟨x,hx⟩:∃x,YV g 9=x:=⟨_,rfl⟩;obtain⟨y,hy⟩:∃y,YV g 10=y:=⟨_,rfl⟩;have gx:Zv x:=hx▸DL (by decide) (by decide)
 have gy:Zv y:=hy▸DL (by decide) (by decide)
 have xy:x≠y:=λe=>by
  have:=By (n:=g) (k:=9) (k':=10) (by decide) (by decide) (by decide) (by decide) (by rw[hx,hy];exact e)
  lia
 rw[hx,hy];have b:=SameM.new hpn (.lst [.str x,.str y]);have a1:updM M A (.lst [.str x,.str y]) A=some (.lst [.str x,.str y]):=Xa;generalize updM M A _=M1 at*;delta Qr
 simp![a1]
 intro B E;have s2:=SameM.new E (.lst [.tup [.str x,.int (n%2)],.tup [.str y,.int (n/2%2)]]);have b2:updM M1 B (.lst [.tup [.str x,.int (n%2)],.tup [.str y,.int (n/2%2)]]) B=some (.lst ([(x,n%2),(y,n/2%2)].map prV)):=Xa;generalize updM M1 B _=M2 at*;have a2:=s2 _ _ a1;have fpp:=b.free E;delta Qq;simp!;obtain⟨m,hm,hm7⟩:∃m:Nat,n/4%7=(m:Int)/\m<7:=⟨(n/4%7).toNat,by lia,by lia⟩
 rw[hm];delta Qp;simp!;obtain⟨d,hen,hen2⟩:∃d:Nat,(if n/28%4<Z then(1:Int)else 0)=(d:Int)/\d<=1:=by
  by_cases c:n/28%4<Z
  .exact⟨1,by rw[if_pos c];rfl,by decide⟩
  .exact⟨0,by rw[if_neg c];rfl,by decide⟩
 rw[hen];delta Qo;simp!;delta Qn;simp!;intro L N;have s3:=SameM.new N (.lst []);have c3:updM M2 L (.lst []) L=some (.lst []):=Xa;have fps:=(b.trans s2).free N;have pps:=neM b2 N;have I:∀a o,M2 a=some o->a≠L:=λa o h=>neM h N;generalize updM M2 L _=M3 at*;delta Qm;simp!;obtain⟨J,hJ⟩:∃J:Nat->Sm->MH->Prop,∀j σ O,J j σ O↔∃(U:Int) (l:List Stp) (v:Option MV),σ=[some (.int U),some (.int k),some (.int g),some (.ref f),some (.int Z),some (.str z),some (.ref A),some (.ref B),some (.int m),some (.int d),some (.ref L),v]/\0<=U/\l.length=j/\SameM M2 O/\O L=some (.lst (l.map Stp.mv))/\(∀S∈l,ZS (F.map (·.name)) [x,y] (m+d) S/\Z5 F z S):=⟨_,λ_ _ _=>Y8⟩;refine⟨by lia,by lia,J,(hJ _ _ _).mpr ⟨n/112,[],_,rfl,by lia,rfl,s3,c3,λS r=>nomatch r⟩,λ_ _ _ _=>trivial,?_,?_⟩
 .rintro j u σ O R h;obtain⟨U,l,v,rfl,p0,hl,C,X,r⟩:=(hJ _ _ _).mp h;obtain⟨hj,rfl⟩:=Bm R;delta Ql
  simp![X]
  refine⟨⟨_,rfl⟩,U%100000000,z,A,f,x,y,F,m+d,rfl,C _ _ a2,C _ _ (s2 _ _ (b _ _ hf)),h6,by lia,by lia,by lia,nd,λS D H hS1 hS2=>?_⟩
  have c5:=H _ _ X
  simp![c5,Xb]
  refine⟨by lia,?_⟩
  delta Qk;simp!;refine(hJ _ _ _).mpr ⟨U/100000000,l++[S],_,rfl,by lia,by simp[hl],λa o h=>by rw[X8 (I a o h)];exact H _ _ (C _ _ h),by rw[Xa,XX];rfl,λS' W=>?_⟩
  rcases Yt.mp W with Y|Y
  .exact r _ Y
  .rw[Y1.mp Y];exact⟨hS1,hS2⟩
 .rintro σ O h;obtain⟨U,l,v,rfl,p0,hl,C,X,r⟩:=(hJ _ _ _).mp h;have hl:l.length=m:=hl;have s:∀(D:MH)(l:List Stp)(v:Option MV),SameM M2 D->D L=some (.lst (l.map Stp.mv))->l.length=m+d->(∀S∈l,ZS (F.map (·.name)) [x,y] (m+d) S/\Z5 F z S)->wSs ([("_law_name",Bx),("_law_step",DM)]:List (Str×SpM)) Gr {nx:=fun x O=>Q MV.non O,rt:=Q} [some (.int U),some (.int k),some (.int g),some (.ref f),some (.int Z),some (.str z),some (.ref A),some (.ref B),some (.int m),some (.int d),some (.ref L),v] D:=by
   intro D l v H c5 hl5 i;delta Gr;simp!;refine q ⟨z,[(x,n%2),(y,n/2%2)],l⟩ B L D ((b.trans s2).trans H) fpp fps pps (H _ _ b2) c5 rfl (λw hw=>?_) (λS r=>(i S r).2);refine⟨by simp,?_,?_,?_,?_,?_⟩
   .show l.length<=12;lia
   .show [x,y].Nodup;simp[xy]
   .intro u R;have R:u∈ [x,y]:=R;simp only[Xl,XI,or_false]at R;rcases R with rfl|rfl
    .exact gx
    .exact gy
   .intro p hp;have:=Rv hw;have hp:p∈ [(x,n%2),(y,n/2%2)]:=hp;simp only[Xl,XI,or_false]at hp;rcases hp with rfl|rfl
    .exact⟨by show 0<=n%2;lia,by show n%2<_;lia⟩
    .exact⟨by show 0<=n/2%2;lia,by show n/2%2<_;lia⟩
   .intro S r;show ZS _ [x,y] l.length S;rw[hl5];exact(i S r).1
  delta Qj;simp!;refine Y3 (λc=>?_) (λc=>?_)
  .delta Qi
   simp![X,Xb]
   have e1:d=1:=by lia
   refine⟨⟨_,rfl⟩,by lia,s _ (l++[.jump (.num 1) 0]) _ (λa o h=>by rw[X8 (I a o h)];exact C _ _ h) (by rw[Xa,XX];rfl) (by simp;lia) λS' W=>?_⟩
   rcases Yt.mp W with Y|Y
   .exact r _ Y
   .rw[Y1.mp Y];exact⟨⟨⟨by simp[Tm.depth],by simp[Tm.size],λu R=>by simp[Tm.reads]at R⟩,by lia,by lia⟩,trivial⟩
  .exact s O l _ C X (by lia) r
structure IslsNew (M0 M:MH)(Is:List Isl)(ys:List MV):Prop where
 len:ys.length=Is.length
 at_:∀(i:Nat)(I:Isl)(y:MV),Is[i]?=some I->ys[i]?=some y->∃a b,y=.tup [.str I.name,.ref a,.ref b]/\M0 a=none/\M0 b=none/\M a=some (.lst (I.prs.map prV))/\M b=some (.lst (I.stps.map Stp.mv))
theorem IslsNew.inn{j M:MH}{Is:List Isl}{ys:List MV}(h:IslsNew j M Is ys):IslsIn M Is ys:=⟨h.len,λi I y a b=>by
 obtain⟨c,d,e,_,_,l,u⟩:=h.at_ i I y a b;exact⟨c,d,e,l,u⟩⟩
theorem IslsNew.keep{j M M':MH}{Is:List Isl}{ys:List MV}(h:IslsNew j M Is ys)(s:∀a o,M a=some o->j a=none->M' a=some o):IslsNew j M' Is ys:=⟨h.len,λi I y a b=>by
 obtain⟨c,d,e,l,u,z,m⟩:=h.at_ i I y a b;exact⟨c,d,e,l,u,s _ _ z l,s _ _ m u⟩⟩
set_option tactic.hygienic true in
theorem SD{j:Type}{v y:j}{xs:List j}{i:Nat}(h:(xs++[v])[i]?=some y):xs[i]?=some y\/(i=xs.length/\y=v):=by
 rw[List.getElem?_append]at h;split at h
 .exact .inl h
 .rename_i e
  obtain⟨d,l⟩:∃d,i - xs.length=d:=⟨_,rfl⟩;rw[l]at h;cases d with
  |zero=>simp at h;exact .inr ⟨by lia,h.symm⟩
  |succ d=>simp at h
theorem IslsNew.add{z M:MH}{Is:List Isl}{ys:List MV}(h:IslsNew z M Is ys){I:Isl}{a b:Addr}(m:z a=none)(g:z b=none)(h1:M a=some (.lst (I.prs.map prV)))(h2:M b=some (.lst (I.stps.map Stp.mv))):IslsNew z M (Is++[I]) (ys++[.tup [.str I.name,.ref a,.ref b]]):=by
 refine⟨by simp[h.len],λi J y d c=>?_⟩
 have l:=h.len;rcases SD d with j|⟨f,rfl⟩<;>rcases SD c with u|⟨q,rfl⟩
 .exact h.at_ i J y j u
 .have:=(XE.mp j).1;lia
 .have:=(XE.mp u).1;lia
 .exact⟨a,b,rfl,m,g,h1,h2⟩
def fnm(nm:Int)(i:Nat):Str:=YV nm (5+(i:Int))
def inm(nm:Int)(i:Nat):Str:=YV nm (i:Int)
theorem SE{f:Nat->Str}{n:Nat}(h:∀a b,a<n->b<n->f a=f b->a=b):((Xs n).map f).Nodup:=by
 unfold List.Nodup;rw[List.pairwise_map];exact List.Pairwise.imp_of_mem (λj l u e=>u (h _ _ (Z3.mp j) (Z3.mp l) e)) List.nodup_range
abbrev Bz:SpM:=λz M Q=>∃(m:List Int) (g:Int),z=[.frl (m.map .int),.int g]/\
 ∀(W:Wld)(l u:Addr)(y:List MV)j,SameM M j->W.Good->1<=W.isl.length->M l=none->M u=none->l≠u->j l=some (.lst y)->IslsIn j W.isl y->j u=some (.lst (W.fer.map Fer.mv))->Q (.tup [.int W.w,.ref l,.ref u]) j
theorem SF:MonW Bz:=by walk_at "m"
theorem _cy(T:Txt K mg t):FnOk P w K mg base CX0 4 t.dm t.fu ["script","around"] (liSp K Bz):=by
 refine T.bv.F.okM _cr (fC (G:=QK) (Φ:=[("_law_cell_at",Hm),("_law_island",Ht),("_law_name",Bx)]) T rfl (fMc ⟨_84,(fMc ⟨_8C,(fMc ⟨Sw,nl0⟩)⟩)⟩) (fMc ⟨fE T.ci (_bs T),(fMc ⟨fE T.bY (_cA T),(fMc ⟨fE T.aX (Sx T),nl0⟩)⟩)⟩)) Gu _cP (fun vs M Q h=>?_) (fun vs M Q h=>?_)
 .obtain⟨O,ar,rfl,_⟩:=h;rfl
 obtain⟨O,ar,rfl,q⟩:=h;show wSs _ _ _ [some (.frl (O.map .int)),some (.int ar),none,none,none,none,none,none,none,none,none,none,none] M;delta Gu QJ;simp!;refine⟨O,0,rfl,?_⟩;simp!;delta QI;simp!;refine⟨O,1,rfl,?_⟩;simp!;obtain⟨d,hhd,hd0⟩:∃d:Int,O.getD 0 0%1000000000=d/\0<=d:=⟨_,rfl,by lia⟩
 obtain⟨f,hnm⟩:∃f:Int,O.getD 1 0%1000000000=f:=⟨_,rfl⟩;rw[hhd,hnm];delta QH;simp!;intro p0 hp0;obtain⟨w,hw,w1,w2⟩:∃w:Nat,atI [MV.int (1+d/16%64),MV.int (1+d/16%5)] (d/1024%2)=some (.int w)/\1<=w/\w<=64:=by
  rcases(show d/1024%2=0\/d/1024%2=1 by lia)with e|e<;>rw[e]
  .refine⟨(1+d/16%64).toNat,?_,by lia,by lia⟩
   rw[Ux (by lia)];exact at0
  .refine⟨(1+d/16%5).toNat,?_,by lia,by lia⟩
   rw[Ux (by lia)];exact at1
 refine⟨_,hw,?_⟩;have s0:=SameM.new hp0 (.lst [MV.int (1+d/16%64),MV.int (1+d/16%5)]);generalize updM M p0 _=M0 at*;obtain⟨l,hmy,my1,my5⟩:∃l:Nat,1+d%5=(l:Int)/\1<=l/\l<=5:=⟨(1+d%5).toNat,by lia,by lia,by lia⟩
 delta QG;simp!;rw[hmy];delta QF;simp!;intro Z hpf;have s1:=SameM.new hpf (.lst []);have f1:updM M0 Z (.lst []) Z=some (.lst []):=Xa;have fpf:=s0.free hpf;have old:∀a o,M0 a=some o->a≠Z:=λa o h=>neM h hpf;generalize updM M0 Z _=M1 at*;delta QE;simp!;obtain⟨cn,hcn,cn6,cn1⟩:∃cn:Nat,(if d/2048%7<6*(l:Int) - 6 then d/2048%7 else 6*(l:Int) - 6)=(cn:Int)/\cn<=6/\(1<=cn->2<=l):=by
  by_cases c:d/2048%7<6*(l:Int) - 6
  .exact⟨(d/2048%7).toNat,by rw[if_pos c];lia,by lia,by lia⟩
  .exact⟨(6*(l:Int) - 6).toNat,by rw[if_neg c];lia,by lia,by lia⟩
 rw[hcn,YR];obtain⟨J,U⟩:∃J:Nat->Sm->MH->Prop,∀j A W,J j A W↔∃(L:List Fer) (v7 v8 v9 B C:Option MV),A=[some (.frl (O.map .int)),some (.int ar),some (.int d),some (.int f),some (.int w),some (.int l),some (.ref Z),v7,v8,v9,B,C,none]/\L.map (·.name)=(Xs j).map (fnm f)/\SameM M0 W/\W Z=some (.lst (L.map Fer.mv))/\(∀F∈L,FerOk ((Xs l).map (inm f)) F):=⟨_,λ_ _ _=>Y8⟩;refine⟨by lia,by lia,J,(U _ _ _).mpr ⟨[],_,_,_,_,_,rfl,rfl,s1,f1,λF hF=>nomatch hF⟩,λ_ _ _ _=>trivial,?_,?_⟩
 .rintro j u A W hu h;obtain⟨L,v7,v8,v9,B,C,rfl,D,s2,f2,hF⟩:=(U _ _ _).mp h;obtain⟨hj,rfl⟩:=Bm hu;have my2:=cn1 (by lia)
  have hl:L.length=j:=by have:=congrArg Wn D;simpa using this
  rw[Ww];delta QD;obtain⟨c,hc⟩:∃c:Nat,2+(j:Int)%4=(c:Int):=⟨(2+(j:Int)%4).toNat,by lia⟩
  simp![hc]
  refine⟨O,c,rfl,?_⟩;simp!;intro p1 hp1;obtain⟨dv,hdv,dv0⟩:∃dv:Int,atI [MV.int 1,MV.int 1000000] ((j:Int)/4)=some (.int dv)/\(dv=1\/dv=1000000):=by
   rcases(show(j:Int)/4=0\/(j:Int)/4=1 by lia)with e|e<;>rw[e]
   .exact⟨1,at0,.inl rfl⟩
   .exact⟨1000000,at1,.inr rfl⟩
  refine⟨_,hdv,?_⟩;have s3:=s2.trans (SameM.new hp1 (.lst [MV.int 1,MV.int 1000000]));have f3:=SameM.new hp1 (.lst [MV.int 1,MV.int 1000000]) _ _ f2;generalize updM W p1 _=M3 at*;simp!;obtain⟨p,hnb,nb0⟩:∃p:Int,O.getD c 0%1000000000000000/dv=p/\0<=p:=by
   refine⟨_,rfl,?_⟩;rcases dv0 with rfl|rfl<;>lia
  rw[hnb];refine⟨by rcases dv0 with rfl|rfl<;>decide,?_⟩
  delta QC;simp!;have gp:(0:Int)<(l:Int):=by lia
  refine⟨gp,?_⟩;obtain⟨g,hg,hg2⟩:∃g:Nat,p%(l:Int)=(g:Int)/\g<l:=by
   have h0:=ZH p (b:=(l:Int)) (by lia)
   have h1:=U3 p gp;exact⟨(p%(l:Int)).toNat,by lia,by lia⟩
  rw[hg];delta QB;simp!;have gp1:(0:Int)<(l:Int) - 1:=by lia
  refine⟨gp1,gp,?_⟩;obtain⟨X,ht,ht2,ht3⟩:∃X:Nat,((g:Int)+1+p/5%((l:Int) - 1))%(l:Int)=(X:Int)/\X<l/\X≠g:=by
   have r0:=ZH (p/5) (b:=(l:Int) - 1) (by lia)
   have r1:=U3 (p/5) gp1;obtain⟨r,hr⟩:∃r,p/5%((l:Int) - 1)=r:=⟨_,rfl⟩;rw[hr]at r0 r1 ⊢;have h0:=ZH ((g:Int)+1+r) (b:=(l:Int)) (by lia)
   have h1:=U3 ((g:Int)+1+r) gp;refine⟨(((g:Int)+1+r)%(l:Int)).toNat,by lia,by lia,λe=>?_⟩
   have e2:((g:Int)+1+r)%(l:Int)=(g:Int):=by lia
   rcases(show l=2\/l=3\/l=4\/l=5 by lia)with rfl|rfl|rfl|rfl<;>lia
  rw[ht];delta QA;simp!;refine⟨f,g,rfl,by lia,by lia,?_⟩
  refine⟨f,X,rfl,by lia,by lia,?_⟩
  try simp!
  delta Qz
  simp![f3]
  refine⟨⟨_,rfl⟩,f,5+(j:Int),rfl,by lia,by lia,?_⟩
  obtain⟨kk,hkk,kk3⟩:∃kk:Nat,p/20%4=(kk:Int)/\kk<=3:=⟨(p/20%4).toNat,by lia,by lia⟩
  obtain⟨st,hst,st1,st3⟩:∃st:Nat,1+p/80%3=(st:Int)/\1<=st/\st<=3:=⟨(1+p/80%3).toNat,by lia,by lia,by lia⟩
  simp![f3,hkk,hst,Xb]
  refine⟨by lia,(U _ _ _).mpr ⟨L++[⟨fnm f j,inm f g,inm f X,kk,st⟩],_,_,_,_,_,rfl,?_,λa o h=>by rw[X8 (old a o h)];exact s3 _ _ h,by rw[Xa,XX];rfl,λF hF'=>?_⟩⟩
  .rw[XX,D,C3,XX];rfl
  .rcases Yt.mp hF' with h'|h'
   .exact hF _ h'
   .rw[Y1.mp h'];refine⟨XT.mpr ⟨g,Z3.mpr hg2,rfl⟩,XT.mpr ⟨X,Z3.mpr ht2,rfl⟩,λe=>?_,kk3,st1,st3⟩;have:=By (n:=f) (k:=(g:Int)) (k':=(X:Int)) (by lia) (by lia) (by lia) (by lia) e
    lia
 .rintro A M2 h;obtain⟨L,v7,v8,v9,B,C,rfl,D,s2,f2,hF⟩:=(U _ _ _).mp h;have D:L.map (·.name)=(Xs cn).map (fnm f):=D;have hl:L.length=cn:=by have:=congrArg Wn D;simpa using this
  have ndF:(L.map (·.name)).Nodup:=by
   rw[D];refine SE λa b ha hb e=>?_;have:=By (n:=f) (k:=5+(a:Int)) (k':=5+(b:Int)) (by lia) (by lia) (by lia) (by lia) e
   lia
  clear U h;delta Qy;simp!;intro R E;have s3:=SameM.new E (.lst []);have i3:updM M2 R (.lst []) R=some (.lst []):=Xa;have fpi:=(s0.trans s2).free E;have ipf:=(neM f2 E).symm;have old2:∀a o,M2 a=some o->a≠R:=λa o h=>neM h E;have only:∀a o,updM M2 R (.lst []) a=some o->a≠R->M2 a=some o:=λa o h n=>by rw[X8 n]at h;exact h
  generalize updM M2 R _=M3 at*;delta Qx;simp!;obtain⟨J,U⟩:∃J:Nat->Sm->MH->Prop,∀j A W,J j A W↔∃(N:List Isl) (H:List MV) (v7:Option MV),A=[some (.frl (O.map .int)),some (.int ar),some (.int d),some (.int f),some (.int w),some (.int l),some (.ref Z),v7,v8,v9,B,C,some (.ref R)]/\N.map (·.name)=(Xs j).map (inm f)/\SameM M2 W/\W R=some (.lst H)/\IslsNew M3 W N H/\(∀I∈N,IslOk w (L.map (·.name)) I/\∀s∈I.stps,Z5 L I.name s):=⟨_,λ_ _ _=>Y8⟩;refine⟨by lia,by lia,J,(U _ _ _).mpr ⟨[],[],_,rfl,rfl,s3,i3,⟨rfl,λi I y hI=>by simp at hI⟩,λI hI=>nomatch hI⟩,λ_ _ _ _=>trivial,?_,?_⟩
  .rintro j u A M4 hu h;obtain⟨N,H,v7,rfl,m,s4,i4,hI,hO⟩:=(U _ _ _).mp h;obtain⟨hj,rfl⟩:=Bm hu;have hlI:N.length=j:=by have:=congrArg Wn m;simpa using this
   have hly:=hI.len;rw[Ww];delta Qw;obtain⟨c,hc⟩:∃c:Nat,6+(j:Int)=(c:Int):=⟨6+j,by lia⟩
   simp![i4,hc]
   refine⟨⟨_,rfl⟩,O,c,rfl,?_⟩;simp!;refine⟨O.getD c 0%1000000000000000000000000000000000000000000000000000000000000,f,ar,j,Z,L,rfl,s4 _ _ f2,by lia,ndF,by lia,by lia,by lia,λI a b M5 s5 na p nab ha hb hn hok hen=>?_⟩
   have i5:=s5 _ _ i4
   simp![i5]
   have bk:∀x,M4 x=none->M3 x=none:=λx hx=>by
    cases e:M3 x with
    |none=>rfl
    |some v=>
     by_cases hx2:x=R
     .subst hx2;rw[i4]at hx;cases hx
     .rw[s4 _ _ (only _ _ e hx2)]at hx;cases hx
   refine⟨by lia,(U _ _ _).mpr ⟨N++[I],H++[.tup [.str I.name,.ref a,.ref b]],_,rfl,?_,λa o h=>by rw[X8 (old2 a o h)];exact s5 _ _ (s4 _ _ h),Xa,?_,?_⟩⟩
   .rw[XX,m,C3,XX];show _++[I.name]=_;rw[hn];rfl
   .have h3:∀x o,M5 x=some o->M3 x=none->updM M5 R (.lst (H++[.tup [.str I.name,.ref a,.ref b]])) x=some o:=λx o h n=>by
     rw[X8 (λe=>by subst e;rw[i3]at n;cases n)];exact h
    have hI5:=hI.keep (M':=updM M5 R (.lst (H++[.tup [.str I.name,.ref a,.ref b]]))) λx o h n=>h3 x o (s5 _ _ h) n;exact hI5.add (bk _ na) (bk _ p) (h3 _ _ ha (bk _ na)) (h3 _ _ hb (bk _ p))
   .intro I' hI';rcases Yt.mp hI' with h'|h'
    .exact hO _ h'
    .rw[Y1.mp h'];exact⟨hok w w1,hen⟩
  .rintro A M4 h;obtain⟨N,H,v7,rfl,m,s4,i4,hI,hO⟩:=(U _ _ _).mp h;have m:N.map (·.name)=(Xs l).map (inm f):=m;have hlI:N.length=l:=by have:=congrArg Wn m;simpa using this
   delta Qv;simp!;refine q ⟨w,N,L⟩ R Z H M4 ((s0.trans s2).trans s4) ?_ (by show 1<=N.length;lia) fpi fpf ipf i4 hI.inn (s4 _ _ f2)
   refine⟨w1,w2,by show N.length<=5;lia,by show L.length<=6;lia,?_,?_,?_,λI Y=>(hO I Y).1,?_,λI Y=>(hO I Y).2⟩
   .intro z S;have S:z∈L.map (·.name):=S;rw[D]at S;obtain⟨i,Y,rfl⟩:=XT.mp S;have:=Z3.mp Y;exact DL (by lia) (by lia)
   .intro z S;have S:z∈N.map (·.name):=S;rw[m]at S;obtain⟨i,Y,rfl⟩:=XT.mp S;have:=Z3.mp Y;exact DL (by lia) (by lia)
   .show(L.map (·.name)++N.map (·.name)).Nodup;rw[Zj];refine⟨ndF,?_,?_⟩
    .rw[m];refine SE λa b ha hb e=>?_;have:=By (n:=f) (k:=(a:Int)) (k':=(b:Int)) (by lia) (by lia) (by lia) (by lia) e
     lia
    .rw[D,m];intro a ha b hb e;obtain⟨i,Y,rfl⟩:=XT.mp ha;obtain⟨j,hj,rfl⟩:=XT.mp hb;have Y:=Z3.mp Y;have hj:=Z3.mp hj;have:=By (n:=f) (k:=5+(i:Int)) (k':=(j:Int)) (by lia) (by lia) (by lia) (by lia) e
     lia
   .intro F hF';show FerOk (N.map (·.name)) F;rw[m];exact hF F hF'
def zipK:List Str->List MV->List (Key×MV)
 |k::ks,v::vs=>(Xm k,v)::zipK ks vs
 |_,_=>[]
theorem BA:∀{ks:List Str} {vs:List MV},vs.length=ks.length->(zipK ks vs).length=ks.length
 |[],[],_=>rfl
 |[],_::_,h=>by cases h
 |_::_,[],h=>by cases h
 |k::ks,v::vs,h=>by
  show(zipK ks vs).length+1=_;rw[BA (by simpa using h)];rfl
theorem Hu:∀{ks:List Str} {vs:List MV},vs.length=ks.length->(zipK ks vs).map (·.1)=ks.map Xm
 |[],[],_=>rfl
 |[],_::_,h=>by cases h
 |_::_,[],h=>by cases h
 |k::ks,v::vs,h=>by
  show Xm k::(zipK ks vs).map (·.1)=_;rw[Hu (by simpa using h)];rfl
theorem Ui:∀{ks:List Str} {vs:List MV} {i:Nat} {k:Str} {v:MV},ks.Nodup->ks[i]?=some k->vs[i]?=some v->valM (zipK ks vs) (Xm k)=some v
 |[],_,_,_,_,_,h,_=>by simp at h
 |_::_,[],_,_,_,_,_,h=>by simp at h
 |a::ks,b::vs,0,k,v,_,h1,h2=>by
  simp at h1 h2;subst h1 h2;simp[zipK,valM]
 |a::ks,b::vs,i+1,k,v,nd,h1,h2=>by
  rw[YI]at nd;simp at h1 h2;have:a≠k:=λe=>nd.1 (e▸Xu h1);simp only[zipK,valM];rw[if_neg (λe=>this (V1 e))];exact Ui nd.2 h1 h2
theorem BB:∀{ks:List Str} {vs:List MV} {i:Nat} {k:Str} {v:MV},vs.length=ks.length->ks.Nodup->ks[i]?=some k->putM (zipK ks vs) (Xm k) v=zipK ks (vs.set i v)
 |[],_,_,_,_,_,_,h=>by simp at h
 |_::_,[],_,_,_,h,_,_=>by cases h
 |a::ks,b::vs,0,k,v,_,_,h1=>by
  simp at h1;subst h1;simp[zipK,putM]
 |a::ks,b::vs,i+1,k,v,hl,nd,h1=>by
  rw[YI]at nd;simp at h1;have:a≠k:=λe=>nd.1 (e▸Xu h1);simp only[zipK,putM,List.set_cons_succ];rw[if_neg (λe=>this (V1 e)),BB (by simpa using hl) nd.2 h1]
theorem SG{j:List (Key×MV)}{k:Key}{v:MV}:(∀p∈j,p.1≠k)->putM j k v=j++[(k,v)]:=by
 induction j with
 |nil=>intro _;rfl
 |cons p r l=>
  intro h;unfold putM;rw[if_neg (h p (Yb ..)),l λq u=>h q (XS _ u)];rfl
theorem SH{ps:List (Key×MV)}(j:(ps.map (·.1)).Nodup):Yj ps=ps:=by
 have l:∀(ps c:List (Key×MV)),((c++ps).map (·.1)).Nodup->ps.foldl (λc z=>putM c z.1 z.2) c=c++ps:=by
  intro ps
  induction ps with
  |nil=>intro c _;simp
  |cons p r u=>
   intro c j;rw[Vv,SG,u]
   .simp
   .simpa using j
   .intro q y e;rw[XX,Zj]at j;exact j.2.2 _ (XT.mpr ⟨q,y,rfl⟩) _ (XT.mpr ⟨p,Yb ..,rfl⟩) e
 have:=l ps [] (by simpa using j)
 rw[Y7]at this;exact this
theorem Hv{ks:List Str}{vs:List MV}(j:vs.length=ks.length)(l:ks.Nodup):Yj (zipK ks vs)=zipK ks vs:=by
 refine SH ?_;rw[Hu j];unfold List.Nodup;rw[List.pairwise_map];exact List.Pairwise.imp (λh e=>h (V1 e)) l
theorem SI{j:Type}(xs:List j)(f:j->Str)(g:j->MV):(xs.map λx=>MV.tup [.str (f x),g x])=(zipK (xs.map f) (xs.map g)).map prM:=by
 induction xs with
 |nil=>rfl
 |cons x r l=>
  rw[Xx,l];rfl
noncomputable def SrcFrom(S:Src)(M M1:MH):Prop:=(S.okF M1/\M1=M)\/False
theorem SrcFrom.free{S:Src}{M M1:MH}(h:SrcFrom S M M1){p:Addr}(j:M1 p=none):M p=none:=by
 rcases h with⟨_,rfl⟩|h
 .exact j
 .exact h.elim
theorem SrcFrom.ok{S:Src}{M M1 M2:MH}(h:SrcFrom S M M1)(s:SameM M1 M2):S.ok M2:=by
 rcases h with⟨j,rfl⟩|h
 .cases S with
  |tup _=>trivial
  |rng _ _=>trivial
  |str _=>trivial
  |lst a l=>exact s _ _ j
 .exact h.elim
theorem SrcFrom.thaw{S:Src}{M M1 M2:MH}(h:SrcFrom S M M1)(s:SameM M1 M2):SameM M (S.thaw M2)/\∀a,M1 a=none->(S.thaw M2) a=M2 a:=by
 rcases h with⟨j,rfl⟩|h
 .rw[De j];exact⟨s,λ_ _=>rfl⟩
 .exact h.elim
theorem SJ{Φ:List (Str×SpM)}{own:List Str}{fr:List Nat}{g:ISr}{tg:ITg}{elt:IE}{F:Sm}{M:MH}{Q:QM}{G:Type}(xs:List G)(f:G->MV)(C:G->MV->List Addr->MH->Prop)(n:MH->Prop)
  (I:∀x y N M2 r,(∀a∈N,r a=M2 a)->C x y N M2->C x y N r)
  (hs:wSr Φ g F M λS M1=>S.items=xs.map f/\xs.length<sizeLine/\SrcFrom S M M1/\n M1)
  (ht:∀x∈xs,∀M1 M',n M1->SameM M1 M'->wTg tg (f x) (sCm own fr F) λT=>wE Φ elt T M' λy M2=>SameM M' M2/\∃N:List Addr,N.Nodup/\(∀a∈N,M' a=none/\∃o,M2 a=some o)/\C x y N M2)
  (U:∀(j:Nat)f sp,Φ[j]?=some (f,sp)->MonW sp)
  (q:∀D (ys:List MV)(u:List (List Addr))M',M D=none->SameM M M'->ys.length=xs.length->u.length=xs.length->u.flatten.Nodup->D∉u.flatten->(∀a∈u.flatten,M a=none)->
   (∀(j:Nat)x y N,xs[j]?=some x->ys[j]?=some y->u[j]?=some N->C x y N M')->M' D=some (.lst ys)->Q (.ref D) M'):wE Φ (.comp own fr g tg .none elt) F M Q:=by
 rw[Dd];refine mon_sr U g (λS M1 ⟨h1,h2,Y,h4⟩=>?_) hs;have hl:S.len=xs.length:=by rw[<-S.items_len,h1,Xb]
 refine⟨by rw[hl];exact h2,λD Z=>⟨λi ys M2=>SameM M1 M2/\M2 D=some (.lst ys)/\ys.length=i/\∃u:List (List Addr),u.length=i/\u.flatten.Nodup/\D∉u.flatten/\(∀a∈u.flatten,M1 a=none/\∃o,M2 a=some o)/\(∀(j:Nat)x y N,xs[j]?=some x->ys[j]?=some y->u[j]?=some N->C x y N M2),⟨SameM.new Z _,Xa,rfl,[],rfl,by simp,by simp,by simp,by simp⟩,?_,?_,?_⟩⟩
 .rintro i ys M2 ⟨d,p,e,_⟩;exact⟨p,by lia,Y.ok d⟩
 .rintro i x ys M2 hx ⟨d,p,e,u,J,X,W,L,H⟩;rw[h1]at hx;obtain⟨hi,rfl⟩:=YF hx;refine V5 tg (λT h=>?_) (ht xs[i] (XQ hi) M1 M2 h4 d);rw[wI,if_pos rfl];refine Xc U elt (λy r ⟨A,N,m1,B,m3⟩=>?_) h;have v:D∉N:=λz=>by have:=(B _ z).1;rw[p]at this;cases this
  have keep:∀a,a≠D->updM r D (.lst (ys++[y])) a=r a:=λa z=>X8 z;have s:(u++[N]).flatten=u.flatten++N:=by simp
  refine⟨A _ _ p,λa o z=>by rw[X8 (neM z Z)];exact A _ _ (d _ _ z),Xa,by simp[e],u++[N],by simp[J],?_,?_,?_,?_⟩
  .rw[s,Zj];refine⟨X,m1,λa l b hb z=>?_⟩;subst z;obtain⟨_,o,ho⟩:=L _ l;rw[(B _ hb).1]at ho;cases ho
  .rw[s,Yt];exact λz=>z.elim W v
  .rw[s];intro a l;have aD:a≠D:=λz=>by
    subst z;rcases Yt.mp l with l|l
    .exact W l
    .exact v l
   rw[keep a aD];rcases Yt.mp l with l|l
   .obtain⟨z1,o,E⟩:=L _ l;exact⟨z1,o,A _ _ E⟩
   .exact⟨d.free (B _ l).1,(B _ l).2⟩
  .intro j x' y' N' m O R;by_cases hj:j<i
   .rw[ZC (by lia)]at O R
    refine I _ _ _ M2 _ (λa l=>?_) (H j x' y' N' m O R);have hm:a∈u.flatten:=Vr.mpr ⟨N',Xu R,l⟩;rw[keep a λz=>W (z▸hm)];obtain⟨_,o,E⟩:=L _ hm;rw[E];exact A _ _ E
   .have hj:j=i:=by
     have:=(XE.mp O).1;simp at this;lia
    subst hj;rw[Zh (by lia),e,Cj]at O
    rw[Zh (by lia),J,Cj]at R
    rw[X7 hi]at m;simp at m O R;subst m O R;exact I _ _ _ r _ (λa l=>keep a λz=>v (z▸l)) m3
 .rintro ys M2 ⟨d,p,e,u,J,X,W,L,H⟩;obtain⟨t1,t2⟩:=Y.thaw d;refine q D ys u _ (Y.free Z) t1 (by lia) (by lia) X W (λa l=>Y.free (L a l).1) (λj x y N a b c=>?_) (by rw[t2 _ Z];exact p)
  exact I _ _ _ M2 _ (λz hz=>t2 _ (L z (Vr.mpr ⟨N,Xu c,hz⟩)).1) (H j x y N a b c)
theorem Hw{Φ:List (Str×SpM)}{own:List Str}{fr:List Nat}{d:ISr}{tg:ITg}{elt:IE}{U:Sm}{M:MH}{Q:QM}{r:Type}(xs:List r)(f:r->MV)(nm:r->Str)(e:r->MO)(W:MH->Prop)
  (B:wSr Φ d U M λS M1=>S.items=xs.map f/\xs.length<sizeLine/\SrcFrom S M M1/\W M1)
  (C:∀x∈xs,∀M1 M',W M1->SameM M1 M'->wTg tg (f x) (sCm own fr U) λL=>wE Φ elt L M' λy M2=>∃p,M' p=none/\y=.tup [.str (nm x),.ref p]/\M2=updM M' p (e x))
  (O:∀(j:Nat)f sp,Φ[j]?=some (f,sp)->MonW sp)
  (q:∀D (g:List Addr)M',M D=none->SameM M M'->g.length=xs.length->g.Nodup->D∉g->(∀a∈g,M a=none)->
   (∀(j:Nat)a x,g[j]?=some a->xs[j]?=some x->M' a=some (e x))->M' D=some (.lst ((zipK (xs.map nm) (g.map MV.ref)).map prM))->Q (.ref D) M'):wE Φ (.comp own fr d tg .none elt) U M Q:=by
 refine SJ xs f (λx y N M2=>∃p,N=[p]/\y=.tup [.str (nm x),.ref p]/\M2 p=some (e x)) W ?_ B ?_ O ?_
 .rintro x y N M2 E F ⟨p,rfl,G,I⟩;exact⟨p,rfl,G,by rw[F p (by simp)];exact I⟩
 .intro x R M1 M' z m;refine V5 tg (λL h=>?_) (C x R M1 M' z m);refine Xc O elt (λy E ⟨p,A,J,X⟩=>?_) h;subst X;exact⟨SameM.new A _,[p],by simp,by simp[A,Xa],p,rfl,J,Xa⟩
 .intro D u l M' z m T H v o s i n;have Y:∀(xs:List r)(u:List MV)(l:List (List Addr)),u.length=xs.length->l.length=xs.length->(∀(j:Nat)x y N,xs[j]?=some x->u[j]?=some y->l[j]?=some N->∃p,N=[p]/\y=.tup [.str (nm x),.ref p]/\M' p=some (e x))->
    l.flatten.length=xs.length/\u=(zipK (xs.map nm) (l.flatten.map MV.ref)).map prM/\∀(j:Nat)a x,l.flatten[j]?=some a->xs[j]?=some x->M' a=some (e x):=by
   intro xs
   induction xs with
   |nil=>
    intro u l z m _;cases u with
    |nil=>
     cases l with
     |nil=>exact⟨rfl,rfl,λj a x h=>by simp at h⟩
     |cons _ _=>cases m
    |cons _ _=>cases z
   |cons x xs ih=>
    intro u l z m T;cases u with
    |nil=>cases z
    |cons y u=>
     cases l with
     |nil=>cases m
     |cons N l=>
      obtain⟨p,rfl,rfl,ep⟩:=T 0 x y N rfl rfl rfl;obtain⟨i1,i2,i3⟩:=ih u l (by simpa using z) (by simpa using m) λj x y N a b c=>T (j+1) x y N (by simpa using a) (by simpa using b) (by simpa using c)
      refine⟨by simp at i1 ⊢;lia,?_,?_⟩
      .show _=prM (Xm (nm x),MV.ref p)::((zipK (xs.map nm) (l.flatten.map MV.ref)).map prM);rw[<-i2];rfl
      .intro j a x' Z R;cases j with
       |zero=>simp at Z R;subst Z R;exact ep
       |succ j=>exact i3 j a x' (by simpa using Z) (by simpa using R)
  obtain⟨k1,k2,k3⟩:=Y xs u l T H i;exact q D l.flatten M' z m k1 v o s k3 (by rw[<-k2];exact n)
def WdOk(w:Nat)(I:Isl)(j:List (Key×MV)):Prop:=∃l:List Int,l.length=I.vars.length/\j=zipK I.vars (l.map MV.int)/\∀v∈l,0<=v/\v<2^w
def rhoK(j:List (Key×MV))(x:Str):Int:=match valM j (Xm x)with
 |some (.int i)=>i
 |_=>0
theorem WdOk.at{k:Nat}{I:Isl}{j:List (Key×MV)}(h:WdOk k I j)(y:I.vars.Nodup){x:Str}(z:x∈I.vars):valM j (Xm x)=some (.int (rhoK j x))/\0<=rhoK j x/\rhoK j x<2^k:=by
 obtain⟨l,c,rfl,m⟩:=h;obtain⟨i,g,rfl⟩:=Y0 z;have u:i<l.length:=by lia
 have e:valM (zipK I.vars (l.map MV.int)) (Xm I.vars[i])=some (.int l[i]):=Ui (i:=i) y (X7 g) (by rw[Xr,X7 u];rfl)
 have d:rhoK (zipK I.vars (l.map MV.int)) I.vars[i]=l[i]:=by unfold rhoK;rw[e]
 rw[d];exact⟨e,m _ (XQ u)⟩
theorem WdOk.reads{k:Nat}{I:Isl}{j:List (Key×MV)}(h:WdOk k I j)(l:I.vars.Nodup):readsOk I.vars j (rhoK j) k:=λ_ u=>h.at l u
theorem WdOk.len{k:Nat}{I:Isl}{j:List (Key×MV)}(h:WdOk k I j):j.length=I.vars.length:=by
 obtain⟨u,l,rfl,y⟩:=h;exact BA (by rw[Xb];exact l)
theorem WdOk.put{k:Nat}{I:Isl}{j:List (Key×MV)}(h:WdOk k I j)(z:I.vars.Nodup){x:Str}(m:x∈I.vars){v:Int}(g:0<=v/\v<2^k):WdOk k I (putM j (Xm x) (.int v)):=by
 obtain⟨d,y,rfl,c⟩:=h;obtain⟨i,f,rfl⟩:=Y0 m;refine⟨d.set i v,by rw[Ur];exact y,?_,λu l=>?_⟩
 .rw[BB (i:=i) (by rw[Xb];exact y) z (X7 f),Wm]
 .rcases HF l with l|rfl
  .exact c u l
  .exact g
structure Boat where
 b:Addr
 p:Addr
 g:Addr
 u:Addr
 gl:Addr
 tl:Addr
 A:Ab
noncomputable def Boat.ads(x:Boat):List Addr:=[x.b,x.p,x.g,x.u,x.gl,x.tl]
structure BoatAt (M:MH)(f:Fer)(w:Nat)(m:Int)(x:Boat):Prop where
 fy:FyAt M x.b x.p x.g x.u x.A
 gv:M x.gl=some (.lst (x.A.ws.map natM))
 tk:M x.tl=some (.lst ((x.A.ws.take x.A.tn).map natM))
 n1:x.gl≠x.tl/\x.gl≠x.p/\x.tl≠x.p
 k:x.A.k=f.k
 gm:x.A.gm<m
 tm:x.A.tm<m
 wd:∀z∈x.A.ws,z<2^w
theorem BoatAt.at_{M:MH}{f:Fer}{w:Nat}{m:Int}{x:Boat}(h:BoatAt M f w m x):∀a∈x.ads,∃o,M a=some o/\(∀j,o≠.dic j)/\∀fs,o≠.ins "Run" fs:=by
 have y:¬(("Ferry":Str)="Run"):=by rw[V8];decide
 have l:¬(("Side":Str)="Run"):=by rw[V8];decide
 obtain⟨d,g,_⟩:=h.fy.pls;intro a u;simp only[Boat.ads,Xl,XI,or_false]at u;rcases u with rfl|rfl|rfl|rfl|rfl|rfl
 .exact⟨_,h.fy.fe,(λ_ z=>by cases z),(λfs z=>y (by injection z))⟩
 .exact⟨_,g,(λ_ z=>by cases z),(λfs z=>by cases z)⟩
 .exact⟨_,h.fy.gi,(λ_ z=>by cases z),(λfs z=>l (by injection z))⟩
 .exact⟨_,h.fy.ta,(λ_ z=>by cases z),(λfs z=>l (by injection z))⟩
 .exact⟨_,h.gv,(λ_ z=>by cases z),(λfs z=>by cases z)⟩
 .exact⟨_,h.tk,(λ_ z=>by cases z),(λfs z=>by cases z)⟩
theorem BoatAt.dic{M:MH}{f:Fer}{w:Nat}{m:Int}{x:Boat}(h:BoatAt M f w m x){a:Addr}{j:List (Key×MV)}(l:M a=some (.dic j)):a∉x.ads:=λz=>by
 obtain⟨o,e,n,_⟩:=h.at_ a z;rw[l]at e;cases e;exact n _ rfl
theorem BoatAt.run{M:MH}{f:Fer}{w:Nat}{m:Int}{x:Boat}(h:BoatAt M f w m x){a:Addr}{fs:List (Str×MV)}(j:M a=some (.ins "Run" fs)):a∉x.ads:=fun z=>by
 obtain⟨o,e,_,n⟩:=h.at_ a z;rw[j]at e;cases e;exact n _ rfl
theorem BoatAt.fr{M M':MH}{f:Fer}{w:Nat}{m u:Int}{x:Boat}(h:BoatAt M f w m x)(l:m<=u)(s:∀a∈x.ads,∀o,M a=some o->M' a=some o):BoatAt M' f w u x:=by
 have s:∀a,a∈ [x.b,x.p,x.g,x.u,x.gl,x.tl]->∀o,M a=some o->M' a=some o:=s;obtain⟨y,z,j⟩:=h.fy.pls;exact⟨⟨h.fy.ok,s _ (by simp) _ h.fy.fe,⟨y,s _ (by simp) _ z,j⟩,s _ (by simp) _ h.fy.gi,s _ (by simp) _ h.fy.ta,h.fy.ne⟩,s _ (by simp) _ h.gv,s _ (by simp) _ h.tk,h.n1,h.k,VG h.gm l,VG h.tm l,h.wd⟩
structure RunS where
 m:Int
 nums:List Nat
 ws:List Addr
 dn:List Nat
 bs:List Boat
 pn:Addr
 pw:Addr
 ps:Addr
 pb:Addr
 pg:Addr
 pt:Addr
noncomputable def runO(W:Wld)(R:RunS):MO:=.ins "Run" [("world",W.mv),("moment",.int R.m),("next_numbers",.ref R.pn),("words_now",.ref R.pw),("steps_so_far",.ref R.ps),("boats",.ref R.pb),("given_so_far",.ref R.pg),("taken_so_far",.ref R.pt)]
structure RunAt (M:MH)(W:Wld)(r:Addr)(R:RunS)(mm:Nat->Int):Prop where
 ob:M r=some (runO W R)
 hn:M R.pn=some (.dic (zipK W.ins (R.nums.map natM)))
 hw:M R.pw=some (.dic (zipK W.ins (R.ws.map MV.ref)))
 hs:M R.ps=some (.dic (zipK W.ins (R.dn.map natM)))
 hb:M R.pb=some (.dic (zipK W.fns (R.bs.map λx=>MV.ref x.b)))
 hg:M R.pg=some (.dic (zipK W.fns (R.bs.map λx=>MV.ref x.gl)))
 ht:M R.pt=some (.dic (zipK W.fns (R.bs.map λx=>MV.ref x.tl)))
 nl:R.nums.length=W.isl.length
 wl:R.ws.length=W.isl.length
 sl:R.dn.length=W.isl.length
 bl:R.bs.length=W.fer.length
 nb:∀(i:Nat)I n,W.isl[i]?=some I->R.nums[i]?=some n->n<=I.stps.length
 wa:∀(i:Nat)I a,W.isl[i]?=some I->R.ws[i]?=some a->∃kvs,M a=some (.dic kvs)/\WdOk W.w I kvs
 ba:∀(j:Nat)f x,W.fer[j]?=some f->R.bs[j]?=some x->BoatAt M f W.w (mm j) x
 sep:∀(i j:Nat)x y,i≠j->R.bs[i]?=some x->R.bs[j]?=some y->∀a∈x.ads,a∉y.ads
 nd:(R.pn::R.pw::R.ps::R.pb::R.pg::R.pt::R.ws).Nodup
def RunS.own(R:RunS)(r:Addr):List Addr:=r::R.pn::R.pw::R.ps::R.bs.flatMap Boat.ads
structure Kept (M M':MH)(r:Addr)(R R':RunS):Prop where
 fr:FrM M M' (R.own r)
 nw:∀a∈R'.own r,a∈R.own r\/M a=none
theorem Kept.trans{M M1 M2:MH}{r:Addr}{R l R2:RunS}(h:Kept M M1 r R l)(g:Kept M1 M2 r l R2):Kept M M2 r R R2:=by
 refine⟨λa o j u=>g.fr a o (h.fr a o j u) λz=>?_,λa j=>?_⟩
 .rcases h.nw a z with z|z
  .exact u z
  .rw[j]at z;cases z
 .rcases g.nw a j with z|z
  .exact h.nw a z
  .by_cases c:a∈R.own r
   .exact .inl c
   .cases e:M a with
    |none=>exact .inr rfl
    |some o=>rw[h.fr a o e c]at z;cases z
theorem Kept.new{M M':MH}{r:Addr}{R:RunS}(s:SameM M M'):Kept M M' r R R:=⟨λa o h _=>s a o h,λ_ h=>.inl h⟩
theorem RunAt.keep{M M':MH}{W:Wld}{r:Addr}{R:RunS}{l:Nat->Int}(h:RunAt M W r R l)(s:SameM M M'):RunAt M' W r R l:=
 ⟨s _ _ h.ob,s _ _ h.hn,s _ _ h.hw,s _ _ h.hs,s _ _ h.hb,s _ _ h.hg,s _ _ h.ht,h.nl,h.wl,h.sl,h.bl,h.nb,λi I a u y=>let⟨k,e,o⟩:=h.wa i I a u y;⟨k,s _ _ e,o⟩,λj f x z m=>(h.ba j f x z m).fr (Uy _) λa _ o e=>s a o e,h.sep,h.nd⟩
theorem Wd{u:Type}{xs:List u}{i j:Nat}{v x:u}(h:(xs.set j v)[i]?=some x):(i=j/\x=v)\/(i≠j/\xs[i]?=some x):=by
 rw[Vp]at h;by_cases e:j=i
 .subst e;rw[if_pos rfl]at h;by_cases l:j<xs.length
  .rw[if_pos l]at h;exact .inl ⟨rfl,(Yd h).symm⟩
  .rw[if_neg l]at h;cases h
 .rw[if_neg e]at h;exact .inr ⟨λz=>e z.symm,h⟩
set_option tactic.hygienic true in
theorem Hx{u z:Type}{f:u->z}{xs:List u}{j:Nat}{x y:u}(m:xs[j]?=some x)(e:f y=f x):(xs.set j y).map f=xs.map f:=by
 rw[Wm,e];apply BY;intro i;rw[Vp];split
 .rename_i h;subst h;split
  .rw[Xr,m];rfl
  .rename_i l;rw[Zi (by lia)]
 .rfl
theorem RunAt.boat{M M':MH}{W:Wld}{r:Addr}{R:RunS}{Z mm':Nat->Int}(h:RunAt M W r R Z){j:Nat}{f:Fer}{x y:Boat}(A:W.fer[j]?=some f)(m:R.bs[j]?=some x)(fr:FrM M M' x.ads)(E:BoatAt M' f W.w (mm' j) y)(F:y.b=x.b)(G:y.gl=x.gl)(J:y.tl=x.tl)(ad:∀a∈y.ads,a∈x.ads\/M a=none)(Q:∀i,i≠j->Z i<=mm' i):
  RunAt M' W r {R with bs:=R.bs.set j y} mm'/\Kept M M' r R {R with bs:=R.bs.set j y}:=by
 have B:=h.ba j f x A m;have dic:∀a q,M a=some (.dic q)->M' a=some (.dic q):=λa q e=>fr a _ e (B.dic e);have S:(R.bs.set j y).map (λx=>MV.ref x.b)=R.bs.map λx=>MV.ref x.b:=Hx m (by rw[F])
 have X:(R.bs.set j y).map (λx=>MV.ref x.gl)=R.bs.map λx=>MV.ref x.gl:=Hx m (by rw[G])
 have H:(R.bs.set j y).map (λx=>MV.ref x.tl)=R.bs.map λx=>MV.ref x.tl:=Hx m (by rw[J])
 have off:∀(i:Nat)z,i≠j->R.bs[i]?=some z->∀a∈z.ads,a∉y.ads:=λi z p u a l O=>by
  rcases ad a O with c|c
  .exact h.sep i j z x p u m a l c
  .have T:i<W.fer.length:=by rw[<-h.bl];exact(XE.mp u).1
   obtain⟨o,e,_⟩:=(h.ba i _ z (X7 T) u).at_ a l;rw[e]at c;cases c
 refine⟨⟨fr _ _ h.ob (B.run h.ob),dic _ _ h.hn,dic _ _ h.hw,dic _ _ h.hs,?_,?_,?_,h.nl,h.wl,h.sl,by show(R.bs.set j y).length=_;rw[Ur];exact h.bl,h.nb,λi I a v l=>let⟨k,e,o⟩:=h.wa i I a v l;⟨k,dic _ _ e,o⟩,λi g z U u=>?_,λi C z D p u Y=>?_,h.nd⟩,⟨λa o l s=>fr a o l λc=>s ?_,λa l=>?_⟩⟩
 .show M' R.pb=some (.dic (zipK W.fns ((R.bs.set j y).map λx=>MV.ref x.b)));rw[S];exact dic _ _ h.hb
 .show M' R.pg=some (.dic (zipK W.fns ((R.bs.set j y).map λx=>MV.ref x.gl)));rw[X];exact dic _ _ h.hg
 .show M' R.pt=some (.dic (zipK W.fns ((R.bs.set j y).map λx=>MV.ref x.tl)));rw[H];exact dic _ _ h.ht
 .rcases Wd u with⟨rfl,rfl⟩|⟨p,u⟩
  .rw[A]at U;cases U;exact E
  .exact(h.ba i g z U u).fr (Q i p) λa l o e=>fr a o e λc=>h.sep i j z x p u m a l c
 .rcases Wd u with⟨n,L⟩|⟨b,L⟩<;>rcases Wd Y with⟨e2,N⟩|⟨n2,N⟩
  .exact absurd (n.trans e2.symm) p
  .subst L;exact λa l hb=>off C D n2 N a hb l
  .subst N;exact off i z b L
  .exact h.sep i C z D p L N
 .exact XS _ (XS _ (XS _ (XS _ (Vs.mpr ⟨x,Xu m,c⟩))))
 .simp only[RunS.own,Xl,Vs]at l ⊢;rcases l with c|c|c|c|⟨z,u,c⟩
  .exact .inl (.inl c)
  .exact .inl (.inr (.inl c))
  .exact .inl (.inr (.inr (.inl c)))
  .exact .inl (.inr (.inr (.inr (.inl c))))
  .obtain⟨i,T,rfl⟩:=Y0 u;rcases Wd (X7 T)with⟨_,e⟩|⟨_,e⟩
   .rw[e]at c;exact(ad a c).imp (λd=>.inr (.inr (.inr (.inr ⟨x,Xu m,d⟩)))) id
   .exact .inl (.inr (.inr (.inr (.inr ⟨_,Xu e,c⟩))))
noncomputable def askO(o:Option Stp)(ρ:Str->Int)(w:Nat):MV:=match o with
 |none=>.non
 |some (.take f _)=>.tup [.str "take",.str f]
 |some (.give f T)=>.tup [.str "give",.str f,.int (T.val ρ w)]
 |some _=>.tup [.str "own"]
theorem _r9(j:List Stp)(ρ:Str->Int)(w i:Nat):dueM j ρ w i=askO j[i]? ρ w:=rfl
noncomputable def UK(o:Option Stp):MV:=match o with
 |none=>.tup [.str "done"]
 |some (.take f _)=>.tup [.str "wait",.str f]
 |some (.give f _)=>.tup [.str "wait",.str f]
 |some _=>.tup [.str "own"]
noncomputable def XU(o:Option Stp)(z:Str):Bool:=match o with
 |some (.take f _)=>decide (f=z)
 |some (.give f _)=>decide (f=z)
 |_=>false
abbrev Vd:SpM:=λj M Q=>∃(o:Option Stp) (l:Str->Int) (w:Nat),j=[askO o l w]/\Q (UK o) M
theorem _9p:MonW Vd:=by walk_at "m"
theorem _dJ(T:Txt K mg t):FnOk P w K mg base CX0 1 t.i9 t.gL ["asked"] (liSp K Vd):=by
 refine T.bz.F.okM _dB (fC (G:=OM) (Φ:=[]) T rfl nl0 nl0) G7 _e8 (λj M Q h=>?_) (λj M Q h=>?_)
 .obtain⟨_,_,_,rfl,_⟩:=h;rfl
 obtain⟨o,l,k,rfl,q⟩:=h;show wSs _ _ _ [some (askO o l k)] M;delta G7 OL;rcases o with _|s
 .simp only[askO];simp!;delta OK;simp!;exact q
 .cases s<;>simp only[askO]<;>simp!<;>rw[OJ]<;>simp!<;>first|(rw[OI];simp!;exact q)|(rw[OH];simp!;exact q)
abbrev We:SpM:=λj M Q=>∃(o:Option Stp) (l:Str->Int) (w:Nat) (z:Str),j=[askO o l w,.str z]/\Q (.bl (XU o z)) M
theorem _9r:MonW We:=by walk_at "m"
theorem _dL(T:Txt K mg t):FnOk P w K mg base CX0 1 t.cV t.eY ["asked","ferry_name"] (liSp K We):=by
 refine T.bh.F.okM _dE (fC (G:=OO) (Φ:=[]) T rfl nl0 nl0) G8 _eb (λj M Q h=>?_) (λj M Q h=>?_)
 .obtain⟨_,_,_,_,rfl,_⟩:=h;rfl
 obtain⟨o,l,k,z,rfl,q⟩:=h;show wSs _ _ _ [some (askO o l k),some (.str z)] M;delta G8 ON;rcases o with _|s
 .simp only[askO];simp!;exact q
 .cases s<;>simp only[askO]<;>simp!<;>exact q
abbrev Hy:SpM:=λl M Q=>∃(z:Str) (e:Addr) (j:List (Key×MV)),l=[.str z,.ref e]/\M e=some (.dic j)/\(valM j (Xm z)).isSome=true/\Q .non M
theorem _5s:MonW Hy:=by walk_at "m"
theorem _8v(T:Txt K mg t):FnOk P w K mg base CX0 1 t.cx t.b9 ["name","known"] (liSp K Hy):=by
 refine T.ao.F.okM KP (_M (P:=P) (w:=w) (K:=K) (mg:=mg) (base:=base) (k:=0) (G:=FQ) (Φ:=[]) (Ψ:=[]) (Χ:=[]) rfl (_O T) (_P T) rfl nl0 nl0 nl0 nl0 (_Q T)) Bh Nr (λj M Q h=>?_) (λj M Q h=>?_)
 .obtain⟨z,a,m,rfl,_⟩:=h;rfl
 obtain⟨z,a,l,rfl,u,y,q⟩:=h;show wSs _ _ _ [some (.str z),some (.ref a)] M;delta Bh FP;simp!;refine .inr ⟨_,_,u,rfl,?_⟩;rw[y];simp!;exact q
theorem Wld.Good.in_nd{W:Wld}(G:W.Good):W.ins.Nodup:=(Zj.mp G.nd).2.1
theorem Wld.Good.fn_nd{W:Wld}(G:W.Good):W.fns.Nodup:=(Zj.mp G.nd).1
theorem _U{W:Wld}{i:Nat}{I:Isl}(h:W.isl[i]?=some I):W.ins[i]?=some I.name:=by unfold Wld.ins;rw[Xr,h];rfl
theorem Uj{W:Wld}{i:Nat}{f:Fer}(h:W.fer[i]?=some f):W.fns[i]?=some f.name:=by unfold Wld.fns;rw[Xr,h];rfl
theorem Ve{W:Wld}:W.ins.length=W.isl.length:=by unfold Wld.ins;rw[Xb]
theorem _V{W:Wld}:W.fns.length=W.fer.length:=by unfold Wld.fns;rw[Xb]
theorem SK{fs j:List Str}{n:Nat}{s:Stp}(h:ZS fs j n s):s.ok j n:=by
 cases s with
 |take f x=>exact h.2
 |give f T=>exact h.2
 |put x T=>exact h
 |jump T i=>exact h
section
variable{M:MH}{W:Wld}{r:Addr}{R:RunS}{mm:Nat->Int}
theorem RunAt.gvl(h:RunAt M W r R mm)(G:W.Good){j:Nat}{f:Fer}{x:Boat}(l:W.fer[j]?=some f)(u:R.bs[j]?=some x):valM (zipK W.fns (R.bs.map λx=>MV.ref x.gl)) (Xm f.name)=some (.ref x.gl):=Ui G.fn_nd (Uj l) (by rw[Xr,u];rfl)
theorem RunAt.tkl(h:RunAt M W r R mm)(G:W.Good){j:Nat}{f:Fer}{x:Boat}(l:W.fer[j]?=some f)(u:R.bs[j]?=some x):valM (zipK W.fns (R.bs.map λx=>MV.ref x.tl)) (Xm f.name)=some (.ref x.tl):=Ui G.fn_nd (Uj l) (by rw[Xr,u];rfl)
theorem RunAt.btl(h:RunAt M W r R mm)(G:W.Good){j:Nat}{f:Fer}{x:Boat}(l:W.fer[j]?=some f)(u:R.bs[j]?=some x):valM (zipK W.fns (R.bs.map λx=>MV.ref x.b)) (Xm f.name)=some (.ref x.b):=Ui G.fn_nd (Uj l) (by rw[Xr,u];rfl)
theorem RunAt.nml(h:RunAt M W r R mm)(G:W.Good){i n:Nat}{I:Isl}(j:W.isl[i]?=some I)(l:R.nums[i]?=some n):valM (zipK W.ins (R.nums.map natM)) (Xm I.name)=some (.int n):=Ui G.in_nd (_U j) (by rw[Xr,l];rfl)
theorem RunAt.wdl(h:RunAt M W r R mm)(G:W.Good){i:Nat}{a:Addr}{I:Isl}(j:W.isl[i]?=some I)(l:R.ws[i]?=some a):valM (zipK W.ins (R.ws.map MV.ref)) (Xm I.name)=some (.ref a):=Ui G.in_nd (_U j) (by rw[Xr,l];rfl)
theorem RunAt.dnl(h:RunAt M W r R mm)(G:W.Good){i n:Nat}{I:Isl}(j:W.isl[i]?=some I)(l:R.dn[i]?=some n):valM (zipK W.ins (R.dn.map natM)) (Xm I.name)=some (.int n):=Ui G.in_nd (_U j) (by rw[Xr,l];rfl)
set_option tactic.hygienic true in
theorem RunAt.went(h:RunAt M W r R mm){M':MH}{i n d:Nat}{I:Isl}{p:Addr}{c:List (Key×MV)}(E:W.isl[i]?=some I)(q:n<=I.stps.length)(F:M p=none)(fr:∀a o,M a=some o->a≠R.pn->a≠R.pw->a≠R.ps->M' a=some o)(hk:M' p=some (.dic c))(wk:WdOk W.w I c)
  (h1:M' R.pn=some (.dic (zipK W.ins ((R.nums.set i n).map natM))))(h2:M' R.pw=some (.dic (zipK W.ins ((R.ws.set i p).map MV.ref))))(h3:M' R.ps=some (.dic (zipK W.ins ((R.dn.set i d).map natM)))):
  RunAt M' W r {R with nums:=R.nums.set i n,ws:=R.ws.set i p,dn:=R.dn.set i d} mm/\Kept M M' r R {R with nums:=R.nums.set i n,ws:=R.ws.set i p,dn:=R.dn.set i d}:=by
 have G:=h.nd;simp only[YI,Xl,not_or]at G;obtain⟨⟨a1,a2,Q,S,X,H⟩,⟨b2,v,s,b5,b6⟩,⟨c3,c4,c5,c6⟩,⟨d4,d5,d6⟩,⟨e5,e6⟩,f6,U⟩:=G;have Y:∀a y,M a=some (.dic y)->a≠r:=λa y e z=>by subst z;rw[h.ob]at e;cases e
 have Z:∀(k:Nat)a,R.ws[k]?=some a->a≠R.pn/\a≠R.pw/\a≠R.ps:=λk a u=>⟨λz=>H (z▸Xu u),λz=>b6 (z▸Xu u),λz=>c6 (z▸Xu u)⟩;have A:∀a o,M a=some o->a≠p:=λa o e=>neM e F;refine⟨⟨fr _ _ h.ob (Y _ _ h.hn).symm (Y _ _ h.hw).symm (Y _ _ h.hs).symm,h1,h2,h3,fr _ _ h.hb (XM Q) (XM v) (XM c3),fr _ _ h.hg (XM S) (XM s) (XM c4),fr _ _ h.ht (XM X) (XM b5) (XM c5),by show(R.nums.set i n).length=_;rw[Ur];exact h.nl,by show(R.ws.set i p).length=_;rw[Ur];exact h.wl,by show(R.dn.set i d).length=_;rw[Ur];exact h.sl,h.bl,λk J m L B=>?_,λk J a L u=>?_,λj f x hf C=>?_,h.sep,?_⟩,⟨λa o u q=>fr a o u ?_ ?_ ?_,λa u=>.inl u⟩⟩
 .rcases Wd B with⟨rfl,rfl⟩|⟨_,B⟩
  .rw[E]at L;cases L;exact q
  .exact h.nb k J m L B
 .rcases Wd u with⟨rfl,rfl⟩|⟨_,u⟩
  .rw[E]at L;cases L;exact⟨c,hk,wk⟩
  .obtain⟨y,e,o⟩:=h.wa k J a L u;obtain⟨n1,n2,n3⟩:=Z k a u;exact⟨y,fr _ _ e n1 n2 n3,o⟩
 .have C:R.bs[j]?=some x:=C;have b:=h.ba j f x hf C;exact b.fr (Uy _) λa u o e=>fr a o e (λz=>b.dic (z▸h.hn) u) (λz=>b.dic (z▸h.hw) u) (λz=>b.dic (z▸h.hs) u)
 .have O:∀a y,M a=some (.dic y)->a≠p:=λa y e=>A a _ e;have ms:∀a,a∈R.ws.set i p->a∈R.ws\/a=p:=λa u=>HF u;have T:p∉R.ws:=λz=>by
   obtain⟨k,g,e⟩:=Y0 z;have hi:k<W.isl.length:=by rw[<-h.wl];exact g
   obtain⟨y,e2,_⟩:=h.wa k _ _ (X7 hi) (X7 g);rw[e,F]at e2;cases e2
  have D:(R.ws.set i p).Nodup:=by
   refine List.pairwise_iff_getElem.mpr λk l g hl kl e=>?_;rw[Ur]at g hl;rw[DZ,DZ]at e;split at e<;>split at e
   .rename_i z1 z2;lia
   .exact T (e▸XQ hl)
   .exact T (e.symm▸XQ g)
   .have:=(BZ U).mp e;lia
  have N:∀a y,M a=some (.dic y)->a∉R.ws->a∉R.ws.set i p:=λa y e q z=>(ms a z).elim q (O a y e);show(R.pn::R.pw::R.ps::R.pb::R.pg::R.pt::R.ws.set i p).Nodup;simp only[YI,Xl,not_or];exact⟨⟨a1,a2,Q,S,X,N _ _ h.hn H⟩,⟨b2,v,s,b5,N _ _ h.hw b6⟩,⟨c3,c4,c5,N _ _ h.hs c6⟩,⟨d4,d5,N _ _ h.hb d6⟩,⟨e5,N _ _ h.hg e6⟩,N _ _ h.ht f6,D⟩
 .exact λz=>q (by simp[RunS.own,z])
 .exact λz=>q (by simp[RunS.own,z])
 .exact λz=>q (by simp[RunS.own,z])
end
abbrev BC:SpM:=λl M Q=>∃(e:Addr) (j:List (Key×MV)) (z:Str) (v:MV),l=[.ref e,.str z]/\M e=some (.dic j)/\valM j (Xm z)=some v/\Q v M
theorem Hz:MonW BC:=by walk_at "m"
theorem HA(T:Txt K mg t):FnOk P w K mg base CX0 2 t.gE t.eE ["named","name"] (liSp K BC):=by
 refine T.aH.F.okM _ev (fC (G:=OR) (Φ:=[("refuse_unknown",Hy)]) T rfl (fMc ⟨_5s,nl0⟩) (fMc ⟨⟨_,_,_,FnOk.mono (_8v T) (by decide),T.ao.m,T.ao.F.kp,T.ao.b⟩,nl0⟩)) G9 _fs (fun y M Q h=>?_) (fun y M Q h=>?_)
 .obtain⟨_,_,_,_,rfl,_⟩:=h;rfl
 obtain⟨e,j,z,v,rfl,l,u,q⟩:=h;show wSs _ _ _ [some (.ref e),some (.str z)] M;delta G9 OQ;simp!;refine⟨z,e,j,rfl,l,by rw[u];rfl,?_⟩
 delta OP
 simp![l,u]
 exact q
abbrev BD:SpM:=λl M Q=>∃(r:Addr) (W:Wld) (R:RunS) (u:Nat->Int) (j:Nat) (f:Fer) (x:Boat),l=[.ref r,.str f.name]/\W.Good/\RunAt M W r R u/\W.fer[j]?=some f/\R.bs[j]?=some x/\∀p,M p=none->Q (.ref p) (updM M p (.lst (x.A.ws.map natM)))
theorem SL:MonW BD:=by walk_at "m"
theorem _f0(T:Txt K mg t):FnOk P w K mg base CX0 3 t.cu t.bX ["self","name"] (liSp K BD):=by
 refine T.gS.okM _eF (fC (G:=PB) (Φ:=[("looked_up",BC)]) T rfl (fMc ⟨Hz,nl0⟩) (fMc ⟨fE T.aH (HA T),nl0⟩)) Gi _fC (fun y M Q h=>?_) (fun y M Q h=>?_)
 .obtain⟨_,_,_,_,_,_,_,rfl,_⟩:=h;rfl
 obtain⟨r,W,R,g,j,f,x,rfl,G,h,l,u,q⟩:=h;show wSs _ _ _ [some (.ref r),some (.str f.name)] M;have z:=h.ob;have m:=(h.ba j f x l u).gv;delta Gi Pz
 simp![z,runO,valM]
 refine⟨_,_,_,_,rfl,h.hg,h.gvl G l u,?_⟩
 simp![m]
 exact q
abbrev BE:SpM:=λl M Q=>∃(r:Addr) (W:Wld) (R:RunS) (u:Nat->Int) (j:Nat) (f:Fer) (x:Boat),l=[.ref r,.str f.name]/\W.Good/\RunAt M W r R u/\W.fer[j]?=some f/\R.bs[j]?=some x/\∀p,M p=none->Q (.ref p) (updM M p (.lst ((x.A.ws.take x.A.tn).map natM)))
theorem SM:MonW BE:=by walk_at "m"
theorem _eY(T:Txt K mg t):FnOk P w K mg base CX0 3 t.bK t.bI ["self","name"] (liSp K BE):=by
 refine T.dO.okM _eD (fC (G:=PD) (Φ:=[("looked_up",BC)]) T rfl (fMc ⟨Hz,nl0⟩) (fMc ⟨fE T.aH (HA T),nl0⟩)) Gj _fA (fun y M Q h=>?_) (fun y M Q h=>?_)
 .obtain⟨_,_,_,_,_,_,_,rfl,_⟩:=h;rfl
 obtain⟨r,W,R,g,j,f,x,rfl,G,h,l,u,q⟩:=h;show wSs _ _ _ [some (.ref r),some (.str f.name)] M;have z:=h.ob;have m:=(h.ba j f x l u).tk;delta Gj PC
 simp![z,runO,valM]
 refine⟨_,_,_,_,rfl,h.ht,h.tkl G l u,?_⟩
 simp![m]
 exact q
theorem _lx{W:Wld}{I:Isl}{i:Nat}{s:Stp}(ok:IslOk W.w W.fns I)(u:I.stps[i]?=some s)(ρ:Str->Int):∃n:Nat,W9 s ρ W.w i=(n:Int)/\n<=I.stps.length:=by
 have y:=(XE.mp u).1;have st:=ok.st s (Xu u);have l:∃n:Nat,(i:Int)+1=(n:Int)/\n<=I.stps.length:=⟨i+1,by lia,y⟩
 cases s with
 |jump T j=>
  unfold W9;by_cases c:T.val ρ W.w≠0
  .simp only[if_pos c];exact⟨j.toNat,by have:=st.2.1;lia,by have:=st.2.1;have:=st.2.2;lia⟩
  .simp only[if_neg c];exact l
 |take _ _=>exact l
 |give _ _=>exact l
 |put _ _=>exact l
theorem _kq{W:Wld}{I:Isl}{s:Stp}{j:List (Key×MV)}{wd:MV}(u:1<=W.w)(ok:IslOk W.w W.fns I)(z:s∈I.stps)(l:WdOk W.w I j)(hw:∀f x,s=.take f x->∃v:Int,wd=.int v/\0<=v/\v<2^W.w):WdOk W.w I (Dv s j (rhoK j) W.w wd):=by
 have st:=ok.st s z;cases s with
 |take f x=>
  obtain⟨v,rfl,m⟩:=hw f x rfl;exact l.put ok.nd st.2 m
 |put x T=>exact l.put ok.nd st.1 (T.val_in u λy g=>(l.at ok.nd (st.2.2.2 y g)).2)
 |give _ _=>exact l
 |jump _ _=>exact l
abbrev UL:SpM:=λz M Q=>∃(r:Addr) (W:Wld) (R:RunS) (u:Nat->Int) (i n:Nat) (I:Isl) (s:Stp) (y:MV),z=[.ref r,.str I.name,.tup (I.stps.map Stp.mv),y]/\W.Good/\RunAt M W r R u/\W.isl[i]?=some I/\R.nums[i]?=some n/\I.stps[n]?=some s/\(∀f x,s=.take f x->∃v:Int,y=.int v/\0<=v/\v<2^W.w)/\
 ∀j l,j.m=R.m->j.bs=R.bs->RunAt l W r j u->Kept M l r R j->Q .non l
theorem _aR:MonW UL:=by walk_at "m"
theorem _eZ(T:Txt K mg t):FnOk P w K mg base CX0 52 t.cb t.bO ["self","name","steps","word"] (liSp K UL):=by
 refine T.cF.okM _eE (fC (G:=Pw) (Φ:=[("after",GF)]) T rfl (fMc ⟨_f4,nl0⟩) (fMc ⟨fE T.bn (_lp T),nl0⟩)) Gg _fB (fun c M Q h=>?_) (fun c M Q h=>?_)
 .obtain⟨_,_,_,_,_,_,_,_,_,rfl,_⟩:=h;rfl
 obtain⟨r,W,R,mm,i,n,I,s,D,rfl,G,h,l,hn,E,hw,q⟩:=h;show wSs _ _ _ [some (.ref r),some (.str I.name),some (.tup (I.stps.map Stp.mv)),some D,none] M;have hi:i<W.isl.length:=(XE.mp l).1;have i5:=G.i5;have ok:=G.io I (Xu l);obtain⟨a,ha⟩:∃a,R.ws[i]?=some a:=⟨_,X7 (by rw[h.wl];exact hi)⟩
 obtain⟨d,hd⟩:∃d,R.dn[i]?=some d:=⟨_,X7 (by rw[h.sl];exact hi)⟩
 obtain⟨j,hk,F⟩:=h.wa i I a l ha;have J:=h.ob;have u:=h.hn;have y:=h.hw;have g:=h.hs;have vn:=h.nml G l hn;have vw:=h.wdl G l ha;have vd:=h.dnl G l hd;have nd:=h.nd;simp only[YI,Xl,not_or]at nd;obtain⟨⟨a1,a2,_⟩,⟨b2,_⟩,_⟩:=nd;have S:∀b kv,M b=some (.dic kv)->r≠b:=λb kv e z=>by subst z;rw[J]at e;cases e
 have r1:=S _ _ u;have r2:=S _ _ y;have r3:=S _ _ g;have X:∀c:List MV,c.length=W.isl.length->(zipK W.ins c).length<16777216:=λc e=>by rw[BA (by rw[Ve];exact e),Ve];lia
 delta Gg Pv
 simp![J,runO,valM,Wld.mv,u,y,vn,vw]
 refine⟨_,a,I.stps,n,W.w,j,rhoK j,I.vars,s,D,rfl,.inl rfl,E,SK (ok.st s (Xu E)),G.w1,G.w2,hk,by rw[F.len];unfold Isl.vars;rw[Xb];have:=ok.nv;lia,F.reads ok.nd,λp f=>?_⟩
 obtain⟨m,H,v⟩:=_lx ok E (rhoK j);rw[H];have x:=_kq (wd:=D) G.w1 ok (Xu E) F hw;generalize Dv s j (rhoK j) W.w D=kvs' at*;have L:=SameM.new f (.dic kvs');have hk1:updM M p (.dic kvs') p=some (.dic kvs'):=Xa;have pn:R.pn≠p:=neM u f;have pw:R.pw≠p:=neM y f;have ps:R.ps≠p:=neM g f;have N:=L _ _ J;have O:=L _ _ u;have U:=L _ _ y;have Y:=L _ _ g;generalize updM M p _=M1 at*;delta Pu
 simp![N,runO,valM,O]
 refine⟨X _ (by rw[Xb];exact h.nl),?_⟩
 rw[BB (i:=i) (by rw[Xb,Ve];exact h.nl) G.in_nd (_U l)]
 have e1:(R.nums.map natM).set i (.int m)=(R.nums.set i m).map natM:=by rw[Wm]
 rw[e1];have Z:updM M1 R.pn (.dic (zipK W.ins ((R.nums.set i m).map natM))) r=_:=(X8 r1).trans N;have C:updM M1 R.pn (.dic (zipK W.ins ((R.nums.set i m).map natM))) R.pn=_:=Xa;have hw2:updM M1 R.pn (.dic (zipK W.ins ((R.nums.set i m).map natM))) R.pw=_:=(X8 (XM a1)).trans U;have hs2:updM M1 R.pn (.dic (zipK W.ins ((R.nums.set i m).map natM))) R.ps=_:=(X8 (XM a2)).trans Y;have hk2:updM M1 R.pn (.dic (zipK W.ins ((R.nums.set i m).map natM))) p=_:=(X8 (XM pn)).trans hk1;have f2:∀b o,M1 b=some o->b≠R.pn->updM M1 R.pn (.dic (zipK W.ins ((R.nums.set i m).map natM))) b=some o:=λb o e z=>(X8 z).trans e;generalize updM M1 R.pn _=M2 at*;delta Pt
 simp![Z,runO,valM,hw2]
 refine⟨X _ (by rw[Xb];exact h.wl),?_⟩
 rw[BB (i:=i) (by rw[Xb,Ve];exact h.wl) G.in_nd (_U l)]
 have e2:(R.ws.map MV.ref).set i (.ref p)=(R.ws.set i p).map MV.ref:=by rw[Wm]
 rw[e2];have ob3:updM M2 R.pw (.dic (zipK W.ins ((R.ws.set i p).map MV.ref))) r=_:=(X8 r2).trans Z;have hn3:updM M2 R.pw (.dic (zipK W.ins ((R.ws.set i p).map MV.ref))) R.pn=_:=(X8 a1).trans C;have hw3:updM M2 R.pw (.dic (zipK W.ins ((R.ws.set i p).map MV.ref))) R.pw=_:=Xa;have hs3:updM M2 R.pw (.dic (zipK W.ins ((R.ws.set i p).map MV.ref))) R.ps=_:=(X8 (XM b2)).trans hs2;have hk3:updM M2 R.pw (.dic (zipK W.ins ((R.ws.set i p).map MV.ref))) p=_:=(X8 (XM pw)).trans hk2;have f3:∀b o,M2 b=some o->b≠R.pw->updM M2 R.pw (.dic (zipK W.ins ((R.ws.set i p).map MV.ref))) b=some o:=λb o e z=>(X8 z).trans e;generalize updM M2 R.pw _=M3 at*;delta Ps
 simp![ob3,runO,valM,hs3,vd]
 refine⟨X _ (by rw[Xb];exact h.sl),?_⟩
 rw[BB (i:=i) (by rw[Xb,Ve];exact h.sl) G.in_nd (_U l)]
 have e3:(R.dn.map natM).set i (.int ((d:Int)+1))=(R.dn.set i (d+1)).map natM:=by rw[Wm];rfl
 rw[e3];obtain⟨A,B⟩:=h.went (M':=updM M3 R.ps (.dic (zipK W.ins ((R.dn.set i (d+1)).map natM)))) l v f (λb o e z1 z2 z3=>(X8 z3).trans (f3 b o (f2 b o (L b o e) z1) z2)) ((X8 (XM ps)).trans hk3) x ((X8 a2).trans hn3) ((X8 b2).trans hw3) Xa;exact q {R with nums:=R.nums.set i m,ws:=R.ws.set i p,dn:=R.dn.set i (d+1)} _ rfl rfl A B
def Zrl(w:Nat)(f:Fer)(o:Option Stp)(ρ:Str->Int)(v:MV):Prop:=v=.non\/(∃T,o=some (.give f.name T)/\v=askO o ρ w)\/∃(x:Str) (n:Nat),o=some (.take f.name x)/\n<2^w/\v=.tup [.str "take",.str f.name,.int n]
noncomputable def Wf(w:Nat)(f:Fer)(o:Option Stp)(ρ:Str->Int):Option Nat:=match o with
 |some (.give g T)=>if g=f.name then some (T.val ρ w).toNat else none
 |_=>none
def UM(w:Nat)(f:Fer)(z:Str)(m:Int)(c:Nat)(o:Option Stp)(ρ:Str->Int)(A:Ab):Ab:=if f.giver=z then A.giver m c (Wf w f o ρ)else A.taker m c (XU o f.name)
def smpA(f:Fer)(z:Str)(c:Nat)(A:Ab):Nat:=if f.giver=z then Xh A.k (A.gSamp c)else Xh A.k (A.tSamp c)
def hitA(w:Nat)(f:Fer)(z:Str)(o:Option Stp)(ρ:Str->Int)(A:Ab):Bool:=if f.giver=z then A.gives (Wf w f o ρ)else A.takes (XU o f.name)
def YL(w:Nat)(f:Fer)(z:Str)(o:Option Stp)(ρ:Str->Int)(A:Ab):MV:=if hitA w f z o ρ A=true then(if f.giver=z then askO o ρ w else .tup [.str "take",.str f.name,.int (A.ws.getD A.tn 0:Nat)])else .non
abbrev Vf:SpM:=λd M Q=>∃(r:Addr) (W:Wld) (R:RunS) (u:Nat->Int) (j:Nat) (f:Fer) (z:Str) (c:Nat) (o:Option Stp) (l:Str->Int) (x:Boat),d=[.ref r,f.mv,.str z,.int c,askO o l W.w]/\W.Good/\RunAt M W r R u/\u j<=R.m/\W.fer[j]?=some f/\(z=f.giver\/z=f.taker)/\(∀s,o=some s->Z5 W.fer z s)/\(∀g T,o=some (.give g T)->0<=T.val l W.w/\T.val l W.w<2^W.w)/\(∀y∈R.bs,y.A.ws.length<=1000)/\R.bs[j]?=some x/\
 ∀y m,RunAt m W r {R with bs:=R.bs.set j y} (λi=>if i=j then R.m+1 else u i)->Kept M m r R {R with bs:=R.bs.set j y}->y.A=UM W.w f z R.m c o l x.A->Zrl W.w f o l (YL W.w f z o l x.A)->Q (.tup [YL W.w f z o l x.A,.int (smpA f z c x.A:Nat)]) m
theorem _5J:MonW Vf:=by walk_at "m"
theorem _nC{w:Nat}{v:Int}(j:0<=v)(h1:v<2^w):∃n:Nat,v=(n:Int)/\n<2^w:=by
 refine⟨v.toNat,(Ux j).symm,?_⟩;have e:((2:Int)^w)=((2^w:Nat):Int):=by rw[Wv];rfl
 lia
theorem _9n(T:Txt K mg t):FnOk P w K mg base CX0 5 t.ca t.ce ["self","ferry","name","choice","asked"] (liSp K Vf):=by
 refine T.iD.okM _9k (_M (k:=4) (G:=Pr) (Φ:=[("is_wish_of",We)]) (Ψ:=[("Ferry_ring_giver",Vc),("Ferry_ring_taker",Wb)]) (Χ:=[("is_wish_of",We),("Ferry_ring_giver",Vc),("Ferry_ring_taker",Wb)]) rfl (_O T) (_P T) rfl (fMc ⟨_9r,(fMc ⟨_4X,(fMc ⟨_4W,nl0⟩)⟩)⟩) (fMc ⟨fE T.bh (_dL T),nl0⟩) (fMc ⟨⟨_,_,rfl,_,_,_,_,(FnOk.mono (_81 T) (by decide)),T.aA,T.aC,T.hZ,T.ge⟩,(fMc ⟨⟨_,_,rfl,_,_,_,_,(FnOk.mono (_80 T) (by decide)),T.aA,T.aC,T.dW,T.dZ⟩,nl0⟩)⟩) nl0 (_Q T)) Gf _9D (fun vs M Q h=>?_) (fun vs M Q h=>?_)
 .obtain⟨_,_,_,_,_,_,_,_,_,_,_,rfl,_⟩:=h;rfl
 obtain⟨r,W,R,O,j,f,z,c,o,l,x,rfl,G,h,C,B,hz,hE,hT,hL,D,q⟩:=h;show wSs _ _ _ [some (.ref r),some f.mv,some (.str z),some (.int c),some (askO o l W.w),none,none,none] M;have hj:j<W.fer.length:=(XE.mp B).1;have fm:f∈W.fer:=Xu B;have fok:=G.fo f fm;have b:=h.ba j f x B D;have xl:=hL x (Xu D);have ob:=h.ob;have hb:=h.hb;have hg:=h.hg;have ht:=h.ht;have vb:=h.btl G B D;have vg:=h.gvl G B D;have vt:=h.tkl G B D;have fe:=b.fy.fe;have E:∀i,i≠j->O i<=(λi=>if i=j then R.m+1 else O i) i:=λi ne=>by simp[ne]
 have m1:(λi=>if i=j then R.m+1 else O i) j=R.m+1:=by simp
 have jJ:∀d,FrM M d [x.b,x.g,x.u]->∀a kv,M a=some (.dic kv)->d a=some (.dic kv):=λd fr a kv e=>fr a _ e λc=>b.dic e (by
  simp only[Boat.ads,Xl,XI,or_false]at c ⊢;rcases c with c|c|c<;>simp[c])
 have jK:∀d,FrM M d [x.b,x.g,x.u]->d r=some (runO W R):=λd fr=>fr _ _ ob λc=>b.run ob (by
  simp only[Boat.ads,Xl,XI,or_false]at c ⊢;rcases c with c|c|c<;>simp[c])
 have glo:x.gl∉ [x.b,x.g,x.u]:=Su b.fy b.gv;have tlo:x.tl∉ [x.b,x.g,x.u]:=Su b.fy b.tk;have F:∀d,FrM M d [x.b,x.g,x.u]->FrM M d x.ads:=λd fr a o e U=>fr a o e λc=>U (by
  simp only[Boat.ads,Xl,XI,or_false]at c ⊢;rcases c with c|c|c<;>simp[c])
 delta Gf Pq
 simp![ob,runO,valM,Fer.mv,hb,vb]
 delta Pp
 simp![Fer.mv]
 refine⟨o,l,W.w,f.name,rfl,?_⟩;delta Po
 simp![Fer.mv]
 refine Y3 (λN=>?_) (λN=>?_)
 . -- the giver's end
  have S:XU o f.name=true->∃T,o=some (.give f.name T):=λe=>by
   rcases o with _|s
   .cases e
   .cases s with
    |take g y=>
     obtain rfl:g=f.name:=of_decide_eq_true e;exact absurd (N.trans ((hE _ rfl) f fm rfl).symm) fok.ne
    |give g T=>
     obtain rfl:g=f.name:=of_decide_eq_true e;exact⟨T,rfl⟩
    |put _ _=>cases e
    |jump _ _=>cases e
  have go:∀(m:Option Nat)(v:MV),v=wM m->Wf W.w f o l=m->(m=none\/∃T n,o=some (.give f.name T)/\askO o l W.w=.tup [.str "give",.str f.name,.int ((n:Nat):Int)]/\m=some n/\n<2^W.w)->
    Vc [.ref x.b,.int R.m,.int c,v] M (fun v1 M1=>wSs ([("is_wish_of",We),("Ferry_ring_giver",Vc),("Ferry_ring_taker",Wb)]:List (Str×SpM)) Ge {nx:=fun σ M=>wSs ([("is_wish_of",We),("Ferry_ring_giver",Vc),("Ferry_ring_taker",Wb)]:List (Str×SpM)) Gd {nx:=fun _ d=>Q .non d,rt:=Q} σ M,rt:=Q} [some (.ref r),some f.mv,some (.str z),some (.int c),some (askO o l W.w),some (.ref x.b),some (.bl (XU o f.name)),some v1] M1):=by
   intro m v hv eN hxo;subst hv;have eR:x.A.giver R.m c m=UM W.w f z R.m c o l x.A:=by rw[UM,if_pos N,eN]
   have eS:smpA f z c x.A=Xh x.A.k (x.A.gSamp c):=if_pos N;have eH:hitA W.w f z o l x.A=x.A.gives m:=by rw[hitA,if_pos N,eN]
   refine⟨x.b,x.p,x.g,x.u,x.A,R.m,c,m,rfl,b.fy,VG b.gm C,VG b.tm C,λX M1 H fr fy=>?_⟩;have p:=fr _ _ b.gv glo;have L:=fr _ _ b.tk tlo;have n1:x.gl≠X:=neM b.gv H;have n2:x.tl≠X:=neM b.tk H;have ads:∀(A:Ab),∀a∈(⟨x.b,X,x.g,x.u,x.gl,x.tl,A⟩:Boat).ads,a∈x.ads\/M a=none:=λA a ha=>by
    simp only[Boat.ads,Xl,XI,or_false]at ha ⊢;rcases ha with e|e|e|e|e|e
    .exact .inl (.inl e)
    .exact .inr (e▸H)
    .exact .inl (.inr (.inr (.inl e)))
    .exact .inl (.inr (.inr (.inr (.inl e))))
    .exact .inl (.inr (.inr (.inr (.inr (.inl e)))))
    .exact .inl (.inr (.inr (.inr (.inr (.inr e)))))
   delta Ge;simp!;by_cases gvs:x.A.gives m=true
   .have Y:(x.A.giver R.m c m).ws=x.A.ws++[m.getD 0]:=if_pos gvs;rcases hxo with e|⟨T,n,I,ea,rfl,U⟩
    .subst e;cases gvs
    rw[gvs];have g1:=jJ _ fr _ _ hg;have r1:=jK _ fr;simp!;delta Pk
    simp![Fer.mv,r1,runO,valM,g1,vg,p,ea]
    refine⟨⟨_,rfl⟩,by rw[Xb];lia,?_⟩
    have eM:x.A.ws.map natM++[MV.int (n:Int)]=(x.A.giver R.m c (some n)).ws.map natM:=by rw[Y,XX];rfl
    rw[eM];have fy2:=fy.put p n1 ((x.A.giver R.m c (some n)).ws.map natM);have gl2:updM M1 x.gl (.lst ((x.A.giver R.m c (some n)).ws.map natM)) x.gl=_:=Xa;have tl2:updM M1 x.gl (.lst ((x.A.giver R.m c (some n)).ws.map natM)) x.tl=_:=(X8 (XM b.n1.1)).trans L;have fr2:FrM M (updM M1 x.gl (.lst ((x.A.giver R.m c (some n)).ws.map natM))) x.ads:=λa o e U=>(X8 (λz=>U (by simp[Boat.ads,z]))).trans (F _ fr a o e U)
    generalize updM M1 x.gl _=M2 at*;delta Pj;simp!;have tn:(x.A.giver R.m c (some n)).tn<=x.A.ws.length:=by
     have:=b.fy.ok.lg1;have:=(b.fy.ok.tb _ (_0 (by rw[b.fy.ok.tl];exact b.fy.ok.gl.1))).2
     have:=(b.fy.ok.tb _ (_0 (by rw[b.fy.ok.tl];exact b.fy.ok.gl.1))).1
     have:=b.fy.ok.lt1;show x.A.tn<=_;lia
    have hy:BoatAt M2 f W.w (R.m+1) ⟨x.b,X,x.g,x.u,x.gl,x.tl,x.A.giver R.m c (some n)⟩:=⟨fy2,gl2,by
      show M2 x.tl=some (.lst (((x.A.giver R.m c (some n)).ws.take (x.A.giver R.m c (some n)).tn).map natM));rw[tl2,Y,HD tn];rfl,⟨b.n1.1,n1,n2⟩,b.k,by show R.m<R.m+1;lia,by show x.A.tm<R.m+1;have:=b.tm;lia,λu J=>by
      have J:u∈(x.A.giver R.m c (some n)).ws:=J;rw[Y]at J;rcases Yt.mp J with J|J
      .exact b.wd u J
      .obtain rfl:u=n:=by simpa using J
       exact U⟩
    obtain⟨A1,A2⟩:=h.boat (y:=⟨x.b,X,x.g,x.u,x.gl,x.tl,x.A.giver R.m c (some n)⟩) (mm':=λi=>if i=j then R.m+1 else O i) B D fr2 (by show BoatAt _ _ _ (if j=j then R.m+1 else O j) _;rw[if_pos rfl];exact hy) rfl rfl rfl (ads _) E
    rw[<-ea];have Z:YL W.w f z o l x.A=askO o l W.w:=by rw[YL,eH,if_pos gvs,if_pos N]
    have:=q _ M2 A1 A2 eR (Z▸.inr (.inl ⟨T,I,rfl⟩));rw[Z,eS]at this;exact this
   .have Y:(x.A.giver R.m c m).ws=x.A.ws:=if_neg gvs;rw[Bool.not_eq_true]at gvs;rw[gvs];simp!;delta Pl;simp!;have hy:BoatAt M1 f W.w (R.m+1) ⟨x.b,X,x.g,x.u,x.gl,x.tl,x.A.giver R.m c m⟩:=⟨fy,by
      show M1 x.gl=some (.lst ((x.A.giver R.m c m).ws.map natM));rw[Y];exact p,by
      show M1 x.tl=some (.lst (((x.A.giver R.m c m).ws.take (x.A.giver R.m c m).tn).map natM));rw[Y];exact L,⟨b.n1.1,n1,n2⟩,b.k,by show R.m<R.m+1;lia,by show x.A.tm<R.m+1;have:=b.tm;lia,by
      show∀u∈(x.A.giver R.m c m).ws,u<2^W.w;rw[Y];exact b.wd⟩
    obtain⟨A1,A2⟩:=h.boat (y:=⟨x.b,X,x.g,x.u,x.gl,x.tl,x.A.giver R.m c m⟩) (mm':=λi=>if i=j then R.m+1 else O i) B D (F _ fr) (by show BoatAt _ _ _ (if j=j then R.m+1 else O j) _;rw[if_pos rfl];exact hy) rfl rfl rfl (ads _) E
    have Z:YL W.w f z o l x.A=.non:=by rw[YL,eH,gvs];rfl
    have:=q _ M1 A1 A2 eR (Z▸.inl rfl);rw[Z,eS]at this;exact this
  delta Pn
  simp![fe,XW,valM,ob,runO]
  by_cases hw:XU o f.name=true
  .obtain⟨T,I⟩:=S hw;obtain⟨v0,v1⟩:=hT _ T I;obtain⟨n,en,U⟩:=_nC v0 v1;have ea:askO o l W.w=.tup [.str "give",.str f.name,.int (n:Int)]:=by rw[I];show MV.tup [.str "give",.str f.name,.int (T.val l W.w)]=_;rw[en]
   have:=go (some n) _ rfl (by subst I;show(if f.name=f.name then some (T.val l W.w).toNat else none)=some n;rw[if_pos rfl,en];rfl) (.inr ⟨T,n,I,ea,rfl,U⟩)
   rw[if_pos hw]
   simp![ea]
   rw[<-ea];exact this
  .have gn:Wf W.w f o l=none:=by
    rcases o with _|s
    .rfl
    .cases s with
     |give g T=>exact if_neg λe=>hw (decide_eq_true e)
     |take _ _=>rfl
     |put _ _=>rfl
     |jump _ _=>rfl
   have:=go none _ rfl gn (.inl rfl);rw[if_neg hw]
   try simp!
   exact this
 . -- the taker's end
  have zt:f.taker=z:=(hz.resolve_left λe=>N e.symm).symm;have S:XU o f.name=true->∃y,o=some (.take f.name y):=λe=>by
   rcases o with _|s
   .cases e
   .cases s with
    |take g y=>
     obtain rfl:g=f.name:=of_decide_eq_true e;exact⟨y,rfl⟩
    |give g T=>
     obtain rfl:g=f.name:=of_decide_eq_true e;exact absurd ((hE _ rfl) f fm rfl) N
    |put _ _=>cases e
    |jump _ _=>cases e
  delta Gd
  simp![fe,XW,valM,ob,runO]
  refine⟨x.b,x.p,x.g,x.u,x.A,R.m,c,XU o f.name,rfl,b.fy,VG b.gm C,VG b.tm C,λM1 fr fy=>?_⟩;have p:=fr _ _ b.gv glo;have L:=fr _ _ b.tk tlo;have ads:∀(A:Ab),∀a∈(⟨x.b,x.p,x.g,x.u,x.gl,x.tl,A⟩:Boat).ads,a∈x.ads\/M a=none:=λA a ha=>.inl ha;have eR:x.A.taker R.m c (XU o f.name)=UM W.w f z R.m c o l x.A:=by rw[UM,if_neg N]
  have eS:smpA f z c x.A=Xh x.A.k (x.A.tSamp c):=if_neg N;have eH:hitA W.w f z o l x.A=x.A.takes (XU o f.name):=if_neg N;delta Pi;simp!;by_cases tks:x.A.takes (XU o f.name)=true
  .have eT:takM x.A (XU o f.name)=.int (x.A.ws.getD x.A.tn 0:Nat):=if_pos tks;have Y:(x.A.taker R.m c (XU o f.name)).tn=x.A.tn+1:=if_pos tks;have hw:XU o f.name=true:=((XY _ _).mp tks).1;have hlt:x.A.tn<x.A.ws.length:=by
    have m2:=_0 (xs:=x.A.tx) (by rw[b.fy.ok.tl];exact b.fy.ok.gl.1)
    have t1:=b.fy.ok.tb _ m2;have t2:=b.fy.ok.lt1;have t3:Xy x.A.tx≠x.A.tn:=of_decide_eq_true ((XY _ _).mp tks).2;lia
   obtain⟨y,I⟩:=S hw;have gd:x.A.ws.getD x.A.tn 0=x.A.ws[x.A.tn]:=by rw[Ya,X7 hlt];rfl
   rw[eT];have t1:=jJ _ fr _ _ ht;have r1:=jK _ fr;simp!;delta Pg
   simp![Fer.mv,r1,runO,valM,t1,vt,L]
   refine⟨⟨_,rfl⟩,by rw[Xb,Yf];lia,?_⟩
   have eM:(x.A.ws.take x.A.tn).map natM++[MV.int ((x.A.ws.getD x.A.tn 0:Nat):Int)]=(x.A.ws.take (x.A.tn+1)).map natM:=by
    rw[Zk,X7 hlt,XX,gd];rfl
   rw[eM];have fy2:=fy.put L b.n1.2.2 ((x.A.ws.take (x.A.tn+1)).map natM);have tl2:updM M1 x.tl (.lst ((x.A.ws.take (x.A.tn+1)).map natM)) x.tl=_:=Xa;have gl2:updM M1 x.tl (.lst ((x.A.ws.take (x.A.tn+1)).map natM)) x.gl=_:=(X8 b.n1.1).trans p;have fr2:FrM M (updM M1 x.tl (.lst ((x.A.ws.take (x.A.tn+1)).map natM))) x.ads:=λa o e U=>(X8 (λz=>U (by simp[Boat.ads,z]))).trans (F _ fr a o e U)
   generalize updM M1 x.tl _=M2 at*;delta Pf
   simp![Fer.mv]
   have hy:BoatAt M2 f W.w (R.m+1) ⟨x.b,x.p,x.g,x.u,x.gl,x.tl,x.A.taker R.m c (XU o f.name)⟩:=⟨fy2,gl2,by
     show M2 x.tl=some (.lst ((x.A.ws.take (x.A.taker R.m c (XU o f.name)).tn).map natM));rw[Y];exact tl2,b.n1,b.k,by show x.A.gm<R.m+1;have:=b.gm;lia,by show R.m<R.m+1;lia,b.wd⟩
   obtain⟨A1,A2⟩:=h.boat (y:=⟨x.b,x.p,x.g,x.u,x.gl,x.tl,x.A.taker R.m c (XU o f.name)⟩) (mm':=λi=>if i=j then R.m+1 else O i) B D fr2 (by show BoatAt _ _ _ (if j=j then R.m+1 else O j) _;rw[if_pos rfl];exact hy) rfl rfl rfl (ads _) E
   have Z:YL W.w f z o l x.A=.tup [.str "take",.str f.name,.int (x.A.ws.getD x.A.tn 0:Nat)]:=by rw[YL,eH,if_pos tks,if_neg N]
   have:=q _ M2 A1 A2 eR (Z▸.inr (.inr ⟨y,_,I,by rw[gd];exact b.wd _ (XQ hlt),rfl⟩))
   rw[Z,eS]at this;exact this
  .have eT:takM x.A (XU o f.name)=.non:=if_neg tks;have Y:(x.A.taker R.m c (XU o f.name)).tn=x.A.tn:=if_neg tks;rw[eT];simp!;delta Ph;simp!;have hy:BoatAt M1 f W.w (R.m+1) ⟨x.b,x.p,x.g,x.u,x.gl,x.tl,x.A.taker R.m c (XU o f.name)⟩:=⟨fy,p,by
     show M1 x.tl=some (.lst ((x.A.ws.take (x.A.taker R.m c (XU o f.name)).tn).map natM));rw[Y];exact L,b.n1,b.k,by show x.A.gm<R.m+1;have:=b.gm;lia,by show R.m<R.m+1;lia,b.wd⟩
   obtain⟨A1,A2⟩:=h.boat (y:=⟨x.b,x.p,x.g,x.u,x.gl,x.tl,x.A.taker R.m c (XU o f.name)⟩) (mm':=λi=>if i=j then R.m+1 else O i) B D (F _ fr) (by show BoatAt _ _ _ (if j=j then R.m+1 else O j) _;rw[if_pos rfl];exact hy) rfl rfl rfl (ads _) E
   have Z:YL W.w f z o l x.A=.non:=by rw[YL,eH,if_neg tks]
   have:=q _ M1 A1 A2 eR (Z▸.inl rfl);rw[Z,eS]at this;exact this
noncomputable abbrev HB:SpM:=λg M Q=>∃(l:List Str) (m:List MV) (z:Str) (i:Nat) (y:MV),g=[.tup m,.str z]/\(∀(j:Nat)u,m[j]?=some u->∃x r,u=.tup (.str x::r)/\l[j]?=some x)/\l.Nodup/\l[i]?=some z/\m[i]?=some y/\Q y M
theorem _9q:MonW HB:=by walk_at "m"
theorem _dK(T:Txt K mg t):FnOk P w K mg base CX0 1 t.fh t.gQ ["row","name"] (liSp K HB):=by
 refine T.bZ.F.okM _dC (fC (G:=OE) (Φ:=[]) T rfl nl0 nl0) G5 _e9 (λR M Q h=>?_) (λR M Q h=>?_)
 .obtain⟨_,_,_,_,_,rfl,_⟩:=h;rfl
 obtain⟨Y,c,z,k,y,rfl,U,W,L,O,q⟩:=h;show wSs _ _ _ [some (.tup c),some (.str z),none] M;delta G5 OD;simp!;obtain⟨J,f⟩:∃J:Nat->Sm->MH->Prop,∀j m g,J j m g↔g=M/\j<=k/\∃v,m=[some (.tup c),some (.str z),v]:=⟨_,λ_ _ _=>Y8⟩;refine⟨J,(f _ _ _).mpr ⟨rfl,YA _,_,rfl⟩,λj m g h=>trivial,?_,?_⟩
 .rintro j u m g d h;obtain⟨rfl,p,v,rfl⟩:=(f _ _ _).mp h;have d:c[j]?=some u:=d;obtain⟨x,r,rfl,N⟩:=U j u d;delta OC;simp!;refine Y3 (λe=>?_) (λe=>?_)
  .subst e;have:=(Vq (XE.mp N).1 W).mp (N.trans L.symm);subst this;rw[O]at d;cases d;delta OB;simp!;exact q
  .refine(f _ _ _).mpr ⟨rfl,?_,_,rfl⟩;rcases Nat.lt_or_eq_of_le p with l|l
   .exact l
   .subst l;rw[N]at L;exact absurd (Yd L) e
 .rintro m g h;obtain⟨rfl,p,v,rfl⟩:=(f _ _ _).mp h;have:=(XE.mp O).1;have p:c.length<=k:=p;lia
noncomputable abbrev Vg:SpM:=λj M Q=>∃(W:Wld) (i:Nat) (I:Isl),j=[W.mv,.str I.name]/\W.Good/\W.isl[i]?=some I/\Q I.mv M
theorem _aP:MonW Vg:=by walk_at "m"
theorem _eT(T:Txt K mg t):FnOk P w K mg base CX0 2 t.gK t.dH ["world","name"] (liSp K Vg):=by
 refine T.bw.F.okM _ew (fC (G:=OG) (Φ:=[("one_called",HB)]) T rfl (fMc ⟨_9q,nl0⟩) (fMc ⟨fE T.bZ (_dK T),nl0⟩)) G6 _ft (fun y M Q h=>?_) (fun y M Q h=>?_)
 .obtain⟨_,_,_,rfl,_⟩:=h;rfl
 obtain⟨W,i,I,rfl,G,l,q⟩:=h;show wSs _ _ _ [some W.mv,some (.str I.name)] M;delta G6 OF;rw[Wld.mv];simp!;refine⟨W.ins,W.isl.map Isl.mv,I.name,i,I.mv,rfl,λj u z=>?_,G.in_nd,_U l,by rw[Xr,l];rfl,q⟩
 obtain⟨m,rfl⟩:=YF z;exact⟨_,_,rfl,_U (X7 m)⟩
def SN(w:Nat)(o:Option Stp)(ρ:Str->Int)(v:MV):Prop:=v=UK o\/(∃f T,o=some (.give f T)/\v=askO o ρ w)\/∃(f x:Str) (n:Nat),o=some (.take f x)/\n<2^w/\v=.tup [.str "take",.str f,.int n]
theorem RunAt.tick{M:MH}{W:Wld}{r:Addr}{R:RunS}{y mm':Nat->Int}(h:RunAt M W r R y)(c:∀i,i<W.fer.length->y i<=mm' i)(m:Int):RunAt (updM M r (runO W {R with m:=m})) W r {R with m:=m} mm'/\Kept M (updM M r (runO W {R with m:=m})) r R {R with m:=m}:=by
 have q:∀a l,M a=some (.dic l)->a≠r:=λa l e z=>by subst z;rw[h.ob]at e;cases e
 have d:∀a l,M a=some (.dic l)->updM M r (runO W {R with m:=m}) a=some (.dic l):=λa l e=>(X8 (q a l e)).trans e;refine⟨⟨Xa,d _ _ h.hn,d _ _ h.hw,d _ _ h.hs,d _ _ h.hb,d _ _ h.hg,d _ _ h.ht,h.nl,h.wl,h.sl,h.bl,h.nb,λi I a p u=>let⟨k,e,o⟩:=h.wa i I a p u;⟨k,d _ _ e,o⟩,λj f x g L=>?_,h.sep,h.nd⟩,⟨λa o e N=>(X8 λz=>N (by simp[RunS.own,z])).trans e,λa u=>.inl u⟩⟩
 have b:=h.ba j f x g L;exact b.fr (c j (XE.mp g).1) λa u o e=>(X8 λz=>b.run h.ob (by rw[<-z];exact u)).trans e
theorem RunAt.le{M:MH}{W:Wld}{r:Addr}{R:RunS}{l mm':Nat->Int}(h:RunAt M W r R l)(u:∀i,l i<=mm' i):RunAt M W r R mm':={h with ba:=λj f x y z=>(h.ba j f x y z).fr (u j) λ_ _ _ e=>e}
theorem RunAt.off{M:MH}{W:Wld}{r:Addr}{R:RunS}{m:Nat->Int}(h:RunAt M W r R m){p:Addr}{xs:List MV}(q:M p=some (.lst xs))(g:p∉R.own r)(o:MO):RunAt (updM M p o) W r R m:=by
 have d:∀a l,M a=some (.dic l)->updM M p o a=some (.dic l):=λa l e=>(X8 λz=>by subst z;rw[q]at e;cases e).trans e
 refine⟨(X8 λz=>g (by rw[<-z];exact Yb ..)).trans h.ob,d _ _ h.hn,d _ _ h.hw,d _ _ h.hs,d _ _ h.hb,d _ _ h.hg,d _ _ h.ht,h.nl,h.wl,h.sl,h.bl,h.nb,λi I a L y=>let⟨k,e,u⟩:=h.wa i I a L y;⟨k,d _ _ e,u⟩,λj f x N c=>(h.ba j f x N c).fr (Uy _) λa y u e=>(X8 λz=>g ?_).trans e,h.sep,h.nd⟩
 rw[<-z];exact XS _ (XS _ (XS _ (XS _ (Vs.mpr ⟨x,Xu c,y⟩))))
noncomputable def atB(W:Wld)(z:Str)(k:Nat):Bool:=match W.fer[k]? with
 |some f=>decide (z=f.giver\/z=f.taker)
 |none=>false
def smpM(W:Wld)(bs:List Boat)(z:Str)(c k:Nat):MV:=match W.fer[k]?,bs[k]? with
 |some f,some a=>.tup [.str f.name,.int (smpA f z (c/2^(8*k)) a.A:Nat)]
 |_,_=>.non
def ixs(W:Wld)(z:Str)(j:Nat):List Nat:=(Xs j).filter (atB W z)
theorem DO{W:Wld}{z:Str}{j:Nat}{f:Fer}(l:W.fer[j]?=some f):atB W z j=decide (z=f.giver\/z=f.taker):=by unfold atB;rw[l]
theorem SO{W:Wld}{bs:List Boat}{z:Str}{c j:Nat}{f:Fer}{a:Boat}(l:W.fer[j]?=some f)(u:bs[j]?=some a):smpM W bs z c j=.tup [.str f.name,.int (smpA f z (c/2^(8*j)) a.A:Nat)]:=by unfold smpM;rw[l,u]
theorem _om{W:Wld}{z:Str}{j:Nat}{f:Fer}(l:W.fer[j]?=some f)(c:z=f.giver\/z=f.taker):ixs W z (j+1)=ixs W z j++[j]:=by
 unfold ixs;rw[C3,BX,List.filter_cons,DO l,decide_eq_true c];rfl
theorem _qO{W:Wld}{z:Str}{j:Nat}{f:Fer}(l:W.fer[j]?=some f)(c:¬(z=f.giver\/z=f.taker)):ixs W z (j+1)=ixs W z j:=by
 unfold ixs;rw[C3,BX,List.filter_cons,DO l,decide_eq_false c];simp
theorem _on{W:Wld}{z:Str}{j:Nat}:(ixs W z j).length<=j:=Y4 (List.length_filter_le ..) (by rw[Uq];exact Xf _)
def newA(w:Nat)(z:Str)(m:Int)(c:Nat)(o:Option Stp)(ρ:Str->Int)(k:Nat)(f:Fer)(A:Ab):Ab:=if z=f.giver\/z=f.taker then UM w f z m (c/2^(8*k)) o ρ A else A
theorem _lr{w:Nat}{z:Str}{m:Int}{c:Nat}{o:Option Stp}{ρ:Str->Int}{k:Nat}{f:Fer}{A:Ab}:(newA w z m c o ρ k f A).ws.length<=A.ws.length+1:=by
 unfold newA;split
 .unfold UM;split
  .show(if A.gives _=true then A.ws++[_]else A.ws).length<=_;split
   .rw[Ye];exact Xf _
   .exact Uw _
  .exact Uw _
 .exact Uw _
def Hit(W:Wld)(bs:List Boat)(z:Str)(o:Option Stp)(ρ:Str->Int)(k:Nat)(f:Fer)(a:Boat):Prop:=W.fer[k]?=some f/\bs[k]?=some a/\(z=f.giver\/z=f.taker)/\hitA W.w f z o ρ a.A=true
def WhatTo(W:Wld)(bs:List Boat)(z:Str)(o:Option Stp)(ρ:Str->Int)(j:Nat)(v:MV):Prop:=(v=UK o/\∀k f a,k<j->¬Hit W bs z o ρ k f a)\/∃k f a,k<j/\Hit W bs z o ρ k f a/\v=YL W.w f z o ρ a.A
theorem WhatTo.stay{W:Wld}{bs:List Boat}{z:Str}{o:Option Stp}{ρ:Str->Int}{j:Nat}{v:MV}(h:WhatTo W bs z o ρ j v)(n:∀f a,¬Hit W bs z o ρ j f a):WhatTo W bs z o ρ (j+1) v:=by
 rcases h with⟨e,h⟩|⟨k,f,a,l,h,e⟩
 .refine .inl ⟨e,λk f a l=>?_⟩;rcases E8.mp l with l|rfl
  .exact h k f a l
  .exact n f a
 .exact .inr ⟨k,f,a,Uu l,h,e⟩
def BsTo(W:Wld)(bs l:List Boat)(z:Str)(m:Int)(c:Nat)(o:Option Stp)(ρ:Str->Int)(j:Nat):Prop:=∀k f a,k<j->W.fer[k]?=some f->bs[k]?=some a->∃u,l[k]?=some u/\u.A=newA W.w z m c o ρ k f a.A
theorem BsTo.len{W:Wld}{bs l:List Boat}{z:Str}{m:Int}{c:Nat}{o:Option Stp}{ρ:Str->Int}{j:Nat}(h:BsTo W bs l z m c o ρ j)(g:l.length=W.fer.length)(r:bs.length=W.fer.length)(p:∀k,j<=k->l[k]?=bs[k]?){n:Nat} (d:∀y∈bs,y.A.ws.length<=n):∀y∈l,y.A.ws.length<=n+1:=λy L=>by
 obtain⟨k,u,rfl⟩:=Y0 L;by_cases e:k<j
 .have f:k<bs.length:=by rw[r,<-g];exact u
  obtain⟨R,q,N⟩:=h k _ _ e (X7 (by rw[<-g];exact u)) (X7 f)
  rw[X7 u]at q;cases q;rw[N];exact Y4 _lr (E9 (d _ (XQ f)))
 .have O:=(p k (Nat.le_of_not_lt e)).symm.trans (X7 u);exact Nat.le_succ_of_le (d _ (Xu O))
abbrev BF:SpM:=λz M Q=>∃(r:Addr) (W:Wld) (R:RunS) (i:Nat) (I:Isl) (c n:Nat) (o:Option Stp),z=[.ref r,.str I.name,.int c]/\W.Good/\RunAt M W r R (λ_=>R.m)/\W.isl[i]?=some I/\(∀y∈R.bs,y.A.ws.length<=900)/\R.nums[i]?=some n/\I.stps[n]?=o/\
 ∀(u:Str->Int)j l v p,RunAt l W r j (λ_=>j.m)->Kept M l r R j->j.m=R.m+1->M p=none->p∉j.own r->l p=some (.lst ((ixs W I.name W.fer.length).map (smpM W R.bs I.name c)))->BsTo W R.bs j.bs I.name R.m c o u W.fer.length->WhatTo W R.bs I.name o u W.fer.length v->Q (.tup [.str I.name,.int n,v,.ref p]) l
theorem SQ:MonW BF:=by walk_at "m"
theorem _d{z a b:Str}:inV (toV (.str z)) ([MV.str a,.str b].map toV)=decide (z=a\/z=b):=by
 have:=GJ (z:=z) (zs:=[a,b])
 simpa using this
set_option tactic.hygienic true in
theorem _g4(T:Txt K mg t):FnOk P w K mg base CX0 53 t.cf t.bR ["self","name","choice"] (liSp K BF):=by
 refine T.dL.okM _g1 (_M (k:=52) (G:=Pe) (Φ:=[("island_of",Vg),("two_to",Zu),("what_alone",Vd),("wish",V9)]) (Ψ:=[("Run_go_on",UL),("Run_ring_ferry",Vf)]) (Χ:=[("island_of",Vg),("two_to",Zu),("what_alone",Vd),("wish",V9),("Run_go_on",UL),("Run_ring_ferry",Vf)]) rfl (_O T) (_P T) rfl (fMc ⟨_aP,(fMc ⟨Dp,(fMc ⟨_9p,(fMc ⟨_g7,(fMc ⟨_aR,(fMc ⟨_5J,nl0⟩)⟩)⟩)⟩)⟩)⟩) (fMc ⟨fE T.bw (_eT T),(fMc ⟨fE T.aB (Dq T),(fMc ⟨fE T.bz (_dJ T),(fMc ⟨fE T.bD (_nY T),nl0⟩)⟩)⟩)⟩) (fMc ⟨⟨_,_,rfl,_,_,_,_,(FnOk.mono (_eZ T) (by decide)),T.ab,T.ac,T.gA,T.fI⟩,(fMc ⟨⟨_,_,rfl,_,_,_,_,(FnOk.mono (_9n T) (by decide)),T.ab,T.ac,T.cU,T.gR⟩,nl0⟩)⟩) nl0 (_Q T)) Gc _gB (fun vs M Q h=>?_) (fun vs M Q h=>?_)
 .obtain⟨_,_,_,_,_,_,_,_,rfl,_⟩:=h;rfl
 obtain⟨r,W,R,i,I,c,n,o,rfl,G,h,hI,hL,hn,ho,q⟩:=h;show wSs _ _ _ [some (.ref r),some (.str I.name),some (.int c),none,none,none,none,none,none,none,none] M;have hi:i<W.isl.length:=(XE.mp hI).1;have im:I∈W.isl:=Xu hI;have ok:=G.io I im;have f6:=G.f6;obtain⟨a,H⟩:∃a,R.ws[i]?=some a:=⟨_,X7 (by rw[h.wl];exact hi)⟩
 obtain⟨B,d,wk⟩:=h.wa i I a hI H;have ob:=h.ob;have hpn:=h.hn;have hpw:=h.hw;have vn:=h.nml G hI hn;have vw:=h.wdl G hI H;delta Gc Pd
 simp![ob,runO,valM]
 refine⟨W,i,I,rfl,G,hI,?_⟩
 simp![Isl.mv]
 delta Pc
 simp![ob,runO,valM,hpn,vn]
 delta Pb
 simp![ob,runO,valM,Wld.mv,hpw,vw]
 refine⟨_,a,I.stps,n,W.w,B,rhoK B,I.vars,rfl,.inl rfl,λs hs=>SK (ok.st s hs),h.nb i I n hI hn,G.w1,G.w2,d,wk.reads ok.nd,?_⟩;rw[_r9];rw[ho];have hE:∀s,o=some s->Z5 W.fer I.name s:=λs e=>G.en I im s (Xu (ho.trans e));have hT:∀g T,o=some (.give g T)->0<=T.val (rhoK B) W.w/\T.val (rhoK B) W.w<2^W.w:=λg T e=>T.val_in G.w1 λy hy=>(wk.at ok.nd ((ok.st _ (Xu (ho.trans e))).2.2.2 y hy)).2;generalize rhoK B=ρ at*;delta Pa;simp!;refine⟨o,ρ,W.w,rfl,?_⟩;delta P9;simp!;intro p hp;have s1:=SameM.new hp (.lst []);have hp1:updM M p (.lst []) p=some (.lst []):=Xa;have h1:=h.keep s1;have k1:Kept M (updM M p (.lst [])) r R R:=Kept.new s1;have own_some:∀b∈R.own r,∃u,M b=some u:=λb hb=>by
  simp only[RunS.own,Xl,Vs]at hb;rcases hb with rfl|rfl|rfl|rfl|⟨x,hx,hb⟩
  .exact⟨_,ob⟩
  .exact⟨_,hpn⟩
  .exact⟨_,hpw⟩
  .exact⟨_,h.hs⟩
  .obtain⟨j,hj,rfl⟩:=Y0 hx;obtain⟨u,e,_⟩:=(h.ba j _ _ (X7 (by rw[<-h.bl];exact hj)) (X7 hj)).at_ b hb
   exact⟨u,e⟩
 have pno:p∉R.own r:=λz=>by
  obtain⟨u,e⟩:=own_some p z;rw[hp]at e;cases e
 generalize updM M p _=M1 at*;have ob1:=h1.ob;delta P8
 simp![ob1,runO,valM,Wld.mv,Xb]
 obtain⟨J,hJ⟩:∃J:Nat->Sm->MH->Prop,∀j σ M',J j σ M'↔∃(bs:List Boat) (v:MV) (L N l:Option MV),RunAt M' W r {R with bs:=bs} (λk=>if k<j then R.m+1 else R.m)/\Kept M M' r R {R with bs:=bs}/\SN W.w o ρ v/\WhatTo W R.bs I.name o ρ j v/\M' p=some (.lst ((ixs W I.name j).map (smpM W R.bs I.name c)))/\p∉RunS.own {R with bs:=bs} r/\(∀k,j<=k->bs[k]?=R.bs[k]?)/\BsTo W R.bs bs I.name R.m c o ρ j/\
  σ=[some (.ref r),some (.str I.name),some (.int c),some (.tup (I.stps.map Stp.mv)),some (.int n),some (askO o ρ W.w),some v,some (.ref p),L,N,l]:=⟨_,λ_ _ _=>Y8⟩
 refine⟨by lia,by lia,J,(hJ _ _ _).mpr ⟨R.bs,_,_,_,_,by simpa using h1,k1,.inl rfl,.inl ⟨rfl,λk f a d=>absurd d (VB _)⟩,hp1,pno,λ_ _=>rfl,λk f a d=>absurd d (VB _),rfl⟩,λj σ M' h=>trivial,?_,?_⟩
 .rintro j y σ M2 hy hj;obtain⟨bs,v,L,N,l,hR,hK,hv,hw,O,Y,Z,U,rfl⟩:=(hJ _ _ _).mp hj;obtain⟨C,rfl⟩:=Bm hy;have C:j<W.fer.length:=by simpa using C
  have ej:((0:Int)+(j:Nat))=(j:Nat):=by lia
  have S:W.fer[j]?=some W.fer[j]:=X7 C;generalize W.fer[j]=f at*;have bl1:bs.length=W.fer.length:=hR.bl;obtain⟨x,hx⟩:∃x,bs[j]?=some x:=⟨_,X7 (by rw[bl1];exact C)⟩
  have hx0:R.bs[j]?=some x:=(Z j (Xf _)).symm.trans hx;have xl:=_on (W:=W) (z:=I.name) (j:=j);have ob2:=hR.ob;have af:atI (W.fer.map Fer.mv) (j:Int)=some f.mv:=Yp (by rw[Xr,S];rfl)
  rw[ej];delta P7
  simp![ob2,runO,valM,Wld.mv,af]
  delta P6
  simp![Fer.mv]
  refine⟨rfl,rfl,?_⟩;rw[_d];simp!;refine Y3 (λcz=>?_) (λcz=>?_)
  .delta P5
   simp![ob2,runO,valM]
   have e8:(8:Int)*(j:Int)=((8*j:Nat):Int):=by lia
   rw[e8];refine⟨8*j,rfl,by lia,?_⟩
   simp!;have hc2:(c:Int)/2^(8*j)=((c/2^(8*j):Nat):Int):=by rw[Int.natCast_ediv,Wv];rfl
   rw[hc2];refine⟨⟨W8 _,Int.lt_of_le_of_lt (Rw (by lia)) (by decide)⟩,?_⟩
   refine⟨r,W,{R with bs:=bs},_,j,f,I.name,_,o,ρ,x,rfl,G,hR,by simp,S,cz,hE,hT,λy hy=>Y4 (U.len bl1 h.bl Z hL y hy) (by decide),hx,λy X a3 a4 eA a5=>?_⟩
   have a3:RunAt X W r {R with bs:=bs.set j y} (λi=>if i=j then R.m+1 else if i<j then R.m+1 else R.m):=a3;have a4:Kept M2 X r {R with bs:=bs} {R with bs:=bs.set j y}:=a4;have hp3:=a4.fr _ _ O Y;have pno2:p∉RunS.own {R with bs:=bs.set j y} r:=λz=>by
    rcases a4.nw p z with y|y
    .exact Y y
    .rw[O]at y;cases y
   have a3':RunAt X W r {R with bs:=bs.set j y} (λk=>if k<j+1 then R.m+1 else R.m):=a3.le λk=>by
    by_cases e1:k=j
    .subst e1;rw[if_pos rfl,if_pos (VA _)];exact Uy _
    .rw[if_neg e1];by_cases e2:k<j
     .rw[if_pos e2,if_pos (by lia)];exact Uy _
     .rw[if_neg e2,if_neg (by lia)];exact Uy _
   have k3:=hK.trans a4;delta P4
   simp![Fer.mv,hp3]
   refine⟨⟨_,rfl⟩,by rw[Xb];lia,?_⟩
   have es:(ixs W I.name j).map (smpM W R.bs I.name c)++[.tup [.str f.name,.int (smpA f I.name (c/2^(8*j)) x.A:Nat)]]=(ixs W I.name (j+1)).map (smpM W R.bs I.name c):=by rw[_om S cz,XX,<-SO S hx0];rfl
   rw[es];have r4:=a3'.off hp3 pno2 (.lst ((ixs W I.name (j+1)).map (smpM W R.bs I.name c)));have p4:updM X p (.lst ((ixs W I.name (j+1)).map (smpM W R.bs I.name c))) p=some (.lst ((ixs W I.name (j+1)).map (smpM W R.bs I.name c))):=Xa;have k4:Kept M (updM X p (.lst ((ixs W I.name (j+1)).map (smpM W R.bs I.name c)))) r R {R with bs:=bs.set j y}:=⟨λb u e hb=>(X8 (neM e hp)).trans (k3.fr b u e hb),k3.nw⟩;generalize updM X p _=A at*;have bs4:∀k,j+1<=k->(bs.set j y)[k]?=R.bs[k]?:=λk d=>(BV (by lia)).trans (Z k (by lia))
   have to4:BsTo W R.bs (bs.set j y) I.name R.m c o ρ (j+1):=λk g a d E H=>by
    rcases E8.mp d with d|rfl
    .obtain⟨a',h1,h2⟩:=U k g a d E H;exact⟨a',(BV (by lia)).trans h1,h2⟩
    .rw[S]at E;cases E;rw[hx0]at H;cases H;exact⟨y,by rw[DS (by rw[bl1];exact C)],by rw[eA,newA,if_pos cz]⟩
   have fin:∀v3 w8 w9 w10,SN W.w o ρ v3->WhatTo W R.bs I.name o ρ (j+1) v3->J (j+1) [some (.ref r),some (.str I.name),some (.int c),some (.tup (I.stps.map Stp.mv)),some (.int n),some (askO o ρ W.w),some v3,some (.ref p),w8,w9,w10] A:=λv3 w8 w9 w10 hv3 hw3=>(hJ _ _ _).mpr ⟨_,v3,w8,w9,w10,r4,k4,hv3,hw3,p4,pno2,bs4,to4,rfl⟩;delta P3;by_cases hh:hitA W.w f I.name o ρ x.A=true
   .have wt:WhatTo W R.bs I.name o ρ (j+1) (YL W.w f I.name o ρ x.A):=.inr ⟨j,f,x,VA _,⟨S,hx0,cz,hh⟩,rfl⟩;rcases a5 with e|⟨T,eo,e⟩|⟨y,m,eo,hm,e⟩
    .rw[YL,if_pos hh]at e;split at e
     .rename_i eg
      rw[e]at fin ⊢;cases o with
      |none=>rw[hitA,if_pos eg]at hh;cases hh
      |some s=>cases s<;>cases e
     .cases e
    .rw[e]at wt ⊢;have ea:askO o ρ W.w=.tup [.str "give",.str f.name,.int (T.val ρ W.w)]:=by rw[eo];rfl
     simp![ea]
     delta Gb;simp!;have:=fin (askO o ρ W.w) (some (.int (j:Int))) (some f.mv) (some (.tup [askO o ρ W.w,.int (smpA f I.name (c/2^(8*j)) x.A:Nat)])) (.inr (.inl ⟨_,T,eo,rfl⟩)) wt;rw[ea]at this;exact this
    .rw[e]at wt ⊢;simp!;delta Gb;simp!;exact fin _ _ _ _ (.inr (.inr ⟨_,y,m,eo,hm,rfl⟩)) wt
   .have et:YL W.w f I.name o ρ x.A=.non:=if_neg hh;rw[et];simp!;exact fin _ _ _ _ hv (hw.stay λg a E=>hh (by
     obtain⟨z1,z2,_,z4⟩:=E;rw[S]at z1;cases z1;rw[hx0]at z2;cases z2;exact z4))
  .refine(hJ _ _ _).mpr ⟨bs,v,_,_,_,hR.le λk=>?_,hK,hv,hw.stay λg a E=>cz (by
     obtain⟨z1,_,z3,_⟩:=E;rw[S]at z1;cases z1;exact z3),by rw[_qO S cz];exact O,Y,λk d=>Z k (by lia),λk g a d E H=>?_,rfl⟩
   .show(if k<j then R.m+1 else R.m)<=(if k<j+1 then R.m+1 else R.m);by_cases e2:k<j
    .rw[if_pos e2,if_pos (by lia)];exact Uy _
    .rw[if_neg e2];by_cases e3:k<j+1
     .rw[if_pos e3];lia
     .rw[if_neg e3];exact Uy _
   .rcases E8.mp d with d|rfl
    .exact U k g a d E H
    .rw[S]at E;cases E;exact⟨a,(Z k (Xf _)).trans H,by rw[newA,if_neg cz]⟩
 .rintro σ M2 hj;obtain⟨bs,v,L,N,l,hR,hK,hv,hw,O,Y,Z,U,rfl⟩:=(hJ _ _ _).mp hj;have hw:WhatTo W R.bs I.name o ρ W.fer.length v:=hw;have U:BsTo W R.bs bs I.name R.m c o ρ W.fer.length:=U;have O:M2 p=some (.lst ((ixs W I.name W.fer.length).map (smpM W R.bs I.name c))):=O;have ob2:=hR.ob;obtain⟨t1,t2⟩:=hR.tick (mm':=λ_=>R.m+1) (λk d=>by show(if _ then _ else _)<=_;split<;>lia) (R.m+1)
  have k2:=hK.trans t2;have pr:p≠r:=λz=>Y (by rw[z];exact Yb ..)
  delta P2
  simp![ob2,runO,valM,putM]
  have eo:updM M2 r (runO W {R with bs:=bs,m:=R.m+1})=updM M2 r (.ins "Run" [("world",W.mv),("moment",.int (R.m+1)),("next_numbers",.ref R.pn),("words_now",.ref R.pw),("steps_so_far",.ref R.ps),("boats",.ref R.pb),("given_so_far",.ref R.pg),("taken_so_far",.ref R.pt)]):=rfl;have px:updM M2 r (runO W {R with bs:=bs,m:=R.m+1}) p=_:=(X8 pr).trans O;rw[eo]at t1 k2 px;have F:p∉RunS.own {R with bs:=bs,m:=R.m+1} r:=Y;generalize updM M2 r _=X at*;have ret:∀(R3:RunS)(A:MH)(D:EndM),D.rt=Q->RunAt A W r R3 (fun _=>R3.m)->Kept M A r R R3->R3.m=R.m+1->R3.bs=bs->p∉R3.own r->A p=some (.lst ((ixs W I.name W.fer.length).map (smpM W R.bs I.name c)))->∀L N l,wSs ([("island_of",Vg),("two_to",Zu),("what_alone",Vd),("wish",V9),("Run_go_on",UL),("Run_ring_ferry",Vf)]:List (Str×SpM)) Bj D [some (.ref r),some (.str I.name),some (.int c),some (.tup (I.stps.map Stp.mv)),some (.int n),some (askO o ρ W.w),some v,some (.ref p),L,N,l] A:=by
   intro R3 A D hD a1 a2 a3 a4 a5 a6 L N l;delta Bj;simp!;rw[hD];exact q ρ R3 A _ p a1 a2 a3 hp a5 a6 (a4▸U) hw
  have stay:∀D:EndM,D.rt=Q->∀L N l,wSs ([("island_of",Vg),("two_to",Zu),("what_alone",Vd),("wish",V9),("Run_go_on",UL),("Run_ring_ferry",Vf)]:List (Str×SpM)) Bj D [some (.ref r),some (.str I.name),some (.int c),some (.tup (I.stps.map Stp.mv)),some (.int n),some (askO o ρ W.w),some v,some (.ref p),L,N,l] X:=fun D hD=>ret {R with bs:=bs,m:=R.m+1} X D hD t1 k2 rfl rfl F px;have ob3:=t1.ob;have go:∀(s:Stp)(wd:MV),o=some s->(∀f x,s=.take f x->∃v:Int,wd=.int v/\0<=v/\v<2^W.w)->∀L N l,UL [.ref r,.str I.name,.tup (I.stps.map Stp.mv),wd] X (fun _ A=>wSs ([("island_of",Vg),("two_to",Zu),("what_alone",Vd),("wish",V9),("Run_go_on",UL),("Run_ring_ferry",Vf)]:List (Str×SpM)) Bj {nx:=fun _ M'=>Q .non M',rt:=Q} [some (.ref r),some (.str I.name),some (.int c),some (.tup (I.stps.map Stp.mv)),some (.int n),some (askO o ρ W.w),some v,some (.ref p),L,N,l] A):=fun s wd es hw L N l=>
   ⟨r,W,{R with bs:=bs,m:=R.m+1},_,i,n,I,s,wd,rfl,G,t1,hI,hn,ho.trans es,hw,λR' A e1 e2 a1 a2=>ret R' A _ rfl (a1.le λ_=>Int.le_of_eq e1.symm) (k2.trans a2) e1 e2 (λz=>(a2.nw p z).elim F λy=>by rw[px]at y;cases y) (a2.fr _ _ px F) L N l⟩
  delta P1;rcases hv with rfl|⟨f,T,es,rfl⟩|⟨f,y,m,es,hm,rfl⟩
  .rcases o with _|s
   .simp only[UK]at stay ⊢;simp!;refine⟨rfl,rfl,?_⟩;rw[_d];simp!;exact stay _ rfl _ _ _
   .cases s with
    |take f x=>
     simp only[UK]at stay ⊢;simp!;refine⟨rfl,rfl,?_⟩;rw[_d];simp!;exact stay _ rfl _ _ _
    |give f T=>
     simp only[UK]at stay ⊢;simp!;refine⟨rfl,rfl,?_⟩;rw[_d];simp!;exact stay _ rfl _ _ _
    |put x T=>
     have:=go _ .non rfl (λf x e=>nomatch e) L N l;simp only[UK]at this ⊢;simp!;refine⟨rfl,rfl,?_⟩;rw[_d];simp!;delta Bl
     simp![ob3,runO,valM]
     exact this
    |jump T x=>
     have:=go _ .non rfl (λf x e=>nomatch e) L N l;simp only[UK]at this ⊢;simp!;refine⟨rfl,rfl,?_⟩;rw[_d];simp!;delta Bl
     simp![ob3,runO,valM]
     exact this
  .have this:=go _ .non es (λf x e=>nomatch e) L N l;have ea:askO o ρ W.w=.tup [.str "give",.str f,.int (T.val ρ W.w)]:=by rw[es];rfl
   rw[ea]at this ⊢;simp!;refine⟨rfl,rfl,?_⟩;rw[_d];simp!;delta Bl
   simp![ob3,runO,valM]
   exact this
  .have this:=go _ (.int (m:Int)) es (λf x e=>⟨_,rfl,by lia,by
    have e:((2:Int)^W.w)=((2^W.w:Nat):Int):=by rw[Wv];rfl
    lia⟩) L N l
   simp!;refine⟨rfl,rfl,?_⟩;rw[_d];simp!;delta Bl
   simp![ob3,runO,valM]
   exact this
theorem SR{w:Nat}{I:Isl}(l:I.vars.Nodup)(wd:∀p∈I.prs,0<=p.2/\p.2<2^w):Yj (I.prs.map λp=>((Xm p.1:Key),MV.int p.2))=zipK I.vars ((I.prs.map (·.2)).map MV.int)/\WdOk w I (zipK I.vars ((I.prs.map (·.2)).map MV.int)):=by
 have e:∀j:List (Str×Int),(j.map λp=>((Xm p.1:Key),MV.int p.2))=zipK (j.map (·.1)) ((j.map (·.2)).map MV.int):=λj=>by
  induction j with
  |nil=>rfl
  |cons p r u=>rw[Xx,u];rfl
 refine⟨by rw[e];exact Hv (by simp) l,I.prs.map (·.2),by unfold Isl.vars;simp,rfl,λv y=>?_⟩
 obtain⟨p,z,rfl⟩:=XT.mp y;exact wd p z
theorem _qd(ps:List (Str×Int)):ps.map prV=(ps.map λp=>((Xm p.1:Key),MV.int p.2)).map prM:=by rw[Yu];rfl
theorem SS:∀{ks:List Str} {vs ys:List MV},vs.length=ks.length->ys.length=ks.length->(∀(j:Nat)k v,ks[j]?=some k->vs[j]?=some v->ys[j]?=some (.tup [.str k,v]))->ys=(zipK ks vs).map prM
 |[],[],[],_,_,_=>rfl
 |[],_::_,_,h,_,_=>by cases h
 |[],_,_::_,_,h,_=>by cases h
 |_::_,[],_,h,_,_=>by cases h
 |_::_,_,[],_,h,_=>by cases h
 |k::ks,v::vs,y::ys,h1,h2,h=>by
  have e:=h 0 k v rfl rfl;have e:y=.tup [.str k,v]:=by simpa using e
  rw[e,SS (ks:=ks) (vs:=vs) (ys:=ys) (by simpa using h1) (by simpa using h2) λj k v a b=>by simpa using h (j+1) k v (by simpa using a) (by simpa using b)]
  rfl
theorem FrM.grow{M M1 M2:MH}{l:List Addr}(h:FrM M M1 l)(s:SameM M1 M2):FrM M M2 l:=λa o e n=>s a o (h a o e n)
theorem CU{l u:Type}{d:l}{f:l->u}{L:List l}{n:Nat}(h:L.length=n):(Xs n).map (λj=>f (L.getD j d))=L.map f:=by
 apply BY;intro i;rw[Xr,Xr];by_cases hi:i<n
 .rw[Wk hi,X7 (by rw[h];exact hi),CF,CF,Ya,X7 (by rw[h];exact hi)];rfl
 .rw[Zi (by rw[Uq];lia),Zi (by lia)];rfl
def abOf(W:Wld)(j:Nat):Ab:=match W.fer[j]? with
 |some f=>ab0 f.k f.st
 |none=>ab0 0 1
def Ze(W:Wld)(l:List (List Addr))(gs u:List Addr)(j:Nat):Boat:=⟨(l.getD j []).getD 0 default,(l.getD j []).getD 1 default,(l.getD j []).getD 2 default,(l.getD j []).getD 3 default,gs.getD j default,u.getD j default,abOf W j⟩
theorem SU:∀{L:List (List Addr)} {i j:Nat} {x y:List Addr},L.flatten.Nodup->L[i]?=some x->L[j]?=some y->i≠j->∀a∈x,a∉y
 |[],_,_,_,_,_,h,_,_=>by simp at h
 |l::L,0,0,_,_,_,_,_,ne=>absurd rfl ne
 |l::L,0,j+1,x,y,nd,h1,h2,_=>λa u z=>by
  rw[ZE,Zj]at nd;obtain rfl:l=x:=by simpa using h1
  exact nd.2.2 a u a (Vr.mpr ⟨y,Xu (by simpa using h2),z⟩) rfl
 |l::L,i+1,0,x,y,nd,h1,h2,_=>λa u z=>by
  rw[ZE,Zj]at nd;obtain rfl:l=y:=by simpa using h2
  exact nd.2.2 a z a (Vr.mpr ⟨x,Xu (by simpa using h1),u⟩) rfl
 |l::L,i+1,j+1,x,y,nd,h1,h2,ne=>by
  rw[ZE,Zj]at nd;exact SU nd.2.1 (by simpa using h1) (by simpa using h2) (λe=>ne (by rw[e]))
theorem _W{L:List Addr}{j:Nat}(h:j<L.length):L.getD j default∈L/\L[j]?=some (L.getD j default):=by
 rw[Ya,X7 h];exact⟨XQ h,rfl⟩
theorem SV{L:List Addr}(u:L.Nodup){i j:Nat}(l:i<L.length)(y:j<L.length)(z:i≠j):L.getD i default≠L.getD j default:=λe=>by
 have:=(Vq l u).mp ((_W l).2.trans ((congrArg some e).trans (_W y).2.symm));exact z this
abbrev BG:SpM:=fun u M Q=>∃(r:Addr) (W:Wld),u=[.ref r,W.mv]/\M r=some (.ins "Run" [])/\W.Good/\∀R l,FrM M l [r]->RunAt l W r R (fun _=>R.m)->R.m=0->(∀(j:Nat)f y,W.fer[j]?=some f->R.bs[j]?=some y->y.A=ab0 f.k f.st)->(∀a∈R.own r,a=r\/M a=none)->Q .non l
theorem SW:MonW BG:=by walk_at "m"
theorem _bt(T:Txt K mg t):FnOk P w K mg base CX0 6 t.aS t.c9 ["self","world"] (liSp K BG):=by
 refine T.eB.okM _bg (_M (k:=5) (G:=P0) (Φ:=[]) (Ψ:=[("Ferry___init__",Bw)]) (Χ:=[("Ferry___init__",Bw)]) rfl (_O T) (_P T) rfl (fMc ⟨Sr,nl0⟩) nl0 nl0 (fMc ⟨⟨_,_,rfl,_,_,_,_,_,(by decide:4+1<=5),_9o T,T.aA,T.cN,T.cQ,T.cO⟩,nl0⟩) (_Q T)) Ga _c6 (fun vs M Q h=>?_) (fun vs M Q h=>?_)
 .obtain⟨_,_,rfl,_⟩:=h;rfl
 obtain⟨r,W,rfl,hr,G,q⟩:=h;show wSs _ _ _ [some (.ref r),some W.mv] M;have hΦ:=(UG (Φ:=[("Ferry___init__",Bw)]) (fMc ⟨Sr,nl0⟩));have i5:=G.i5;have f6:=G.f6;have dins:∀{C:List MV},C.length=W.isl.length->Yj (zipK W.ins C)=zipK W.ins C:=λe=>Hv (by rw[Ve];exact e) G.in_nd
 have dfns:∀{C:List MV},C.length=W.fer.length->Yj (zipK W.fns C)=zipK W.fns C:=λe=>Hv (by rw[_V];exact e) G.fn_nd
 delta Ga OZ
 simp![hr,putM]
 have fr0:=(FrM.refl M [r]).upd (Y1.mpr rfl) (.ins "Run" [("world",W.mv)]);have r0:updM M r (.ins "Run" [("world",W.mv)]) r=some (.ins "Run" [("world",W.mv)]):=Xa;generalize updM M r _=M0 at*;delta OY
 simp![r0,putM]
 have fr1:=fr0.upd (Y1.mpr rfl) (.ins "Run" [("world",W.mv),("moment",.int 0)]);have r1:updM M0 r (.ins "Run" [("world",W.mv),("moment",.int 0)]) r=some (.ins "Run" [("world",W.mv),("moment",.int 0)]):=Xa;generalize updM M0 r _=M1 at*;delta OX;simp!;refine _N W.isl Isl.mv (λI=>.tup [.str I.name,.int 0]) ?_ ?_ hΦ λD hD=>?_
 .simp![Wld.mv]
  exact⟨rfl,by lia,trivial⟩
 .intro I hI M' s;simp only[sCm,Xx,Yg,Yr,Ys,Ym,Y7]
  simp![Isl.mv]
  try exact⟨rfl,rfl⟩
 rw[SI W.isl (·.name) (λ_=>.int 0)];have s2:=SameM.new hD (.lst ((zipK (W.isl.map (·.name)) (W.isl.map λ_=>MV.int 0)).map prM));have d2:updM M1 D (.lst ((zipK (W.isl.map (·.name)) (W.isl.map λ_=>MV.int 0)).map prM)) D=some (.lst ((zipK (W.isl.map (·.name)) (W.isl.map λ_=>MV.int 0)).map prM)):=Xa;generalize updM M1 D _=M2 at*;simp!;refine⟨_,d2,λF hpn=>?_⟩;have e2:Yj (zipK (W.isl.map (·.name)) (W.isl.map λ_=>MV.int 0))=zipK W.ins ((W.isl.map λ_=>0).map natM):=by rw[Yu];exact dins (by rw[Xb])
 rw[e2];have s3:=s2.trans (SameM.new hpn (.dic (zipK W.ins ((W.isl.map λ_=>0).map natM))));have hn3:updM M2 F (.dic (zipK W.ins ((W.isl.map λ_=>0).map natM))) F=some (.dic (zipK W.ins ((W.isl.map λ_=>0).map natM))):=Xa;have rpn:F≠r:=(neM (s2 _ _ r1) hpn).symm;have f_pn:M1 F=none:=s2.free hpn;generalize updM M2 F _=M3 at*;have r3:=s3 _ _ r1
 simp![r3,putM]
 obtain⟨X,E⟩:∃X,X=MO.ins "Run" [("world",W.mv),("moment",.int 0),("next_numbers",.ref F)]:=⟨_,rfl⟩;rw[<-E];have fr4:=(fr1.grow s3).upd (Y1.mpr rfl) X;have r4:updM M3 r X r=some X:=Xa;have hn4:updM M3 r X F=_:=(X8 rpn).trans hn3;generalize updM M3 r _=M4 at*;subst E;delta OW;simp!;refine Hw W.isl Isl.mv (·.name) (λI=>.dic (zipK I.vars ((I.prs.map (·.2)).map MV.int))) (λM'=>M'=M4) ?_ ?_ hΦ λD5 J M5 hD5 s5 wl wnd Dn5 wfree wat hd5=>?_
 .simp![Wld.mv]
  first|exact .inl ⟨trivial,rfl⟩|exact⟨rfl,by lia,.inl ⟨trivial,rfl⟩,rfl⟩|exact⟨rfl,by lia,.inl ⟨trivial,rfl⟩⟩|exact⟨by lia,.inl ⟨trivial,rfl⟩⟩|exact⟨rfl,.inl ⟨trivial,rfl⟩⟩
 .intro I hI Ma M' e s;have ok:=G.io I hI;simp only[sCm,Xx,Yg,Yr,Ys,Ym,Y7]
  simp![Isl.mv]
  refine⟨_,_qd I.prs,λp hp=>?_⟩;exact⟨p,hp,rfl,by rw[(SR (w:=W.w) ok.nd ok.wd).1]⟩
 simp!;refine⟨_,hd5,λS hpw=>?_⟩;have e5:Yj (zipK (W.isl.map (·.name)) (J.map MV.ref))=zipK W.ins (J.map MV.ref):=dins (by rw[Xb];exact wl)
 rw[e5];have s6:=s5.trans (SameM.new hpw (.dic (zipK W.ins (J.map MV.ref))));have hw6:updM M5 S (.dic (zipK W.ins (J.map MV.ref))) S=some (.dic (zipK W.ins (J.map MV.ref))):=Xa;have jT:∀(j:Nat)a x,J[j]?=some a->W.isl[j]?=some x->updM M5 S (.dic (zipK W.ins (J.map MV.ref))) a=some (.dic (zipK x.vars ((x.prs.map (·.2)).map MV.int))):=λj a x h1 h2=>SameM.new hpw _ _ _ (wat j a x h1 h2);have wpw:S∉J:=λz=>by
  obtain⟨j,O,e⟩:=Y0 z;have:=wat j _ _ (X7 O) (X7 (by rw[<-wl];exact O))
  rw[e,hpw]at this;cases this
 have rpw:S≠r:=(neM (s5 _ _ r4) hpw).symm;have rws:∀a∈J,a≠r:=λa l=>(neM r4 (wfree a l)).symm;have jU:M4 S=none:=s5.free hpw;generalize updM M5 S _=M6 at*;have r6:=s6 _ _ r4;have hn6:=s6 _ _ hn4;have wpn:F∉J:=λz=>absurd hn4 (by rw[wfree _ z];intro y;cases y)
 have pnw:F≠S:=neM hn4 jU
 simp![r6,putM]
 obtain⟨X,E⟩:∃X,X=MO.ins "Run" [("world",W.mv),("moment",.int 0),("next_numbers",.ref F),("words_now",.ref S)]:=⟨_,rfl⟩;rw[<-E];have fr7:=(fr4.grow s6).upd (Y1.mpr rfl) X;have r7:updM M6 r X r=some X:=Xa;have hn7:updM M6 r X F=_:=(X8 rpn).trans hn6;have hw7:updM M6 r X S=_:=(X8 rpw).trans hw6;have jM:∀(j:Nat)a x,J[j]?=some a->W.isl[j]?=some x->updM M6 r X a=some (.dic (zipK x.vars ((x.prs.map (·.2)).map MV.int))):=λj a x h1 h2=>(X8 (rws a (Xu h1))).trans (jT j a x h1 h2);generalize updM M6 r _=M7 at*;subst E;delta OV;simp!;refine _N W.isl Isl.mv (λI=>.tup [.str I.name,.int 0]) ?_ ?_ hΦ λD8 hD8=>?_
 .simp![Wld.mv]
  exact⟨rfl,by lia,trivial⟩
 .intro I hI M' s;simp only[sCm,Xx,Yg,Yr,Ys,Ym,Y7]
  simp![Isl.mv]
  try exact⟨rfl,rfl⟩
 rw[SI W.isl (·.name) (λ_=>.int 0)];have s8:=SameM.new hD8 (.lst ((zipK (W.isl.map (·.name)) (W.isl.map λ_=>MV.int 0)).map prM));have d8:updM M7 D8 (.lst ((zipK (W.isl.map (·.name)) (W.isl.map λ_=>MV.int 0)).map prM)) D8=some (.lst ((zipK (W.isl.map (·.name)) (W.isl.map λ_=>MV.int 0)).map prM)):=Xa;generalize updM M7 D8 _=M8 at*;simp!;refine⟨_,d8,λC hps=>?_⟩;rw[e2];have s9:=s8.trans (SameM.new hps (.dic (zipK W.ins ((W.isl.map λ_=>0).map natM))));have hs9:updM M8 C (.dic (zipK W.ins ((W.isl.map λ_=>0).map natM))) C=some (.dic (zipK W.ins ((W.isl.map λ_=>0).map natM))):=Xa;have rps:C≠r:=(neM (s8 _ _ r7) hps).symm;have jE:M7 C=none:=s8.free hps;generalize updM M8 C _=M9 at*;have r9:=s9 _ _ r7;have hn9:=s9 _ _ hn7;have hw9:=s9 _ _ hw7;have pns:F≠C:=neM hn7 jE;have pws:S≠C:=neM hw7 jE;have wps:C∉J:=λz=>by
  obtain⟨j,O,e⟩:=Y0 z;have:=jM j _ _ (X7 O) (X7 (by rw[<-wl];exact O))
  rw[e,jE]at this;cases this
 simp![r9,putM]
 obtain⟨X,E⟩:∃X,X=MO.ins "Run" [("world",W.mv),("moment",.int 0),("next_numbers",.ref F),("words_now",.ref S),("steps_so_far",.ref C)]:=⟨_,rfl⟩;rw[<-E];have jV:=(fr7.grow s9).upd (Y1.mpr rfl) X;have r10:updM M9 r X r=some X:=Xa;have jv:∀a o,M9 a=some o->a≠r->updM M9 r X a=some o:=λa o e z=>(X8 z).trans e;generalize updM M9 r _=M10 at*;subst E;have jW:=jv _ _ hn9 rpn;have jX:=jv _ _ hw9 rpw;have jY:=jv _ _ hs9 rps;have jL:∀(j:Nat)a x,J[j]?=some a->W.isl[j]?=some x->M10 a=some (.dic (zipK x.vars ((x.prs.map (·.2)).map MV.int))):=λj a x h1 h2=>jv _ _ (s9 _ _ (jM j a x h1 h2)) (rws a (Xu h1));clear jv s9 s8 s6 s5 s3 s2 jM jT wat d8 d2 hd5 r9 r7 r6 r4 r3 hn9 hn7 hn6 hn4 hn3 hw9 hw7 hw6 hs9;delta OU;simp!;refine SJ W.fer Fer.mv (λf y N M2=>∃b p g u,N=[b,p,g,u]/\y=.tup [.str f.name,.ref b]/\FyAt M2 b p g u (ab0 f.k f.st)) (λM'=>M'=M10) ?_ ?_ ?_ hΦ λD11 ys B M11 hD11 s11 yl Nl Nnd DN Nfree Nat_ hd11=>?_
 .rintro f y N M2 M3 hk ⟨b,p,g,u,rfl,e1,R⟩;obtain⟨pl,hp,H⟩:=R.pls;exact⟨b,p,g,u,rfl,e1,⟨R.ok,(hk b (by simp)).trans R.fe,⟨pl,(hk p (by simp)).trans hp,H⟩,(hk g (by simp)).trans R.gi,(hk u (by simp)).trans R.ta,R.ne⟩⟩
 .simp![Wld.mv]
  first|exact .inl ⟨trivial,rfl⟩|exact⟨rfl,by lia,.inl ⟨trivial,rfl⟩,rfl⟩|exact⟨rfl,by lia,.inl ⟨trivial,rfl⟩⟩|exact⟨by lia,.inl ⟨trivial,rfl⟩⟩|exact⟨rfl,.inl ⟨trivial,rfl⟩⟩
 .intro f hf Ma M' e s;have fo:=G.fo f hf;simp only[sCm,Xx,Yg,Yr,Ys,Ym,Y7]
  simp![Fer.mv]
  intro b hb;refine⟨b,f.k,f.st,rfl,Xa,by have:=fo.k3;lia,fo.s1,fo.s3,λp g u M3 hp hg hu fr R=>?_⟩
  have fb:updM M' b (.ins "Ferry" []) b=some (.ins "Ferry" []):=Xa;have ne:∀z,updM M' b (.ins "Ferry" []) z=none->z≠b/\M' z=none:=fun z hz=>by
   have n:z≠b:=(neM fb hz).symm;exact⟨n,by rw[X8 n]at hz;exact hz⟩
  obtain⟨pl,H,_⟩:=R.pls;have pg:p≠g:=λz=>by rw[z,R.gi]at H;cases H
  have pu:p≠u:=λz=>by rw[z,R.ta]at H;cases H
  have sm:SameM M' M3:=λa o ea=>by
   have n:a≠b:=neM ea hb;exact fr a o ((X8 n).trans ea) (by simpa using n)
  try simp!
  refine⟨sm,[b,p,g,u],?_,λa l=>?_,b,p,g,u,rfl,rfl,R⟩
  .simp only[YI,Xl,XI,or_false,not_or,not_false_eq_true,C4,and_true];exact⟨⟨(ne p hp).1.symm,(ne g hg).1.symm,(ne u hu).1.symm⟩,⟨pg,pu⟩,R.ne⟩
  .simp only[Xl,XI,or_false]at l;rcases l with rfl|rfl|rfl|rfl
   .exact⟨hb,_,R.fe⟩
   .exact⟨(ne _ hp).2,_,H⟩
   .exact⟨(ne _ hg).2,_,R.gi⟩
   .exact⟨(ne _ hu).2,_,R.ta⟩
 have eys:ys=(zipK W.fns (B.map λN=>MV.ref (N.getD 0 default))).map prM:=by
  refine SS (by rw[Xb,_V];exact Nl) (by rw[_V];exact yl) λj k v hk hv=>?_
  have O:j<W.fer.length:=by rw[<-_V];exact(XE.mp hk).1
  have hfj:=X7 O;rw[Uj hfj]at hk;cases hk;have U:=X7 (show j<B.length by rw[Nl];exact O)
  have hY:=X7 (show j<ys.length by rw[yl];exact O)
  rw[Xr,U]at hv;cases hv;obtain⟨b,p,g,u,eN,ey,_⟩:=Nat_ j _ _ _ hfj hY U;rw[hY,ey,eN];rfl
 rw[eys]at hd11;simp!;refine⟨_,hd11,λpb hpb=>?_⟩;rw[dfns (by rw[Xb];exact Nl)]
 have s12:=s11.trans (SameM.new hpb (.dic (zipK W.fns (B.map λN=>MV.ref (N.getD 0 default)))));have hb12:updM M11 pb (.dic (zipK W.fns (B.map λN=>MV.ref (N.getD 0 default)))) pb=some (.dic (zipK W.fns (B.map λN=>MV.ref (N.getD 0 default)))):=Xa;have rpb:pb≠r:=(neM (s11 _ _ r10) hpb).symm;have jF:M10 pb=none:=s11.free hpb;have rN:∀N∈B,∀a∈N,a≠r:=λN U a l=>(neM r10 (Nfree a (Vr.mpr ⟨N,U,l⟩))).symm;obtain⟨Fx,hFx⟩:∃Fx:MH->Prop,∀X,Fx X↔(X F=some (.dic (zipK W.ins ((W.isl.map λ_=>0).map natM)))/\X S=some (.dic (zipK W.ins (J.map MV.ref)))/\X C=some (.dic (zipK W.ins ((W.isl.map λ_=>0).map natM)))/\X pb=some (.dic (zipK W.fns (B.map λN=>MV.ref (N.getD 0 default))))/\(∀(j:Nat)a x,J[j]?=some a->W.isl[j]?=some x->X a=some (.dic (zipK x.vars ((x.prs.map (·.2)).map MV.int))))/\∀(j:Nat)f N,W.fer[j]?=some f->B[j]?=some N->∃b p g u,N=[b,p,g,u]/\FyAt X b p g u (ab0 f.k f.st)):=⟨_,λ_=>Y8⟩;have fx:∀X Y,(∀a o,X a=some o->a≠r->Y a=some o)->Fx X->Fx Y:=λX Y k h=>by
  obtain⟨h1,h2,h3,h4,h5,h6⟩:=(hFx X).mp h;refine(hFx Y).mpr ⟨k _ _ h1 rpn,k _ _ h2 rpw,k _ _ h3 rps,k _ _ h4 rpb,λj a x e1 e2=>k _ _ (h5 j a x e1 e2) (rws a (Xu e1)),λj f N e1 e2=>?_⟩;obtain⟨b,p,g,u,rfl,R⟩:=h6 j f N e1 e2;have rn:=rN _ (Xu e2);obtain⟨pl,hp,H⟩:=R.pls;exact⟨b,p,g,u,rfl,⟨R.ok,k _ _ R.fe (rn b (by simp)),⟨pl,k _ _ hp (rn p (by simp)),H⟩,k _ _ R.gi (rn g (by simp)),k _ _ R.ta (rn u (by simp)),R.ne⟩⟩
 have F12:Fx (updM M11 pb (.dic (zipK W.fns (B.map λN=>MV.ref (N.getD 0 default))))):=(hFx _).mpr ⟨s12 _ _ jW,s12 _ _ jX,s12 _ _ jY,hb12,λj a x e1 e2=>s12 _ _ (jL j a x e1 e2),λj f N e1 e2=>by
  have hY:=X7 (show j<ys.length by rw[yl];exact(XE.mp e1).1)
  obtain⟨b,p,g,u,e,_,R⟩:=Nat_ j f _ N e1 hY e2;exact⟨b,p,g,u,e,R.keep (SameM.new hpb _)⟩⟩
 have Nsome:∀N∈B,∀a∈N,a≠pb:=λN U a l=>by
  obtain⟨j,O,rfl⟩:=Y0 U;have hj2:j<W.fer.length:=by rw[<-Nl];exact O
  obtain⟨b,p,g,u,e,_,R⟩:=Nat_ j _ _ _ (X7 hj2) (X7 (show j<ys.length by rw[yl];exact hj2)) (X7 O)
  obtain⟨pl,hp,_⟩:=R.pls;rw[e]at l;simp only[Xl,XI,or_false]at l;rcases l with rfl|rfl|rfl|rfl
  .exact neM R.fe hpb
  .exact neM hp hpb
  .exact neM R.gi hpb
  .exact neM R.ta hpb
 have jq:F≠pb/\S≠pb/\C≠pb/\pb∉J:=⟨neM jW jF,neM jX jF,neM jY jF,λz=>by
  obtain⟨j,O,e⟩:=Y0 z;have:=jL j _ _ (X7 O) (X7 (by rw[<-wl];exact O))
  rw[e,jF]at this;cases this⟩
 generalize updM M11 pb _=M12 at*;have r12:=s12 _ _ r10
 simp![r12,putM]
 obtain⟨X,E⟩:∃X,X=MO.ins "Run" [("world",W.mv),("moment",.int 0),("next_numbers",.ref F),("words_now",.ref S),("steps_so_far",.ref C),("boats",.ref pb)]:=⟨_,rfl⟩;rw[<-E];have jZ:=(jV.grow s12).upd (Y1.mpr rfl) X;have r13:updM M12 r X r=some X:=Xa;have F13:=fx _ (updM M12 r X) (λa o e z=>(X8 z).trans e) F12;generalize updM M12 r _=M13 at*;subst E;clear F12 r12 s12 s11 hd11 eys;delta OT;simp!;refine Hw W.fer Fer.mv (·.name) (λ_=>.lst []) (λM'=>M'=M13) ?_ ?_ hΦ λD14 Z M14 hD14 s14 gsl gnd Dg gfree gat hd14=>?_
 .simp![Wld.mv]
  first|exact .inl ⟨trivial,rfl⟩|exact⟨rfl,by lia,.inl ⟨trivial,rfl⟩,rfl⟩|exact⟨rfl,by lia,.inl ⟨trivial,rfl⟩⟩|exact⟨by lia,.inl ⟨trivial,rfl⟩⟩|exact⟨rfl,.inl ⟨trivial,rfl⟩⟩
 .intro f hf Ma M' e s;simp only[sCm,Xx,Yg,Yr,Ys,Ym,Y7]
  simp![Fer.mv]
  exact λp hp=>⟨p,hp,rfl,rfl⟩
 simp!;refine⟨_,hd14,λpg hpg=>?_⟩;have e14:Yj (zipK (W.fer.map (·.name)) (Z.map MV.ref))=zipK W.fns (Z.map MV.ref):=dfns (by rw[Xb];exact gsl)
 rw[e14];have s15:=s14.trans (SameM.new hpg (.dic (zipK W.fns (Z.map MV.ref))));have k0:updM M14 pg (.dic (zipK W.fns (Z.map MV.ref))) pg=some (.dic (zipK W.fns (Z.map MV.ref))):=Xa;have rpg:pg≠r:=(neM (s14 _ _ r13) hpg).symm;have jw:M13 pg=none:=s14.free hpg;have rgs:∀a∈Z,a≠r:=λa l=>(neM r13 (gfree a l)).symm;have g15:∀a∈Z,updM M14 pg (.dic (zipK W.fns (Z.map MV.ref))) a=some (.lst []):=λa l=>by
  obtain⟨j,O,rfl⟩:=Y0 l;exact SameM.new hpg _ _ _ (gat j _ _ (X7 O) (X7 (by rw[<-gsl];exact O)))
 generalize updM M14 pg _=M15 at*;have r15:=s15 _ _ r13;have F15:=fx _ M15 (λa o e _=>s15 a o e) F13
 simp![r15,putM]
 obtain⟨X,E⟩:∃X,X=MO.ins "Run" [("world",W.mv),("moment",.int 0),("next_numbers",.ref F),("words_now",.ref S),("steps_so_far",.ref C),("boats",.ref pb),("given_so_far",.ref pg)]:=⟨_,rfl⟩;rw[<-E];have k7:=(jZ.grow s15).upd (Y1.mpr rfl) X;have r16:updM M15 r X r=some X:=Xa;have jG:∀a o,M15 a=some o->a≠r->updM M15 r X a=some o:=λa o e z=>(X8 z).trans e;generalize updM M15 r _=M16 at*;subst E;have F16:=fx _ M16 jG F15;have k9:=jG _ _ k0 rpg;have g16:∀a∈Z,M16 a=some (.lst []):=λa l=>jG _ _ (g15 a l) (rgs a l);clear jG g15 k0 r15 F15 s15 s14 hd14 gat;delta OS;simp!;refine Hw W.fer Fer.mv (·.name) (λ_=>.lst []) (λM'=>M'=M16) ?_ ?_ hΦ λD17 A M17 hD17 s17 tsl tnd Dt tfree tat hd17=>?_
 .simp![Wld.mv]
  first|exact .inl ⟨trivial,rfl⟩|exact⟨rfl,by lia,.inl ⟨trivial,rfl⟩,rfl⟩|exact⟨rfl,by lia,.inl ⟨trivial,rfl⟩⟩|exact⟨by lia,.inl ⟨trivial,rfl⟩⟩|exact⟨rfl,.inl ⟨trivial,rfl⟩⟩
 .intro f hf Ma M' e s;simp only[sCm,Xx,Yg,Yr,Ys,Ym,Y7]
  simp![Fer.mv]
  exact λp hp=>⟨p,hp,rfl,rfl⟩
 simp!;refine⟨_,hd17,λpt hpt=>?_⟩;have e17:Yj (zipK (W.fer.map (·.name)) (A.map MV.ref))=zipK W.fns (A.map MV.ref):=dfns (by rw[Xb];exact tsl)
 rw[e17];have s18:=s17.trans (SameM.new hpt (.dic (zipK W.fns (A.map MV.ref))));have ht18:updM M17 pt (.dic (zipK W.fns (A.map MV.ref))) pt=some (.dic (zipK W.fns (A.map MV.ref))):=Xa;have rpt:pt≠r:=(neM (s17 _ _ r16) hpt).symm;have jt:M16 pt=none:=s17.free hpt;have rts:∀a∈A,a≠r:=λa l=>(neM r16 (tfree a l)).symm;have t18:∀a∈A,updM M17 pt (.dic (zipK W.fns (A.map MV.ref))) a=some (.lst []):=λa l=>by
  obtain⟨j,O,rfl⟩:=Y0 l;exact SameM.new hpt _ _ _ (tat j _ _ (X7 O) (X7 (by rw[<-tsl];exact O)))
 generalize updM M17 pt _=M18 at*;have r18:=s18 _ _ r16;have F18:=fx _ M18 (λa o e _=>s18 a o e) F16
 simp![r18,putM]
 obtain⟨X,E⟩:∃X,X=MO.ins "Run" [("world",W.mv),("moment",.int 0),("next_numbers",.ref F),("words_now",.ref S),("steps_so_far",.ref C),("boats",.ref pb),("given_so_far",.ref pg),("taken_so_far",.ref pt)]:=⟨_,rfl⟩;rw[<-E];have fr19:=(k7.grow s18).upd (Y1.mpr rfl) X;have r19:updM M18 r X r=some X:=Xa;have jx:∀a o,M18 a=some o->a≠r->updM M18 r X a=some o:=λa o e z=>(X8 z).trans e;generalize updM M18 r _=M19 at*;subst E;have F19:=fx _ M19 jx F18;have hg19:=jx _ _ (s18 _ _ k9) rpg;have g19:∀a∈Z,M19 a=some (.lst []):=λa l=>jx _ _ (s18 _ _ (g16 a l)) (rgs a l);have ht19:=jx _ _ ht18 rpt;have t19:∀a∈A,M19 a=some (.lst []):=λa l=>jx _ _ (t18 a l) (rts a l);obtain⟨hn,hw,hs,hb,wat,nat⟩:=(hFx _).mp F19;obtain⟨n13,w13,p13,b13,wat13,nat13⟩:=(hFx _).mp F13;obtain⟨n16,w16,p16,b16,wat16,nat16⟩:=(hFx _).mp F16;have Nin:∀(X:MH),(∀(j:Nat)f N,W.fer[j]?=some f->B[j]?=some N->∃b p g u,N=[b,p,g,u]/\FyAt X b p g u (ab0 f.k f.st))->∀N∈B,∀a∈N,∃o,X a=some o:=λX E N U a l=>by
  obtain⟨j,O,rfl⟩:=Y0 U;obtain⟨b,p,g,u,e,R⟩:=E j _ _ (X7 (by rw[<-Nl];exact O)) (X7 O)
  obtain⟨pl,hp,_⟩:=R.pls;rw[e]at l;simp only[Xl,XI,or_false]at l;rcases l with rfl|rfl|rfl|rfl
  .exact⟨_,R.fe⟩
  .exact⟨_,hp⟩
  .exact⟨_,R.gi⟩
  .exact⟨_,R.ta⟩
 have Ng:∀N∈B,∀a∈N,a∉Z:=λN U a l z=>by
  obtain⟨o,e⟩:=Nin _ nat13 N U a l;rw[gfree a z]at e;cases e
 have Nt:∀N∈B,∀a∈N,a∉A:=λN U a l z=>by
  obtain⟨o,e⟩:=Nin _ nat16 N U a l;rw[tfree a z]at e;cases e
 have gt:∀a∈Z,a∉A:=λa l z=>by
  have:=g16 a l;rw[tfree a z]at this;cases this
 have at_:∀(j:Nat)f,W.fer[j]?=some f->∃b p g u,B[j]?=some [b,p,g,u]/\FyAt M19 b p g u (ab0 f.k f.st)/\Ze W B Z A j=⟨b,p,g,u,Z.getD j default,A.getD j default,ab0 f.k f.st⟩:=λj f hf=>by
  have O:j<B.length:=by rw[Nl];exact(XE.mp hf).1
  have U:=X7 O;obtain⟨b,p,g,u,e,R⟩:=nat j f _ hf U;rw[e]at U;refine⟨b,p,g,u,U,R,?_⟩;have eg:B.getD j []=[b,p,g,u]:=by rw[Ya,U];rfl
  unfold Ze abOf;rw[hf,eg];rfl
 have bat:∀(j:Nat)x,((Xs W.fer.length).map (Ze W B Z A))[j]?=some x->j<W.fer.length/\x=Ze W B Z A j:=λj x h=>by
  have O:=(XE.mp h).1;rw[Xb,Uq]at O;rw[Xr,Wk O]at h;exact⟨O,(Yd h).symm⟩
 have adsI:∀j,j<W.fer.length->∀a∈(Ze W B Z A j).ads,(∃N,B[j]?=some N/\a∈N)\/a=Z.getD j default\/a=A.getD j default:=λj O a l=>by
  obtain⟨b,p,g,u,U,_,e⟩:=at_ j _ (X7 O);rw[e]at l;simp only[Boat.ads,Xl,XI,or_false]at l;rcases l with c|c|c|c|c|c
  .exact .inl ⟨_,U,by simp[c]⟩
  .exact .inl ⟨_,U,by simp[c]⟩
  .exact .inl ⟨_,U,by simp[c]⟩
  .exact .inl ⟨_,U,by simp[c]⟩
  .exact .inr (.inl c)
  .exact .inr (.inr c)
 have free:∀X,FrM M X [r]->∀a,a≠r->X a=none->M a=none:=λX fr a ne hx=>by
  cases e:M a with
  |none=>rfl
  |some o=>rw[fr a o e (by simpa using ne)]at hx;cases hx
 have eb:((Xs W.fer.length).map (Ze W B Z A)).map (λx=>MV.ref x.b)=B.map λN=>MV.ref (N.getD 0 default):=by
  rw[Yu];exact CU (d:=[]) (f:=λN=>MV.ref (N.getD 0 default)) Nl
 have eg:((Xs W.fer.length).map (Ze W B Z A)).map (λx=>MV.ref x.gl)=Z.map MV.ref:=by
  rw[Yu];exact CU (d:=default) (f:=MV.ref) gsl
 have et:((Xs W.fer.length).map (Ze W B Z A)).map (λx=>MV.ref x.tl)=A.map MV.ref:=by
  rw[Yu];exact CU (d:=default) (f:=MV.ref) tsl
 have wno:∀(X:MH)(z:Addr),(∀(j:Nat)a x,J[j]?=some a->W.isl[j]?=some x->X a=some (.dic (zipK x.vars ((x.prs.map (·.2)).map MV.int))))->X z=none->z∉J:=λX z E hz c=>by
  obtain⟨j,O,e⟩:=Y0 c;have:=E j _ _ (X7 O) (X7 (by rw[<-wl];exact O))
  rw[e,hz]at this;cases this
 refine q ⟨0,W.isl.map λ_=>0,J,W.isl.map λ_=>0,(Xs W.fer.length).map (Ze W B Z A),F,S,C,pb,pg,pt⟩ M19 fr19 ⟨r19,hn,hw,hs,?_,?_,?_,by rw[Xb],wl,by rw[Xb],by rw[Xb,Uq],λi I m hI hm=>?_,λi I a hI l=>⟨_,wat i a I l hI,(SR (G.io I (Xu hI)).nd (G.io I (Xu hI)).wd).2⟩,λj f x hf hx=>?_,λi j x y ne hx hy a l hb=>?_,?_⟩ rfl (λj f y hf hy=>?_) (λa l=>?_)
 .show M19 pb=some (.dic (zipK W.fns (((Xs W.fer.length).map (Ze W B Z A)).map (λx=>MV.ref x.b))));rw[eb];exact hb
 .show M19 pg=some (.dic (zipK W.fns (((Xs W.fer.length).map (Ze W B Z A)).map (λx=>MV.ref x.gl))));rw[eg];exact hg19
 .show M19 pt=some (.dic (zipK W.fns (((Xs W.fer.length).map (Ze W B Z A)).map (λx=>MV.ref x.tl))));rw[et];exact ht19
 .have hm:(W.isl.map λ_=>0)[i]?=some m:=hm;rw[Xr,hI]at hm;cases hm;exact YA _
 .obtain⟨O,rfl⟩:=bat j x hx;obtain⟨b,p,g,u,U,R,e⟩:=at_ j f hf;rw[e];have g1:=(_W (L:=Z) (j:=j) (by rw[gsl];exact O)).1
  have t1:=(_W (L:=A) (j:=j) (by rw[tsl];exact O)).1
  have pm:p∈ [b,p,g,u]:=by simp
  have q1:Z.getD j default≠A.getD j default:=λz=>gt _ g1 (z▸t1);have q2:Z.getD j default≠p:=λz=>Ng _ (Xu U) p pm (z▸g1);have q3:A.getD j default≠p:=λz=>Nt _ (Xu U) p pm (z▸t1);exact⟨R,g19 _ g1,t19 _ t1,⟨q1,q2,q3⟩,rfl,(by decide:(-1:Int)<0),(by decide:(-1:Int)<0),λz hz=>by cases hz⟩
 .obtain⟨hi,rfl⟩:=bat i x hx;obtain⟨O,rfl⟩:=bat j y hy;have gi:=(_W (L:=Z) (j:=i) (by rw[gsl];exact hi)).1
  have gj:=(_W (L:=Z) (j:=j) (by rw[gsl];exact O)).1
  have ti:=(_W (L:=A) (j:=i) (by rw[tsl];exact hi)).1
  have tj:=(_W (L:=A) (j:=j) (by rw[tsl];exact O)).1
  rcases adsI i hi a l with⟨N,U,c⟩|c|c<;>rcases adsI j O a hb with⟨N',hN',d⟩|d|d
  .exact SU Nnd U hN' ne a c d
  .exact Ng N (Xu U) a c (d▸gj)
  .exact Nt N (Xu U) a c (d▸tj)
  .exact Ng N' (Xu hN') a d (c▸gi)
  .exact SV gnd (by rw[gsl];exact hi) (by rw[gsl];exact O) ne (c.symm.trans d)
  .exact gt a (c▸gi) (d▸tj)
  .exact Nt N' (Xu hN') a d (c▸ti)
  .exact gt a (d▸gj) (c▸ti)
  .exact SV tnd (by rw[tsl];exact hi) (by rw[tsl];exact O) ne (c.symm.trans d)
 .show(F::S::C::pb::pg::pt::J).Nodup;simp only[YI,Xl,not_or];exact⟨⟨pnw,pns,jq.1,neM n13 jw,neM n16 jt,wpn⟩,⟨pws,jq.2.1,neM w13 jw,neM w16 jt,wpw⟩,⟨jq.2.2.1,neM p13 jw,neM p16 jt,wps⟩,⟨neM b13 jw,neM b16 jt,jq.2.2.2⟩,⟨neM k9 jt,wno _ _ wat13 jw⟩,wno _ _ wat16 jt,wnd⟩
 .obtain⟨hj2,rfl⟩:=bat j y hy;obtain⟨b,p,g,u,U,R,e⟩:=at_ j f hf;rw[e]
 .simp only[RunS.own,Xl,Vs]at l;rcases l with c|c|c|c|⟨x,hx,c⟩
  .exact .inl c
  .exact .inr (c▸free _ fr1 _ rpn f_pn)
  .exact .inr (c▸free _ fr4 _ rpw jU)
  .exact .inr (c▸free _ fr7 _ rps jE)
  .obtain⟨j,O,e⟩:=Y0 hx;obtain⟨hj2,rfl⟩:=bat j x (by rw[X7 O,e])
   have g1:=(_W (L:=Z) (j:=j) (by rw[gsl];exact hj2)).1
   have t1:=(_W (L:=A) (j:=j) (by rw[tsl];exact hj2)).1
   rcases adsI j hj2 a c with⟨N,U,d⟩|d|d
   .exact .inr (free _ jV _ (rN N (Xu U) a d) (Nfree a (Vr.mpr ⟨N,Xu U,d⟩)))
   .subst d;exact .inr (free _ jZ _ (rgs _ g1) (gfree _ g1))
   .subst d;exact .inr (free _ k7 _ (rts _ t1) (tfree _ t1))
theorem RunAt.own_some{M:MH}{W:Wld}{r:Addr}{R:RunS}{z:Nat->Int}(h:RunAt M W r R z):∀a∈R.own r,∃o,M a=some o:=λb l=>by
 simp only[RunS.own,Xl,Vs]at l;rcases l with rfl|rfl|rfl|rfl|⟨x,m,l⟩
 .exact⟨_,h.ob⟩
 .exact⟨_,h.hn⟩
 .exact⟨_,h.hw⟩
 .exact⟨_,h.hs⟩
 .obtain⟨j,y,rfl⟩:=Y0 m;obtain⟨u,e,_⟩:=(h.ba j _ _ (X7 (by rw[<-h.bl];exact y)) (X7 y)).at_ b l
  exact⟨u,e⟩
theorem Ab.Ok.two{A:Ab}(h:A.Ok):A.tn<=A.ws.length/\A.ws.length<=A.tn+2^A.k:=by
 have j:=h.tb _ (_0 (xs:=A.tx) (by rw[h.tl];exact h.gl.1))
 have l:=h.gb _ (_0 (xs:=A.gx) h.gl.1);have:=h.lt1;have:=h.lg1;lia
noncomputable abbrev rgM(x:Str×Nat):MV:=.tup [.str x.1,.int x.2]
abbrev BH:SpM:=λd M Q=>∃(z m:Addr) (l:List Int) (g:List MV) (j:List Isl),d=[.ref z,.ref m]/\M z=some (.lst (l.map MV.int))/\l.length<=80/\M m=some (.lst g)/\IslsIn M j g/\1<=j.length/\j.length<=5/\
 ∀p (u:List (Str×Nat))y,SameM M y->M p=none->y p=some (.lst (u.map rgM))->u.length=l.length->(∀x∈u,∃I∈j,x.1=I.name)->Q (.ref p) y
theorem SX:MonW BH:=by walk_at "m"
theorem _dM(T:Txt K mg t):FnOk P w K mg base CX0 1 t.cM t.dY ["cells","islands"] (liSp K BH):=by
 refine T.bM.F.okM _dG (fC (G:=QQ) (Φ:=[]) T rfl nl0 nl0) Gv _ed (λo M Q h=>?_) (λo M Q h=>?_)
 .obtain⟨_,_,_,_,_,rfl,_⟩:=h;rfl
 obtain⟨D,E,O,g,R,rfl,F,cl,i,S,i1,i5,q⟩:=h;show wSs _ _ _ [some (.ref D),some (.ref E),none,none] M;have yl:=S.1;delta Gv QP;simp!;intro p U;have X:=SameM.new U (.lst []);have W:updM M p (.lst []) p=some (.lst []):=Xa;generalize updM M p _=M1 at*;have Y:=X _ _ F;delta QO
 simp![Y]
 obtain⟨J,f⟩:∃J:Nat->Sm->MH->Prop,∀j r u,J j r u↔∃(m:List (Str×Nat)) (v:Option MV),SameM M u/\u p=some (.lst (m.map rgM))/\m.length=j/\(∀x∈m,∃I∈R,x.1=I.name)/\r=[some (.ref D),some (.ref E),some (.ref p),v]:=⟨_,λ_ _ _=>Y8⟩;refine⟨J,(f _ _ _).mpr ⟨[],_,X,W,rfl,(λx h=>nomatch h),rfl⟩,λj r u h=>?_,?_,?_⟩
 .obtain⟨_,_,s,_⟩:=(f _ _ _).mp h;exact s _ _ F
 .rintro j y r u n h;obtain⟨m,v,s,l,Z,A,rfl⟩:=(f _ _ _).mp h;obtain⟨H,rfl⟩:=YF (show(O.map MV.int)[j]?=some y from n);generalize O[j]=x at*;have e:=s _ _ i;have B:=S.keep s;delta QN
  simp![l,e]
  have m0:=ZH x (show(g.length:Int)≠0 by lia)
  have m1:=U3 x (show(0:Int)<(g.length:Int) by lia)
  obtain⟨k,hk⟩:∃k:Nat,x%(g.length:Int)=(k:Int):=⟨_,(Ux m0).symm⟩;rw[hk]at m1 ⊢;have L:k<g.length:=by lia
  have N:k<R.length:=by lia
  obtain⟨a,b,ey,_⟩:=B.2 k _ _ (X7 N) (X7 L);refine⟨⟨_,rfl⟩,by lia,_,Yp (X7 L),?_⟩
  rw[ey]
  simp![e,l]
  have c0:=ZH (x/(g.length:Int)) (show(1000000000000000000000000000000:Int)≠0 by decide)
  obtain⟨c,C⟩:∃c:Nat,x/(g.length:Int)%1000000000000000000000000000000=(c:Int):=⟨_,(Ux c0).symm⟩;rw[C];have H:j<O.length:=H;refine⟨⟨by lia,by lia⟩,by rw[Xb];lia,(f _ _ _).mpr ⟨m++[(R[k].name,c)],_,s.upd U _,by rw[Xa,XX];rfl,by rw[Ye,Z];rfl,(λz d=>?_),rfl⟩⟩
  rcases Yt.mp d with d|d
  .exact A z d
  .rw[Y1]at d;subst d;exact⟨_,XQ N,rfl⟩
 .rintro r u h;obtain⟨m,v,s,l,Z,A,rfl⟩:=(f _ _ _).mp h;delta QL;simp!;exact q p m u s U l (Z.trans (Xb _)) A
theorem _lN{w:Nat}{f:Fer}{z:Str}{o:Option Stp}{ρ:Str->Int}{A:Ab}(h:hitA w f z o ρ A=true):XU o f.name=true:=by
 unfold hitA at h;split at h
 .have h:=((XY _ _).mp h).1;rcases o with _|s
  .cases h
  .cases s with
   |give g T=>
    by_cases e:g=f.name
    .exact decide_eq_true e
    .have j:Wf w f (some (.give g T)) ρ=none:=if_neg e;rw[j]at h;cases h
   |take _ _=>cases h
   |put _ _=>cases h
   |jump _ _=>cases h
 .exact((XY _ _).mp h).1
theorem _kJ{o:Option Stp}{a b:Str}(h:XU o a=true)(h':XU o b=true):a=b:=by
 rcases o with _|s
 .cases h
 .cases s with
  |give g T=>exact(of_decide_eq_true h).symm.trans (of_decide_eq_true h')
  |take g T=>exact(of_decide_eq_true h).symm.trans (of_decide_eq_true h')
  |put _ _=>cases h
  |jump _ _=>cases h
set_option tactic.hygienic true in
theorem _hC{w:Nat}{f:Fer}{z:Str}{o:Option Stp}{ρ:Str->Int}{A:Ab}(h:hitA w f z o ρ A=true):∃(x y:Str) (u:Int),YL w f z o ρ A=.tup [.str x,.str y,.int u]:=by
 rw[YL,if_pos h];split
 .rename_i c
  rw[hitA,if_pos c]at h;have h:=((XY _ _).mp h).1;rcases o with _|s
  .cases h
  .cases s with
   |give g T=>exact⟨_,_,_,rfl⟩
   |take _ _=>cases h
   |put _ _=>cases h
   |jump _ _=>cases h
 .exact⟨_,_,_,rfl⟩
theorem _in{W:Wld}{bs:List Boat}{z:Str}{o:Option Stp}{ρ:Str->Int}{v:MV}{k:Nat}{f:Fer}{a:Boat}(G:W.Good)(j:W.fer[k]?=some f)(q:bs[k]?=some a)(c:z=f.giver\/z=f.taker)(hw:XU o f.name=true)(h:WhatTo W bs z o ρ W.fer.length v):
  (hitA W.w f z o ρ a.A=true/\∃(x y:Str) (u:Int),v=.tup [.str x,.str y,.int u])\/(hitA W.w f z o ρ a.A=false/\v=.tup [.str "wait",.str f.name]):=by
 have p:=(XE.mp j).1;rcases h with⟨e,h⟩|⟨L,R,U,l,⟨m,r,Y,d⟩,e⟩
 .refine .inr ⟨?_,?_⟩
  .rw[<-Bool.not_eq_true];exact λz=>h k f a p ⟨j,q,c,z⟩
  .rw[e];rcases o with _|s
   .cases hw
   .cases s with
    |give g T=>rw[<-of_decide_eq_true hw];rfl
    |take g T=>rw[<-of_decide_eq_true hw];rfl
    |put _ _=>cases hw
    |jump _ _=>cases hw
 .have N:=_kJ (_lN d) hw;have O:L=k:=(Vq (by rw[_V];exact l) G.fn_nd).mp ((Uj m).trans ((congrArg some N).trans (Uj j).symm))
  subst O;rw[j]at m;cases m;rw[q]at r;cases r;exact .inl ⟨d,by rw[e];exact _hC d⟩
theorem SY:∀{ks:List Str} {vs:List MV} {k:Str} {v:MV},vs.length=ks.length->zipK ks vs++[(Xm k,v)]=zipK (ks++[k]) (vs++[v])
 |[],[],_,_,_=>rfl
 |[],_::_,_,_,h=>by cases h
 |_::_,[],_,_,h=>by cases h
 |a::ks,b::vs,k,v,h=>by
  show _::(zipK ks vs++_)=_::zipK (ks++[k]) (vs++[v]);rw[SY (by simpa using h)]
noncomputable abbrev twoK(f:Fer)(val:Bool->MV):List (Key×MV):=[(Xm f.giver,val true),(Xm f.taker,val false)]
theorem twoK_put{f:Fer}{val:Bool->MV}(j:f.giver≠f.taker):Yj (twoK f val)=twoK f val:=SH (by simpa using j)
theorem twoK_val{f:Fer}{val:Bool->MV}{z:Str}(j:f.giver≠f.taker)(c:z=f.giver\/z=f.taker):valM (twoK f val) (Xm z)=some (val (decide (f.giver=z))):=by
 by_cases e:f.giver=z
 .subst e;simp[valM]
 .have l:z=f.taker:=c.resolve_left λh=>e h.symm;subst l;simp[valM,j]
structure TwoD (M:MH)(W:Wld)(n:Nat)(pD:Addr)(es:List Addr)(val:Nat->Bool->MV):Prop where
 hD:M pD=some (.dic (zipK (W.fns.take n) (es.map MV.ref)))
 el:es.length=n
 nl:n<=W.fer.length
 np:pD∉es
 ed:∀(j:Nat)f e,W.fer[j]?=some f->es[j]?=some e->M e=some (.dic (twoK f (val j)))
theorem TwoD.keep{M M':MH}{W:Wld}{n:Nat}{l:Addr}{es:List Addr}{val:Nat->Bool->MV}(h:TwoD M W n l es val)(s:∀a o,a=l\/a∈es->M a=some o->M' a=some o):TwoD M' W n l es val:=
 ⟨s _ _ (.inl rfl) h.hD,h.el,h.nl,h.np,λj f e y u=>s _ _ (.inr (Xu u)) (h.ed j f e y u)⟩
theorem TwoD.some_{M:MH}{W:Wld}{n:Nat}{u:Addr}{es:List Addr}{val:Nat->Bool->MV}(h:TwoD M W n u es val):∀a,a=u\/a∈es->∃z,M a=some (.dic z):=λa l=>by
 rcases l with rfl|l
 .exact⟨_,h.hD⟩
 .obtain⟨j,y,rfl⟩:=Y0 l;exact⟨_,h.ed j _ _ (X7 (Yz (by rw[<-h.el];exact y) h.nl)) (X7 y)⟩
theorem TwoD.first{M:MH}{W:Wld}{l:Addr}{val:Nat->Bool->MV}(h:M l=some (.dic [])):TwoD M W 0 l [] val:=
 ⟨h,rfl,YA _,XI,λj f e _ u=>by simp at u⟩
theorem TwoD.add{M M':MH}{W:Wld}{n:Nat}{m e:Addr}{es:List Addr}{val u:Nat->Bool->MV}{f:Fer}(h:TwoD M W n m es val)(G:W.Good)(d:W.fer[n]?=some f)(R:M e=none)(T:∀j b,j<n->u j b=val j b)(s:∀a o,M a=some o->a≠m->M' a=some o)
  (h1:M' m=some (.dic (putM (zipK (W.fns.take n) (es.map MV.ref)) (Xm f.name) (.ref e))))(h2:M' e=some (.dic (twoK f (u n)))):TwoD M' W (n+1) m (es++[e]) u:=by
 have r:=(XE.mp d).1;have L:(W.fns.take n).length=n:=by rw[Yf,_V];lia
 have N:(es.map MV.ref).length=(W.fns.take n).length:=by rw[Xb,L,h.el]
 have U:W.fns.take (n+1)=W.fns.take n++[f.name]:=by rw[Zk,Uj d];rfl
 have Y:putM (zipK (W.fns.take n) (es.map MV.ref)) (Xm f.name) (.ref e)=zipK (W.fns.take (n+1)) ((es++[e]).map MV.ref):=by
  rw[SG,SY N,U,XX];rfl
  intro p c Z;have c:=List.mem_map_of_mem (f:=(·.1)) c;rw[Hu N,Z]at c;obtain⟨x,y,A⟩:=XT.mp c;obtain rfl:x=f.name:=V1 A;obtain⟨i,B,O⟩:=Y0 y;rw[DX]at O;have C:i<n:=by rw[<-L];exact B
  have E:n<W.fns.length:=by rw[_V];exact r
  have:=(Vq (i:=i) (j:=n) (by lia) G.fn_nd).mp (by rw[Uj d,X7 (by lia),O])
  lia
 refine⟨by rw[h1,Y],by rw[Ye,h.el];rfl,r,λz=>?_,λj g x q y=>?_⟩
 .rcases Yt.mp z with z|z
  .exact h.np z
  .obtain rfl:=Y1.mp z;have:=h.hD;rw[R]at this;cases this
 .rcases Nat.lt_trichotomy j n with l|l|l
  .rw[ZC (by rw[h.el];exact l)]at y
   have a:=s _ _ (h.ed j g x q y) λz=>h.np (z▸Xu y);have D:u j=val j:=funext λb=>T j b l;rw[D];exact a
  .subst l;rw[Zh (by rw[h.el];exact Xf _),h.el,Cj]at y
   obtain rfl:e=x:=by simpa using y
   rw[d]at q;cases q;exact h2
  .rw[Zi (by rw[Ye,h.el];exact l)]at y;cases y
theorem TwoD.at_{M:MH}{W:Wld}{l:Addr}{es:List Addr}{val:Nat->Bool->MV}(h:TwoD M W W.fer.length l es val)(G:W.Good){k:Nat}{f:Fer}(j:W.fer[k]?=some f):∃u e,M l=some (.dic u)/\valM u (Xm f.name)=some (.ref e)/\M e=some (.dic (twoK f (val k))):=by
 have m:=(XE.mp j).1;have y:es[k]?=some (es[k]'(by rw[h.el];exact m)):=X7 _
 have z:=h.hD;rw[UR (by rw[_V];exact Xf _)]at z
 exact⟨_,_,z,Ui G.fn_nd (Uj j) (by rw[Xr,y];rfl),h.ed k f _ j y⟩
noncomputable def SeenBy(st:Nat)(j l:List Nat):Prop:=l=(j.reverse++Xj st 0).take st
theorem SeenBy.first(st:Nat):SeenBy st [] (Xj st 0):=by
 unfold SeenBy;rw[List.reverse_nil,Y7,UR (by rw[YO];exact Xf _)]
theorem SeenBy.next{st:Nat}{j l:List Nat}(h1:1<=st)(h:SeenBy st j l)(s:Nat):SeenBy st (j++[s]) (s::l.dropLast):=by
 unfold SeenBy at*;obtain⟨n,rfl⟩:∃n,st=n+1:=⟨st - 1,by lia⟩
 have e:l.dropLast=(j.reverse++Xj (n+1) 0).take n:=by
  rw[h,List.dropLast_eq_take,List.take_take,Yf,Ye,YO,Cf (by lia),Cf (by lia)];rfl
 rw[List.reverse_append,e]
 rfl
theorem SeenBy.last{st:Nat}{j l:List Nat}(h1:1<=st)(h:SeenBy st j l):Xy l=if j.length<st then 0 else j.getD (j.length - st) 0:=by
 unfold SeenBy at h;obtain⟨n,rfl⟩:∃n,st=n+1:=⟨st - 1,by lia⟩
 have u:l.length=n+1:=by rw[h,Yf,Ye,YO];lia
 have e:Xy l=l[n]?.getD 0:=by
  unfold Xy;rw[List.getLastD_eq_getLast?,List.getLast?_eq_getElem?,u];rfl
 rw[e,h,List.getElem?_take,if_pos (VA _),List.getElem?_append,List.length_reverse];by_cases c:n<j.length
 .rw[if_pos c,if_neg (by lia),List.getElem?_reverse c,Ya,Nat.sub_sub,Ch 1 n]
 .rw[if_neg c,if_pos (by lia),DQ]
  split<;>rfl
theorem far1{k l n:Nat}(j:k<4)(h1:l<=n)(h2:n<=l+2^k):((n:Int) - ((l%2^(k+1):Nat):Int))%(2*2^k)=1*2^k↔¬n<l+2^k:=by
 rcases(by lia:k=0\/k=1\/k=2\/k=3)with rfl|rfl|rfl|rfl<;>simp only[Nat.reduceAdd,Nat.reducePow,Int.reducePow,Int.reduceMul]at*<;>omega
theorem far2{k l n:Nat}(j:k<4)(h1:n<=l)(h2:l<=n+2^k):((n:Int) - ((l%2^(k+1):Nat):Int))%(2*2^k)=0↔¬l≠n:=by
 rcases(by lia:k=0\/k=1\/k=2\/k=3)with rfl|rfl|rfl|rfl<;>simp only[Nat.reduceAdd,Nat.reducePow,Int.reducePow,Int.reduceMul]at*<;>omega
theorem _sL{A:Ab}(h:A.Ok){x:Nat}:((A.ws.length:Int) - ((Xy A.gx%2^(A.k+1):Nat):Int))%(2*2^A.k)=1*2^A.k↔A.gives (some x)=false:=by
 have g:=h.gb _ (_0 h.gl.1);have j:=h.lg1;have l:=h.room;have e:A.gives (some x)=decide (A.ws.length<Xy A.gx+2^A.k):=rfl;rw[e,decide_eq_false_iff_not];exact far1 h.k4 (by lia) g.2
theorem _sK{A:Ab}(h:A.Ok):((A.tn:Int) - ((Xy A.tx%2^(A.k+1):Nat):Int))%(2*2^A.k)=0↔A.takes true=false:=by
 have g:=h.tb _ (_0 (by rw[h.tl];exact h.gl.1))
 have j:=h.lt1;have l:=h.room;have e:A.takes true=decide (Xy A.tx≠A.tn):=rfl;rw[e,decide_eq_false_iff_not];exact far2 h.k4 g.2 (by lia)
noncomputable abbrev BJ:SpM:=λj M Q=>∃(r:Addr) (W:Wld) (R:RunS) (l:Nat->Int) (i n:Nat) (I:Isl),j=[.ref r,.str I.name]/\W.Good/\RunAt M W r R l/\W.isl[i]?=some I/\R.nums[i]?=some n/\Q (.int n) M
theorem SZ:MonW BJ:=by walk_at "m"
theorem _dN(T:Txt K mg t):FnOk P w K mg base CX0 3 t.c7 t.bQ ["self","name"] (liSp K BJ):=by
 refine T.fU.okM _dH (fC (G:=Py) (Φ:=[("looked_up",BC)]) T rfl (fMc ⟨Hz,nl0⟩) (fMc ⟨fE T.aH (HA T),nl0⟩)) Gh _ee (fun j M Q h=>?_) (fun j M Q h=>?_)
 .obtain⟨_,_,_,_,_,_,_,rfl,_⟩:=h;rfl
 obtain⟨r,W,R,z,i,n,I,rfl,G,h,l,u,q⟩:=h;show wSs _ _ _ [some (.ref r),some (.str I.name)] M;have y:=h.ob;delta Gh Px
 simp![y,runO,valM]
 refine⟨_,_,_,_,rfl,h.hn,h.nml G l u,?_⟩;exact q
abbrev HC:SpM:=λl M Q=>∃j:Nat,l=[.int j]/\j<2^60/\Q (.int (Ue j:Nat)) M
theorem _8B:MonW HC:=by walk_at "m"
set_option tactic.hygienic true in
theorem _cz(T:Txt K mg t):FnOk P w K mg base CX0 1 t.e9 t.ga ["word"] (liSp K HC):=by
 refine T.cw.F.okM _cs (fC (G:=QW) (Φ:=[]) T rfl nl0 nl0) Gw _cQ (λf M Q h=>?_) (λf M Q h=>?_)
 .obtain⟨n,rfl,_⟩:=h;rfl
 obtain⟨j,rfl,p,q⟩:=h;show wSs _ _ _ [some (.int j),none] M;have l:∀a:Nat,(a:Int)/2=((a/2:Nat):Int):=λa=>by omega
 have st:ugF 65 0 j=Ue j:=by
  rw[ugF];split
  .rename_i e;subst e;show 0=ugF 64 0 (0/2);rw[GZ]
  .rw[Nat.zero_xor];rfl
 delta Gw QV;simp!;delta QU;simp!;refine⟨λm z g=>g=M/\∃n a k:Nat,a=m/\a<2^k/\ugF k n a=Ue j/\z=[some (.int a),some (.int n)],⟨j,rfl,0,j,65,rfl,by omega,st,rfl⟩,?_⟩
 rintro m z g ⟨rfl,n,a,k,rfl,d,u,rfl⟩;simp!;refine Y3 (λc=>?_) (λc=>?_)
 .delta QT;simp!;rw[Bs];delta QS;simp!;rw[l];obtain⟨y,rfl⟩:∃y,k=y+1:=⟨k - 1,by
   cases k with
   |zero=>simp at d;omega
   |succ k=>rfl⟩
  refine⟨a/2,by omega,?_⟩
  refine⟨_,y,by rw[Ci]at d;omega,?_,rfl⟩
  rw[ugF,if_neg (by omega)]at u
  exact u
 .have r:a=0:=by omega
  subst r;rw[GZ]at u;rw[u];delta QR;simp!;exact q
abbrev BK:SpM:=λu M Q=>∃(a:Addr) (k st:Nat) (j l:List Nat),u=[.ref a,.int st]/\M a=some (.lst (j.map λn=>natM (Xh k n)))/\k<4/\1<=st/\SeenBy st j l/\Q (.int (Xy l%2^(k+1):Nat)) M
theorem T0:MonW BK:=by walk_at "m"
theorem _eV(T:Txt K mg t):FnOk P w K mg base CX0 2 t.gU t.fT ["samples","stages"] (liSp K BK):=by
 refine T.bG.F.okM _ey (fC (G:=R0) (Φ:=[("_law_number",HC)]) T rfl (fMc ⟨_8B,nl0⟩) (fMc ⟨fE T.cw (_cz T),nl0⟩)) Gx _fv (fun y M Q h=>?_) (fun y M Q h=>?_)
 .obtain⟨_,_,_,_,_,rfl,_⟩:=h;rfl
 obtain⟨a,k,st,j,f,rfl,l,z,m,d,q⟩:=h;show wSs _ _ _ [some (.ref a),some (.int st)] M;rw[d.last m]at q;delta Gx QZ
 simp![l,Xb]
 refine Y3 (λc=>?_) (λc=>?_)
 .delta QY;simp!;rw[if_pos (by lia)]at q
  have e:(0:Nat)%2^(k+1)=0:=Nat.zero_mod _;rw[e]at q;exact q
 .rw[if_neg (by lia)]at q
  have e:(j.length:Int) - (st:Int)=((j.length - st:Nat):Int):=by lia
  have u:j.length - st<j.length:=by lia
  delta QX
  simp![l,Xb]
  rw[e];refine⟨_,Yp (by rw[Xr,X7 u];rfl),?_⟩
  rw[Ya,X7 u]at q;have g:=Hl (n:=j[j.length - st]) z;refine⟨_,rfl,g.1,?_⟩;rw[g.2];exact q
noncomputable def yN:MV->Str
 |.tup (.str s::_)=>s
 |_=>""
noncomputable def yS:MV->MV
 |.tup [_,_,b]=>b
 |_=>.non
theorem _lB{M:MH}{W:Wld}{ys:List MV}(G:W.Good)(h:IslsIn M W.isl ys){i:Nat}{I:Isl}(z:W.isl[i]?=some I):∃b,M b=some (.lst (I.stps.map Stp.mv))/\((ys.filter (λy=>decide (yN y=I.name))).map yS)[0]?=some (.ref b):=by
 have L:=(XE.mp z).1;have c:i<ys.length:=by rw[h.1];exact L
 obtain⟨a,b,f,U,N⟩:=h.2 i I _ z (X7 c);refine⟨b,N,?_⟩;have q:ys[i]∈ys.filter (λy=>decide (yN y=I.name)):=Vt.mpr ⟨XQ c,by rw[f];exact decide_eq_true rfl⟩
 obtain⟨u,l,r⟩:∃u l,ys.filter (λy=>decide (yN y=I.name))=u::l:=by
  cases e:ys.filter (λy=>decide (yN y=I.name))with
  |nil=>rw[e]at q;cases q
  |cons u l=>exact⟨u,l,rfl⟩
 have O:u∈ys.filter (λy=>decide (yN y=I.name)):=by rw[r];exact Yb ..
 obtain⟨m,g⟩:=Vt.mp O;obtain⟨k,p,rfl⟩:=Y0 m;have j:k<W.isl.length:=by rw[<-h.1];exact p
 obtain⟨Y,Z,d,_⟩:=h.2 k _ _ (X7 j) (X7 p);have R:W.isl[k].name=I.name:=by
  have:=of_decide_eq_true g;rw[d]at this;exact this
 have T:k=i:=(Vq (by rw[Ve];exact j) G.in_nd).mp ((_U (X7 j)).trans ((congrArg some R).trans (_U z).symm))
 subst T;rw[r,Xx,List.getElem?_cons_zero,f]
 rfl
theorem _m3{a b:MV}:atI [a,b] 0=some a:=rfl
theorem _m2{a b:MV}:atI [a,b] 1=some b:=rfl
noncomputable def cntB(bs:List Boat)(k:Nat)(b:Bool):MV:=match bs[k]? with
 |some x=>.int ((if b=true then x.A.ws.length else x.A.tn:Nat):Int)
 |none=>.non
theorem T1{bs:List Boat}{k:Nat}{x:Boat}(h:bs[k]?=some x):cntB bs k=λb=>.int ((if b=true then x.A.ws.length else x.A.tn:Nat):Int):=by
 funext b;unfold cntB;rw[h]
theorem _ok{W:Wld}{f:Fer}{z:Str}{o:Option Stp}{ρ:Str->Int}{A:Ab}(ok:A.Ok)(u:∀s,o=some s->Z5 W.fer z s)(l:f∈W.fer)(m:f.giver≠f.taker)(hw:XU o f.name=true):hitA W.w f z o ρ A=false↔(((if decide (f.giver=z)=true then A.ws.length else A.tn:Nat):Int) - ((Xy (if decide (f.giver=z)=true then A.gx else A.tx)%2^(A.k+1):Nat):Int))%(2*2^A.k)=if z=f.giver then 1*2^A.k else 0:=by
 unfold hitA;rcases o with _|s
 .cases hw
 .have e:=u s rfl;cases s with
  |give g T=>
   obtain rfl:g=f.name:=of_decide_eq_true hw;have c:f.giver=z:=e f l rfl;rw[if_pos c,decide_eq_true c,if_pos rfl,if_pos rfl,if_pos c.symm,show Wf W.w f (some (.give f.name T)) ρ=some (T.val ρ W.w).toNat from if_pos rfl];exact(_sL ok).symm
  |take g y=>
   obtain rfl:g=f.name:=of_decide_eq_true hw;have c:f.taker=z:=e f l rfl;have j:¬f.giver=z:=λd=>m (d.trans c.symm);rw[if_neg j,decide_eq_false j,if_neg (by decide),if_neg (by decide),if_neg (λd=>j d.symm),hw]
   exact(_sK ok).symm
  |put _ _=>cases hw
  |jump _ _=>cases hw
theorem _kK{F:List Fer}{f:Fer}{z:Str}{o:Option Stp}(l:∀s,o=some s->Z5 F z s)(j:f∈F)(hw:XU o f.name=true):z=f.giver\/z=f.taker:=by
 rcases o with _|s
 .cases hw
 .have e:=l s rfl;cases s with
  |give g T=>
   obtain rfl:g=f.name:=of_decide_eq_true hw;exact .inl (e f j rfl).symm
  |take g y=>
   obtain rfl:g=f.name:=of_decide_eq_true hw;exact .inr (e f j rfl).symm
  |put _ _=>cases hw
  |jump _ _=>cases hw
theorem _sM{M:MH}{a b c d:Str}{u:Int}{k:Bool->Prop}(q:k false):wEq (.tup [.str a,.str b,.int u]) (.tup [.str c,.str d]) M k:=_oR rfl rfl (by rw[_lT (by simp)];exact q)
noncomputable def sN(W:Wld)(bs:List Boat)(z:Str)(c k:Nat):Nat:=match W.fer[k]?,bs[k]? with
 |some f,some a=>if f.giver=z then a.A.gSamp (c/2^(8*k))else a.A.tSamp (c/2^(8*k))
 |_,_=>0
noncomputable def YG(W:Wld)(z:Str)(k:Nat):Bool:=match W.fer[k]? with
 |some f=>decide (f.giver=z)
 |none=>false
def ccN(W:Wld)(bs:List Boat)(z:Str)(c:Nat)(j:Nat->Bool->List Nat)(l:List Nat)(k:Nat)(b:Bool):List Nat:=if k∈l/\b=YG W z k then j k b++[sN W bs z c k]else j k b
theorem T2{W:Wld}{bs:List Boat}{z:Str}{c k:Nat}{f:Fer}{a:Boat}(j:W.fer[k]?=some f)(l:bs[k]?=some a):sN W bs z c k=if f.giver=z then a.A.gSamp (c/2^(8*k))else a.A.tSamp (c/2^(8*k)):=by unfold sN;rw[j,l]
theorem T3{W:Wld}{z:Str}{k:Nat}{f:Fer}(j:W.fer[k]?=some f):YG W z k=decide (f.giver=z):=by unfold YG;rw[j]
theorem _nb{W:Wld}{bs:List Boat}{z:Str}{c k:Nat}{f:Fer}{a:Boat}(j:W.fer[k]?=some f)(l:bs[k]?=some a):smpA f z (c/2^(8*k)) a.A=Xh a.A.k (sN W bs z c k):=by
 rw[T2 j l];unfold smpA;split<;>rfl
theorem _qP{W:Wld}{z:Str}{j:Nat}:(ixs W z j).Nodup:=List.Pairwise.filter _ List.nodup_range
theorem ixs_mem{W:Wld}{z:Str}{j k:Nat}:k∈ixs W z j↔k<j/\atB W z k=true:=by unfold ixs;rw[Vt,Z3]
theorem T4{W:Wld}{bs:List Boat}{z:Str}{c:Nat}{j:Nat->Bool->List Nat}{l:List Nat}{k:Nat}{b:Bool}{n:Nat}(h:(j k b).length<=n):(ccN W bs z c j l k b).length<=n+1:=by
 unfold ccN;split
 .rw[Ye];exact E9 h
 .exact Nat.le_succ_of_le h
theorem _m0{W:Wld}{bs:List Boat}{z:Str}{c k:Nat}{m:Int}{o:Option Stp}{ρ:Str->Int}{g:Nat->Bool->List Nat}{f:Fer}{a:Boat}{l:Ab}{b:Bool}(j:W.fer[k]?=some f)(d:bs[k]?=some a)(h1:1<=f.st)(q:l=newA W.w z m c o ρ k f a.A)(h:SeenBy f.st (g k b) (if b=true then a.A.gx else a.A.tx)):SeenBy f.st (ccN W bs z c g (ixs W z W.fer.length) k b) (if b=true then l.gx else l.tx):=by
 have r:=(XE.mp j).1;have u:k∈ixs W z W.fer.length↔(z=f.giver\/z=f.taker):=by rw[ixs_mem,DO j,decide_eq_true_iff];exact⟨λh=>h.2,λh=>⟨r,h⟩⟩
 unfold ccN;rw[T3 j,T2 j d,q];unfold newA;by_cases cz:z=f.giver\/z=f.taker
 .rw[if_pos cz];unfold UM;by_cases cg:f.giver=z
  .rw[if_pos cg,if_pos cg,decide_eq_true cg];cases b with
   |true=>rw[if_pos ⟨u.mpr cz,rfl⟩];exact h.next h1 _
   |false=>rw[if_neg (λz=>nomatch z.2)];exact h
  .rw[if_neg cg,if_neg cg,decide_eq_false cg];cases b with
   |true=>rw[if_neg (λz=>nomatch z.2)];exact h
   |false=>rw[if_pos ⟨u.mpr cz,rfl⟩];exact h.next h1 _
 .rw[if_neg cz,if_neg (λy=>cz (u.mp y.1))];exact h
theorem _p1{W:Wld}{bs:List Boat}{z:Str}{c:Nat}{j:Nat->Bool->List Nat}{l:List Nat}{k:Nat}(u:k∉l):ccN W bs z c j (l++[k]) k (YG W z k)=ccN W bs z c j l k (YG W z k)++[sN W bs z c k]:=by
 unfold ccN;rw[if_pos ⟨by simp,rfl⟩,if_neg (λh=>u h.1)]
theorem _p0{W:Wld}{bs:List Boat}{z:Str}{c:Nat}{j:Nat->Bool->List Nat}{l:List Nat}{k k':Nat}{b:Bool}(h:¬(k'=k/\b=YG W z k)):ccN W bs z c j (l++[k]) k' b=ccN W bs z c j l k' b:=by
 unfold ccN;by_cases e:k'=k
 .subst e;rw[if_neg (λy=>h ⟨rfl,y.2⟩),if_neg (λy=>h ⟨rfl,y.2⟩)]
 .have:k'∈l++[k]↔k'∈l:=by simp[e]
  simp only[this]
theorem _n7{l:List Nat}{i k:Nat}(z:l.Nodup)(h:l[i]?=some k):k∉l.take i:=λm=>by
 obtain⟨g,u,y⟩:=Y0 m;rw[Yf]at u;rw[DX]at y;have:=(Vq (i:=g) (j:=i) (by lia) z).mp (by rw[h,X7 (by lia),y])
 lia
theorem _qB(T:Txt K mg t):FnOk P w K mg base CX0 60 t.de t.em ["script"] (liSp K KJ):=by
 refine T.dJ.F.okM _px (_M (k:=59) (G:=Ru) (Φ:=[("_law_rings",BH),("_law_things",Bz),("_law_used",BK),("made",Br)]) (Ψ:=[("Run___init__",BG),("Run_given",BD),("Run_number",BJ),("Run_ring",BF),("Run_taken",BE)]) (Χ:=[("_law_rings",BH),("_law_things",Bz),("_law_used",BK),("made",Br),("Run___init__",BG),("Run_given",BD),("Run_number",BJ),("Run_ring",BF),("Run_taken",BE)]) rfl (_O T) (_P T) rfl (fMc ⟨SX,(fMc ⟨SF,(fMc ⟨T0,(fMc ⟨S6,(fMc ⟨SW,(fMc ⟨SL,(fMc ⟨SZ,(fMc ⟨SQ,(fMc ⟨SM,nl0⟩)⟩)⟩)⟩)⟩)⟩)⟩)⟩)⟩) (fMc ⟨fE T.bM (_dM T),(fMc ⟨fE T.bv (_cy T),(fMc ⟨fE T.bG (_eV T),(fMc ⟨fE T.ck (_o0 T),nl0⟩)⟩)⟩)⟩) (fMc ⟨⟨_,_,rfl,_,_,_,_,(FnOk.mono (_f0 T) (by decide)),T.ab,T.ac,T.dC,T.iF⟩,(fMc ⟨⟨_,_,rfl,_,_,_,_,(FnOk.mono (_dN T) (by decide)),T.ab,T.ac,T.gW,T.iE⟩,(fMc ⟨⟨_,_,rfl,_,_,_,_,(FnOk.mono (_g4 T) (by decide)),T.ab,T.ac,T.dt,T.fS⟩,(fMc ⟨⟨_,_,rfl,_,_,_,_,(FnOk.mono (_eY T) (by decide)),T.ab,T.ac,T.gg,T.cA⟩,nl0⟩)⟩)⟩)⟩) (fMc ⟨⟨_,_,rfl,_,_,_,_,_,(by decide:6+1<=59),_bt T,T.ab,T.dE,T.ii,T.iw⟩,nl0⟩) (_Q T)) Gy _rc (fun vs M Q h=>?_) (fun vs M Q h=>?_)
 .obtain⟨ns,rfl,_⟩:=h;rfl
 obtain⟨ns,rfl,h63,q⟩:=h;have hΦ:=(UG (Φ:=[("_law_rings",BH),("_law_things",Bz),("_law_used",BK),("made",Br),("Run___init__",BG),("Run_given",BD),("Run_number",BJ),("Run_ring",BF),("Run_taken",BE)]) (fMc ⟨SX,(fMc ⟨SF,(fMc ⟨T0,(fMc ⟨S6,(fMc ⟨SW,(fMc ⟨SL,(fMc ⟨SZ,(fMc ⟨SQ,(fMc ⟨SM,nl0⟩)⟩)⟩)⟩)⟩)⟩)⟩)⟩)⟩));show wSs _ _ _ [some (.frl (ns.map .int)),none,none,none,none,none,none,none,none,none,none,none,none,none,none,none,none,none,none] M;delta Gy Rt;simp!;refine⟨ns,3,rfl,λW pi pf ys M1 s1 G i1 f1 f2 f3 hpi hIs hpf=>?_⟩;have i5:=G.i5;have f6:=G.f6;simp!;delta Rs
 simp![hpi]
 intro p1 hp1;have s2:=SameM.new hp1 (.lst ys);have hp2:updM M1 p1 (.lst ys) p1=some (.lst ys):=Xa;generalize updM M1 p1 _=M2 at*;have hpf2:=s2 _ _ hpf
 simp![hpf2]
 intro Z hp3;have s3:=SameM.new hp3 (.lst (W.fer.map Fer.mv));have hp4:updM M2 Z (.lst (W.fer.map Fer.mv)) Z=some (.lst (W.fer.map Fer.mv)):=Xa;generalize updM M2 Z _=M3 at*;refine⟨p1,Z,ys,W,rfl,s3 _ _ hp2,hIs.keep (s2.trans s3),hp4,G,λM4 s4=>?_⟩;have s14:=(s2.trans s3).trans s4;have hpi4:=s14 _ _ hpi;have jH:=s14 _ _ hpf;have hIs4:=hIs.keep s14
 try simp!
 intro r hr;have rr:updM M4 r (.ins "Run" []) r=some (.ins "Run" []):=Xa;have s5:=SameM.new hr (.ins "Run" []);refine⟨r,W,rfl,rr,G,λR M5 fr5 hR5 hm5 hA5 ho5=>?_⟩;have s45:SameM M4 M5:=λa o e=>fr5 a o (s5 a o e) (by simpa using neM e hr)
 have hpi5:=s45 _ _ hpi4;have kc:=s45 _ _ jH;have hIs5:=hIs4.keep s45;have no5:∀a o,M4 a=some o->a∉R.own r:=λa o e z=>by
  rcases ho5 a z with rfl|c
  .rw[hr]at e;cases e
  .rw[s5 _ _ e]at c;cases c
 try simp!
 delta Rr;simp!;intro pD hpD;have s6:=SameM.new hpD (.dic []);have hD6:updM M5 pD (.dic []) pD=some (.dic []):=Xa;generalize updM M5 pD _=M6 at*;have hpf6:=s6 _ _ kc;delta Rq
 simp![hpf6]
 obtain⟨J0,hJ0⟩:∃J:Nat->Sm->MH->Prop,∀j U H,J j U H↔∃(es:List Addr) (la:Nat->Bool->Addr) (v6:Option MV),SameM M5 H/\TwoD H W j pD es (λk b=>.ref (la k b))/\(∀k b,k<j->H (la k b)=some (.lst [])/\M5 (la k b)=none)/\(∀k k' b b',k<j->k'<j->la k b=la k' b'->k=k'/\b=b')/\(∀e∈es,M5 e=none)/\U=[some (.frl (ns.map MV.int)),some (.int W.w),some (.ref pi),some (.ref pf),some (.ref r),some (.ref pD),v6,none,none,none,none,none,none,none,none,none,none,none,none]:=⟨_,λ_ _ _=>Y8⟩;refine⟨J0,(hJ0 _ _ _).mpr ⟨[],λ_ _=>pD,_,s6,TwoD.first hD6,λk b h=>absurd h (VB _),λk _ _ _ h=>absurd h (VB _),(λe h=>nomatch h),rfl⟩,λj U H h=>?_,?_,?_⟩
 .obtain⟨_,_,_,h,_⟩:=(hJ0 _ _ _).mp h;exact h _ _ kc
 .rintro j y U M7 hy h;obtain⟨es,la,v6,s7,hT,hla,hin,hes,rfl⟩:=(hJ0 _ _ _).mp h;obtain⟨hj,rfl⟩:=YF (show(W.fer.map Fer.mv)[j]?=some y from hy);have L:=X7 hj;generalize W.fer[j]=f at*;delta Rp
  simp![Fer.mv]
  intro p hp;refine⟨_,rfl,?_⟩;have fo:=(G.fo f (Xu L)).ne;have sa:=SameM.new hp (.dic []);have O:updM M7 p (.dic []) p=some (.dic []):=Xa;generalize updM M7 p _=Ma at*;intro p1 hp1;refine⟨_,rfl,?_⟩;have sb:=SameM.new hp1 (.lst []);have hb:updM Ma p1 (.lst []) p1=some (.lst []):=Xa;generalize updM Ma p1 _=Mb at*;intro Z hp2;have sc:=SameM.new hp2 (.lst []);have hc:updM Mb Z (.lst []) Z=some (.lst []):=Xa;generalize updM Mb Z _=Mc at*;refine⟨sc _ _ (sb _ _ O),?_⟩;rw[show Yj [(Xm f.giver,MV.ref p1),(Xm f.taker,.ref Z)]=twoK f (λb=>.ref (if b=true then p1 else Z))from twoK_put (val:=λb=>MV.ref (if b=true then p1 else Z)) fo];have hb2:=sc _ _ hb;have n1:p1≠p:=λz=>by rw[z,O]at hp1;cases hp1
  have n2:Z≠p:=λz=>by rw[z,sb _ _ O]at hp2;cases hp2
  have n3:p1≠Z:=neM hb hp2;have np:pD≠p:=neM hT.hD hp;have s7c:SameM M7 Mc:=(sa.trans sb).trans sc;have sd:∀a o,Mc a=some o->a≠p->updM Mc p (.dic (twoK f λb=>.ref (if b=true then p1 else Z))) a=some o:=λa o e n=>(X8 n).trans e;have hd:updM Mc p (.dic (twoK f λb=>.ref (if b=true then p1 else Z))) p=_:=Xa;generalize updM Mc p _=Md at*;have s7d:SameM M7 Md:=λa o e=>sd a o (s7c a o e) (neM e hp);have hDd:=s7d _ _ hT.hD;have fr:∀a,M7 a=none->M5 a=none:=λa e=>by
   cases e5:M5 a with
   |none=>rfl
   |some o=>rw[s7 _ _ e5]at e;cases e
  have f1':M7 p1=none:=sa.free hp1;have f2':M7 Z=none:=sa.free (sb.free hp2)
  simp![hDd]
  obtain⟨la',l1,l2⟩:∃la':Nat->Bool->Addr,(∀k b,k<j->la' k b=la k b)/\∀k b,¬k<j->la' k b=if b=true then p1 else Z:=⟨λk b=>if k<j then la k b else if b=true then p1 else Z,λ_ _ h=>if_pos h,λ_ _ h=>if_neg h⟩;have nl:∀a xs,Md a=some (.lst xs)->a≠pD:=λa xs e z=>by rw[z,hDd]at e;cases e
  refine⟨by rw[BA (by rw[Xb,hT.el,Yf,_V];lia),Yf];exact Ce (Nat.min_le_left _ _) (by lia),(hJ0 _ _ _).mpr ⟨es++[p],la',_,λa o e=>(X8 (neM e hpD)).trans (s7d a o (s7 a o e)),hT.add G L hp (λk b Y=>by rw[l1 k b Y]) (λa o e na=>(X8 na).trans (s7d a o e)) Xa ?_,λk b Y=>?_,λk k' b b' Y hk' e=>?_,?_,rfl⟩⟩
  .rw[show(λb=>MV.ref (la' j b))=λb=>.ref (if b=true then p1 else Z)from funext λb=>by rw[l2 j b (Uv _)]]
   exact(X8 (XM np)).trans hd
  .by_cases c:k<j
   .rw[l1 k b c];have e:=s7d _ _ (hla k b c).1;exact⟨(X8 (nl _ _ e)).trans e,(hla k b c).2⟩
   .rw[l2 k b c];cases b with
    |true=>
     have e:=sd _ _ hb2 n1;exact⟨(X8 (nl _ _ e)).trans e,fr _ f1'⟩
    |false=>
     have e:=sd _ _ hc n2;exact⟨(X8 (nl _ _ e)).trans e,fr _ f2'⟩
  .have old:∀k b,k<j->∀b',la k b≠(if b'=true then p1 else Z):=λk b Y b' z=>by
    have e:=(hla k b Y).1;rw[z]at e;cases b' with
    |true=>rw[if_pos rfl,f1']at e;cases e
    |false=>rw[if_neg (by decide),f2']at e;cases e
   by_cases c:k<j<;>by_cases c':k'<j
   .rw[l1 k b c,l1 k' b' c']at e;exact hin k k' b b' c c' e
   .rw[l1 k b c,l2 k' b' c']at e;exact(old k b c b' e).elim
   .rw[l2 k b c,l1 k' b' c']at e;exact(old k' b' c' b e.symm).elim
   .rw[l2 k b c,l2 k' b' c']at e;refine⟨by lia,?_⟩
    cases b<;>cases b'<;>first|rfl|exact absurd e n3|exact absurd e.symm n3
  .intro e he;rcases Yt.mp he with he|he
   .exact hes e he
   .obtain rfl:=Y1.mp he;exact fr _ hp
 .rintro U M7 h;obtain⟨es,la,v6,s7,hT,hla,hin,hes,rfl⟩:=(hJ0 _ _ _).mp h;rw[show Src.len (.lst pf (W.fer.map Fer.mv))=W.fer.length from Xb _]at hT hla hin;have hpi7:=s7 _ _ hpi5;have hIs7:=hIs5.keep s7;have hR7:=hR5.keep s7;have s47:=s45.trans s7;delta Ro;simp!;intro pc hpc;obtain⟨cs,hcs,cl⟩:∃cs:List Int,cutM (ns.map MV.int) (some 10) (some 90)=cs.map MV.int/\cs.length<=63:=by
   refine⟨(ns.drop (HT.sIx (ns.map MV.int).length 0 (some 10))).take (HT.sIx (ns.map MV.int).length (ns.map MV.int).length (some 90) - HT.sIx (ns.map MV.int).length 0 (some 10)),?_,?_⟩
   .unfold cutM;rw[List.map_take,List.map_drop]
   .rw[Yf,C0];lia
  rw[hcs];have s8:=SameM.new hpc (.lst (cs.map MV.int));have hc8:updM M7 pc (.lst (cs.map MV.int)) pc=some (.lst (cs.map MV.int)):=Xa;generalize updM M7 pc _=M8 at*;refine⟨pc,pi,cs,ys,W.isl,rfl,hc8,by lia,s8 _ _ hpi7,hIs7.keep s8,i1,i5,λp rs M9 s9 hp hp9 rl ro=>?_⟩
  have s79:=s8.trans s9;have no7:∀a,M5 a=none->a∉R.own r:=λa O z=>by
   obtain⟨o,e⟩:=hR5.own_some a z;rw[O]at e;cases e
  have none4:∀a,M5 a=none->M4 a=none:=λa O=>by
   cases e4:M4 a with
   |none=>rfl
   |some o=>rw[s45 _ _ e4]at O;cases O
  have hp5:M5 p=none:=by
   cases e5:M5 p with
   |none=>rfl
   |some o=>rw[s8 _ _ (s7 _ _ e5)]at hp;cases hp
  simp![hp9]
  obtain⟨J,hJ⟩:∃J:Nat->Sm->MH->Prop,∀j U H,J j U H↔∃(N:RunS) (cc:Nat->Bool->List Nat) (v6 v7 v8 v9 v10 v11 A v13 B C E F S:Option MV),RunAt H W r N (λ_=>N.m)/\SameM M4 H/\(∀a o,M4 a=some o->a∉N.own r)/\TwoD H W W.fer.length pD es (λk b=>.ref (la k b))/\H p=some (.lst (rs.map rgM))/\(∀a,a=p\/a=pD\/a∈es->a∉N.own r)/\(∀(k:Nat)(f:Fer)(x:Boat),W.fer[k]?=some f->N.bs[k]?=some x->∀b,H (la k b)=some (.lst ((cc k b).map λn=>natM (Xh f.k n)))/\la k b∉N.own r/\(cc k b).length<=j/\SeenBy f.st (cc k b) (if b=true then x.A.gx else x.A.tx))/\(∀y∈N.bs,y.A.ws.length<=j)/\U=[some (.frl (ns.map MV.int)),some (.int W.w),some (.ref pi),some (.ref pf),some (.ref r),some (.ref pD),v6,v7,v8,v9,v10,v11,A,v13,B,C,E,F,S]:=⟨_,λ_ _ _=>Y8⟩;refine⟨J,(hJ _ _ _).mpr ⟨R,λ_ _=>[],_,_,_,_,_,_,_,_,_,_,_,_,_,hR7.keep s79,s47.trans s79,no5,hT.keep λa o _ e=>s79 a o e,hp9,λa O=>?_,λk f x L X b=>?_,λy hy=>?_,rfl⟩,λj U H h=>?_,?_,?_⟩
  .rcases O with rfl|rfl|O
   .exact no7 _ hp5
   .exact no7 _ hpD
   .exact no7 _ (hes a O)
  .have Y:=(XE.mp L).1;refine⟨s79 _ _ (hla k b Y).1,no7 _ (hla k b Y).2,YA _,?_⟩;rw[hA5 k f x L X];cases b<;>exact SeenBy.first _
  .obtain⟨j,hj,rfl⟩:=Y0 hy;rw[hA5 j _ _ (X7 (by rw[<-hR5.bl];exact hj)) (X7 hj)]
   exact Xf _
  .obtain⟨_,_,_,_,_,_,_,_,_,_,_,_,_,_,_,_,_,_,_,h,_⟩:=(hJ _ _ _).mp h;exact h
  .rintro j y U H hy h;obtain⟨N,cc,v6,v7,v8,v9,v10,v11,A,v13,B,C,E,F,S,hR,s4',no',hT',hps,nO,hcc,hl,rfl⟩:=(hJ _ _ _).mp h;obtain⟨hj,rfl⟩:=YF (show(rs.map rgM)[j]?=some y from hy);have hjl:j<63:=by lia
   obtain⟨I,hIm,en⟩:=ro _ (XQ hj);generalize rs[j]=x at*;obtain⟨i,hi,rfl⟩:=Y0 hIm;have hI:=X7 hi;generalize W.isl[i]=I at*;obtain⟨n,hn⟩:∃n,N.nums[i]?=some n:=⟨_,X7 (by rw[hR.nl];exact hi)⟩
   have nb:=hR.nb i I n hI hn;have hpi':=s4' _ _ hpi4;have hIs':=hIs4.keep s4';obtain⟨bb,hbb,hb0⟩:=_lB G hIs4 hI;simp!;delta Rn;rw[en];simp!;refine Hs ys id yS (λy=>decide (yN y=I.name)) ?_ ?_ hΦ λD hD=>?_
   .simp![hpi']
    exact⟨(List.map_id ys).symm,by rw[hIs'.1];lia,hpi'⟩
   .intro y hy Mx sx;obtain⟨I',_,ia,ib,rfl,_⟩:=hIs'.mem hy;simp only[sCm,Xx,Yg,Yr,Ys,Ym,Y7,id];simp!;simp[yN,yS];exact decide_eq_decide.mpr Y8
   have sD:=SameM.new hD (.lst ((ys.filter λy=>decide (yN y=I.name)).map yS));have hD1:updM H D (.lst ((ys.filter λy=>decide (yN y=I.name)).map yS)) D=_:=Xa;generalize updM H D _=M10 at*
   simp![hD1]
   refine⟨_,Yp (j:=0) hb0,?_⟩;have ju:=hR.keep sD;have s410:=s4'.trans sD;have hT10:=hT'.keep λa o _ e=>sD a o e;have hp10:=sD _ _ hps;have hcc10:=fun(k:Nat) (f:Fer) (x:Boat) L X b=>sD _ _ (hcc k f x L X b).1;have ob10:=ju.ob;delta Rm
   simp![ob10,runO,valM]
   refine⟨r,W,N,_,i,n,I,rfl,G,ju,hI,hn,?_⟩;delta Rk;simp!;intro pC hpC;have sC:=SameM.new hpC (.dic []);have hC1:updM M10 pC (.dic []) pC=some (.dic []):=Xa;have hR11:=ju.keep sC;generalize updM M10 pC _=M11 at*;have hf11:=sC _ _ (s410 _ _ jH);delta Rj
   simp![hf11]
   obtain⟨J1,hJ1⟩:∃J:Nat->Sm->MH->Prop,∀k U Mk,J k U Mk↔∃(ds:List Addr) (v6 A:Option MV),SameM M10 Mk/\TwoD Mk W k pC ds (cntB N.bs)/\(∀d∈ds,M10 d=none)/\U=[some (.frl (ns.map MV.int)),some (.int W.w),some (.ref pi),some (.ref pf),some (.ref r),some (.ref pD),v6,some (.str I.name),some (.int x.2),some (.ref bb),some (.int n),some (.ref pC),A,v13,B,C,E,F,S]:=⟨_,λ_ _ _=>Y8⟩;refine⟨J1,(hJ1 _ _ _).mpr ⟨[],_,_,sC,TwoD.first hC1,(λd h=>nomatch h),rfl⟩,λk U Mk h=>?_,?_,?_⟩
   .obtain⟨_,_,_,h,_⟩:=(hJ1 _ _ _).mp h;exact h _ _ (s410 _ _ jH)
   .rintro k y U Mk hy h;obtain⟨ds,v6,A,sk,hTk,hds,rfl⟩:=(hJ1 _ _ _).mp h;obtain⟨Y,rfl⟩:=YF (show(W.fer.map Fer.mv)[k]?=some y from hy);have L:=X7 Y;generalize W.fer[k]=f at*;obtain⟨b,hb⟩:∃b,N.bs[k]?=some b:=⟨_,X7 (by rw[hR.bl];exact Y)⟩
    have hRk:=ju.keep sk;have obk:=hRk.ob;have fo:=(G.fo f (Xu L)).ne;delta Ri
    simp![obk,runO,valM,Fer.mv]
    refine⟨r,W,N,_,k,f,b,rfl,G,hRk,L,hb,λpg hpg=>?_⟩;have sg:=SameM.new hpg (.lst (b.A.ws.map natM));have hg1:updM Mk pg (.lst (b.A.ws.map natM)) pg=some (.lst (b.A.ws.map natM)):=Xa;generalize updM Mk pg _=Mg at*;have hRg:=hRk.keep sg;have obg:=hRg.ob
    simp![hg1,Xb,obg,runO,valM]
    refine⟨r,W,N,_,k,f,b,rfl,G,hRg,L,hb,λpt hpt=>?_⟩;have st:=SameM.new hpt (.lst ((b.A.ws.take b.A.tn).map natM));have ht1:updM Mg pt (.lst ((b.A.ws.take b.A.tn).map natM)) pt=some (.lst ((b.A.ws.take b.A.tn).map natM)):=Xa;generalize updM Mg pt _=Mt at*;have tl:(b.A.ws.take b.A.tn).length=b.A.tn:=by rw[Yf];exact Cf (hR.ba k f b L hb).fy.ok.two.1
    simp![ht1,Xb,tl]
    intro Z hp2;have s2':=SameM.new hp2 (.lst [.int b.A.ws.length,.int b.A.tn]);have h2':updM Mt Z (.lst [.int b.A.ws.length,.int b.A.tn]) Z=some (.lst [.int b.A.ws.length,.int b.A.tn]):=Xa;generalize updM Mt Z _=Mu at*;have sku:=((sg.trans st).trans s2');delta Rh
    simp![h2',Fer.mv]
    intro pe hpe;refine⟨_,rfl,?_⟩;have se:=SameM.new hpe (.dic []);have he1:updM Mu pe (.dic []) pe=some (.dic []):=Xa;have h2e:=se _ _ h2';have see:∀a o u,Mu a=some o->updM (updM Mu pe (.dic [])) pe u a=some o:=λa o u e=>(X8 (neM e hpe)).trans (se a o e);have hee:∀u,updM (updM Mu pe (.dic [])) pe u pe=some u:=λu=>Xa;generalize updM Mu pe _=Me at*
    simp![h2e,_m3,_m2]
    refine⟨_,rfl,he1,?_⟩;rw[show Yj [(Xm f.giver,MV.int b.A.ws.length),(Xm f.taker,.int b.A.tn)]=twoK f (cntB N.bs k) by rw[T1 hb];exact twoK_put (val:=λq=>MV.int ((if q=true then b.A.ws.length else b.A.tn:Nat):Int)) fo]
    have skf:∀a o,Mk a=some o->updM Me pe (.dic (twoK f (cntB N.bs k))) a=some o:=λa o e=>see a o _ (sku a o e);have hef:=hee (.dic (twoK f (cntB N.bs k)));generalize updM Me pe _=Mf at*;have hCf:=skf _ _ hTk.hD;have npe:pC≠pe:=neM (sku _ _ hTk.hD) hpe
    simp![hCf]
    exact⟨by rw[BA (by rw[Xb,hTk.el,Yf,_V];lia),Yf];exact Ce (Nat.min_le_left _ _) (by lia),(hJ1 _ _ _).mpr ⟨ds++[pe],_,_,λa o e=>(X8 (neM e hpC)).trans (skf a o (sk a o e)),hTk.add G L (sku.free hpe) (λ_ _ _=>rfl) (λa o e na=>(X8 na).trans (skf a o e)) Xa ((X8 (XM npe)).trans hef),λd hd=>(Yt.mp hd).elim (hds d) λz=>by rw[Y1.mp z];exact sk.free (sku.free hpe),rfl⟩⟩
   .rintro U M12 h;obtain⟨ds,v6,A,s12,hT12,hds,rfl⟩:=(hJ1 _ _ _).mp h;rw[show Src.len (.lst pf (W.fer.map Fer.mv))=W.fer.length from Xb _]at hT12;have ke:=ju.keep s12;have s412:=s410.trans s12;have ob12:=ke.ob;delta Rg
    simp![ob12,runO,valM]
    refine⟨r,W,N,i,I,x.2,n,_,rfl,G,ke,hI,λy hy=>Y4 (hl y hy) (by lia),hn,rfl,λρ R2 M13 v pS hR2 k2 m2 hpS nS hS bT wT=>?_⟩
    generalize ho:I.stps[n]?=o at*;generalize x.2=c at*;have kO:∀a u,a∉N.own r->M12 a=some u->M13 a=some u/\a∉R2.own r:=λa u O e=>⟨k2.fr _ _ e O,λz=>(k2.nw a z).elim O λc=>by rw[e]at c;cases c⟩
    have dno:∀a,M10 a=none->a∉N.own r:=λa O z=>by
     obtain⟨u,e⟩:=ju.own_some a z;rw[O]at e;cases e
    have s413:SameM M4 M13:=λa o e=>(kO a o (no' a o e) (s412 a o e)).1;have no2:∀a o,M4 a=some o->a∉R2.own r:=λa o e=>(kO a o (no' a o e) (s412 a o e)).2;have hT13:TwoD M13 W W.fer.length pD es (λk b=>.ref (la k b)):=hT10.keep λa u O e=>(kO a u (nO a (.inr O)) (s12 _ _ e)).1;have hC13:TwoD M13 W W.fer.length pC ds (cntB N.bs):=hT12.keep λa u O e=>(kO a u (dno a (O.elim (λz=>z▸hpC) (hds a))) e).1;have hcc13:=fun(k:Nat) (f:Fer) (x:Boat) L X b=>kO _ _ (hcc k f x L X b).2.1 (s12 _ _ (hcc10 k f x L X b));have hp13:=kO _ _ (nO p (.inl rfl)) (s12 _ _ hp10);have nO2:∀a,a=p\/a=pD\/a∈es->a∉R2.own r:=λa O=>by
     rcases O with rfl|O
     .exact hp13.2
     .obtain⟨kv,e⟩:=hT10.some_ a O;exact(kO a _ (nO a (.inr O)) (s12 _ _ e)).2
    have hf13:=s413 _ _ jH;have hb13:=s413 _ _ hbb;have im:I∈W.isl:=Xu hI;have hE:∀s,o=some s->Z5 W.fer I.name s:=λs e=>G.en I im s (Xu (ho.trans e));delta Rf
    simp![hf13]
    obtain⟨J2,hJ2⟩:∃J:Nat->Sm->MH->Prop,∀k U Mk,J k U Mk↔∃(v6 B C E F:Option MV),SameM M13 Mk/\U=[some (.frl (ns.map MV.int)),some (.int W.w),some (.ref pi),some (.ref pf),some (.ref r),some (.ref pD),v6,some (.str I.name),some (.int c),some (.ref bb),some (.int n),some (.ref pC),A,some (.tup [.str I.name,.int n,v,.ref pS]),B,C,E,F,S]:=⟨_,λ_ _ _=>Y8⟩;refine⟨J2,(hJ2 _ _ _).mpr ⟨_,_,_,_,_,SameM.refl _,rfl⟩,λk U Mk h=>?_,?_,?_⟩
    .obtain⟨_,_,_,_,_,h,_⟩:=(hJ2 _ _ _).mp h;exact h _ _ hf13
    .rintro k y U Mk hy h;obtain⟨v6,B,C,E,F,sk,rfl⟩:=(hJ2 _ _ _).mp h;obtain⟨Y,rfl⟩:=YF (show(W.fer.map Fer.mv)[k]?=some y from hy);have L:=X7 Y;generalize W.fer[k]=f at*;obtain⟨b,hb⟩:∃b,N.bs[k]?=some b:=⟨_,X7 (by rw[hR.bl];exact Y)⟩
     have hbk:=sk _ _ hb13;delta Re;refine _ra hΦ (λσ' H=>H=Mk/\σ'=[some (.frl (ns.map MV.int)),some (.int W.w),some (.ref pi),some (.ref pf),some (.ref r),some (.ref pD),some f.mv,some (.str I.name),some (.int c),some (.ref bb),some (.int n),some (.ref pC),A,some (.tup [.str I.name,.int n,v,.ref pS]),B,C,E,F,S]/\∃(x g:Str) (l:List MV),atI (I.stps.map Stp.mv) (n:Int)=some (.tup (.str x::.str g::l))/\∀s,XU o s=decide (g=s)) ?_ ?_
     .have nxt:J2 (k+1) [some (.frl (ns.map MV.int)),some (.int W.w),some (.ref pi),some (.ref pf),some (.ref r),some (.ref pD),some f.mv,some (.str I.name),some (.int c),some (.ref bb),some (.int n),some (.ref pC),A,some (.tup [.str I.name,.int n,v,.ref pS]),B,C,E,F,S] Mk:=(hJ2 _ _ _).mpr ⟨_,_,_,_,_,sk,rfl⟩;have ne:∀a:Str,a="put"\/a="jump"->¬(a="give"\/a="take"):=fun a O hb=>by
       rcases O with rfl|rfl<;>rcases hb with hb|hb<;>(rw[V8]at hb;revert hb;decide)
      rcases o with _|st
      .have en':n=I.stps.length:=by have:=DP.mp ho;lia
       subst en'
       simp![hbk,Xb,Dk]
       exact nxt
      .have hnl:n<I.stps.length:=(XE.mp ho).1;have an:atI (I.stps.map Stp.mv) (n:Int)=some st.mv:=Yp (by rw[Xr,ho];rfl)
       have nn:¬(n:Int)=(I.stps.length:Int):=by lia
       cases st with
       |put y T=>
        simp![hbk,Xb,an,nn,Stp.mv]
        refine⟨rfl,rfl,?_⟩;rw[_d,decide_eq_false (ne _ (.inl rfl))]
        simp![Dk]
        exact nxt
       |jump T m=>
        simp![hbk,Xb,an,nn,Stp.mv]
        refine⟨rfl,rfl,?_⟩;rw[_d,decide_eq_false (ne _ (.inr rfl))]
        simp![Dk]
        exact nxt
       |give g T=>
        simp![hbk,Xb,an,nn,Stp.mv]
        refine⟨rfl,rfl,?_⟩;rw[_d,decide_eq_true (.inl rfl)];simp!;exact⟨_,_,_,rfl,λ_=>rfl⟩
       |take g y=>
        simp![hbk,Xb,an,nn,Stp.mv]
        refine⟨rfl,rfl,?_⟩;rw[_d,decide_eq_true (.inr rfl)];simp!;exact⟨_,_,_,rfl,λ_=>rfl⟩
     .rintro σ' H ⟨rfl,rfl,x1,g,l,ag,hw⟩;delta Rc
      simp![hbk,ag,Fer.mv]
      refine Y3 (λcg=>?_) (λcg=>?_)
      .subst cg;have fm:=Xu L;have fo:=G.fo f fm;have hwf:XU o f.name=true:=(hw f.name).trans (decide_eq_true rfl);have cz:=_kK hE fm hwf;obtain⟨kv,e,d1,d2,d3⟩:=hT13.at_ G L;obtain⟨kv',e',d1',d2',d3'⟩:=hC13.at_ G L;have d1:=sk _ _ d1;have d3:=sk _ _ d3;have d1':=sk _ _ d1';have d3':=sk _ _ d3';have vS:=twoK_val (val:=λq=>MV.ref (la k q)) fo.ne cz;obtain⟨dg,hdg⟩:∃dg,decide (f.giver=I.name)=dg:=⟨_,rfl⟩;rw[hdg]at vS;have vC:valM (twoK f (cntB N.bs k)) (Xm I.name)=some (.int ((if dg=true then b.A.ws.length else b.A.tn:Nat):Int)):=(twoK_val fo.ne cz).trans (by rw[T1 hb,hdg])
       have Bk:=hR.ba k f b L hb;have hL:=sk _ _ (hcc13 k f b L hb dg).1;have hSn:=(hcc k f b L hb dg).2.2.2;delta Rb
       simp![Fer.mv,d1,d2,d3,vS]
       refine⟨_,f.k,f.st,_,_,rfl,hL,by rw[<-Bk.k];exact Bk.fy.ok.k4,fo.s1,hSn,?_⟩
       delta Ra
       simp![Fer.mv,d1',d2',d3',vC]
       have hlt:=_ok (W:=W) (z:=I.name) (ρ:=ρ) Bk.fy.ok hE fm fo.ne hwf;rw[hdg,Bk.k]at hlt;generalize((if dg=true then b.A.ws.length else b.A.tn:Nat):Int)=cn at*;generalize((Xy (if dg=true then b.A.gx else b.A.tx)%2^(f.k+1):Nat):Int)=sn at*;have e2:(2:Int)*2^(f.k:Int).toNat=2*2^f.k:=by rw[YR]
       have k3:=fo.k3;rw[e2];refine⟨⟨by lia,by lia⟩,Int.mul_pos (by decide) (W8 _),?_⟩
       delta R9
       simp![Fer.mv]
       rw[show(1:Int)*2^(f.k:Int).toNat=1*2^f.k by rw[YR]]
       refine⟨⟨by lia,by lia⟩,λpl hpl=>⟨.int (if I.name=f.giver then 1*2^f.k else 0),by split<;>rfl,?_⟩⟩
       have sl:=sk.trans (SameM.new hpl (.lst [.int 0,.int (1*2^f.k)]));generalize updM H pl _=Ml at*;delta R8;simp!;delta R7;rcases _in G L hb cz hwf wT with⟨hh,x',y',u',rfl⟩|⟨hh,rfl⟩
       .have lf:¬(cn - sn)%(2*2^f.k)=(if I.name=f.giver then 1*2^f.k else 0):=λz=>by rw[hlt.mpr z]at hh;cases hh
        simp![Fer.mv]
        refine _sM ?_;show(if¬(false=decide _)then _ else _);rw[decide_eq_false lf,if_neg (λh=>h rfl)];exact(hJ2 _ _ _).mpr ⟨_,_,_,_,_,sl,rfl⟩
       .have lf:=hlt.mp hh
        simp![Fer.mv]
        refine _i8 rfl ?_;show(if¬(true=decide _)then _ else _);rw[decide_eq_true lf,if_neg (λh=>h rfl)];exact(hJ2 _ _ _).mpr ⟨_,_,_,_,_,sl,rfl⟩
      .exact(hJ2 _ _ _).mpr ⟨_,_,_,_,_,sk,rfl⟩
    .rintro U M14 h;obtain⟨v6,B,C,E,F,s14',rfl⟩:=(hJ2 _ _ _).mp h;have hS14:=s14' _ _ hS;delta R6
     simp![hS14]
     have nS4:M4 pS=none:=s412.free hpS;obtain⟨J3,hJ3⟩:∃J:Nat->Sm->MH->Prop,∀i U Mi,J i U Mi↔∃(v6 S:Option MV),RunAt Mi W r R2 (λ_=>R2.m)/\SameM M4 Mi/\TwoD Mi W W.fer.length pD es (λk b=>.ref (la k b))/\Mi p=some (.lst (rs.map rgM))/\Mi pS=some (.lst ((ixs W I.name W.fer.length).map (smpM W N.bs I.name c)))/\(∀(k:Nat)(f:Fer)(x:Boat)(b:Bool),W.fer[k]?=some f->N.bs[k]?=some x->Mi (la k b)=some (.lst ((ccN W N.bs I.name c cc ((ixs W I.name W.fer.length).take i) k b).map λn=>natM (Xh f.k n))))/\U=[some (.frl (ns.map MV.int)),some (.int W.w),some (.ref pi),some (.ref pf),some (.ref r),some (.ref pD),v6,some (.str I.name),some (.int c),some (.ref bb),some (.int n),some (.ref pC),A,some (.tup [.str I.name,.int n,v,.ref pS]),B,C,E,F,S]:=⟨_,λ_ _ _=>Y8⟩;have c0:∀k b,ccN W N.bs I.name c cc [] k b=cc k b:=λk b=>if_neg (λh=>nomatch h.1);refine⟨J3,(hJ3 _ _ _).mpr ⟨_,_,hR2.keep s14',s413.trans s14',hT13.keep λa o _ e=>s14' a o e,s14' _ _ hp13.1,hS14,λk f x b L X=>?_,rfl⟩,λi U Mi h=>?_,?_,?_⟩
     .rw[List.take_zero,c0];exact s14' _ _ (hcc13 k f x L X b).1
     .obtain⟨_,_,_,_,_,_,h,_⟩:=(hJ3 _ _ _).mp h;exact h
     .rintro i y U Mi hy h;obtain⟨v6,S,hRi,s4i,hTi,hpi'',hSi,hli,rfl⟩:=(hJ3 _ _ _).mp h;obtain⟨hi',rfl⟩:=YF (show((ixs W I.name W.fer.length).map (smpM W N.bs I.name c))[i]?=some y from hy);have hkm:(ixs W I.name W.fer.length)[i]∈ixs W I.name W.fer.length:=XQ hi';have hkx:(ixs W I.name W.fer.length)[i]?=some (ixs W I.name W.fer.length)[i]:=X7 hi';generalize(ixs W I.name W.fer.length)[i]=k at*;obtain⟨Y,hat⟩:=ixs_mem.mp hkm;have L:W.fer[k]?=some W.fer[k]:=X7 Y;generalize W.fer[k]=f at*;obtain⟨x,X⟩:∃x,N.bs[k]?=some x:=⟨_,X7 (by rw[hR.bl];exact Y)⟩
      have cz:I.name=f.giver\/I.name=f.taker:=by rw[DO L]at hat;exact of_decide_eq_true hat
      have fo:=G.fo f (Xu L);obtain⟨kv,e,d1,d2,d3⟩:=hTi.at_ G L;have vS:=twoK_val (val:=λq=>MV.ref (la k q)) fo.ne cz;rw[<-T3 (z:=I.name) L]at vS;have hL:=hli k f x (YG W I.name k) L X;rw[SO L X,_nb L X,(hR.ba k f x L X).k];simp!;delta R5
      simp![d1,d2,d3,vS,hL]
      have kn:=_n7 _qP hkx;have eK:(ixs W I.name W.fer.length).take (i+1)=(ixs W I.name W.fer.length).take i++[k]:=by rw[Zk,hkx];rfl
      have hc3:=hcc k f x L X (YG W I.name k);refine⟨⟨_,rfl⟩,by rw[Xb];exact Ce (T4 hc3.2.2.1) (by lia),?_⟩
      rw[show(ccN W N.bs I.name c cc ((ixs W I.name W.fer.length).take i) k (YG W I.name k)).map (λn=>natM (Xh f.k n))++[MV.int (Xh f.k (sN W N.bs I.name c k):Nat)]=(ccN W N.bs I.name c cc ((ixs W I.name W.fer.length).take (i+1)) k (YG W I.name k)).map (λn=>natM (Xh f.k n)) by rw[eK,_p1 kn,XX];rfl]
      have l4:=none4 _ (hla k (YG W I.name k) Y).2;have np1:la k (YG W I.name k)≠p:=neM (s8 _ _ (hla k (YG W I.name k) Y).1) hp;have np2:la k (YG W I.name k)≠pS:=neM (s12 _ _ (hcc10 k f x L X (YG W I.name k))) hpS;refine(hJ3 _ _ _).mpr ⟨_,_,hRi.off hL (hcc13 k f x L X (YG W I.name k)).2 _,λa o ea=>(X8 (neM ea l4)).trans (s4i a o ea),hTi.keep λa o O ea=>(X8 λz=>?_).trans ea,(X8 (XM np1)).trans hpi'',(X8 (XM np2)).trans hSi,λk' f' x' b' hf' hx'=>?_,rfl⟩
      .obtain⟨kv2,e2⟩:=hTi.some_ a O;rw[z,hL]at e2;cases e2
      .have hk':=(XE.mp hf').1;by_cases c':k'=k/\b'=YG W I.name k
       .obtain⟨rfl,rfl⟩:=c';rw[L]at hf';cases hf';exact Xa
       .rw[eK,_p0 c'];exact(X8 λz=>c' (hin k' k b' _ hk' Y z)).trans (hli k' f' x' b' hf' hx')
     .rintro U Mi h;obtain⟨v6,S,hRi,s4i,hTi,hpi'',hSi,hli,rfl⟩:=(hJ3 _ _ _).mp h;rw[show Src.len (.lst pS ((ixs W I.name W.fer.length).map (smpM W N.bs I.name c)))=(ixs W I.name W.fer.length).length from Xb _,C2]at hli;refine(hJ _ _ _).mpr ⟨R2,ccN W N.bs I.name c cc (ixs W I.name W.fer.length),_,_,_,_,_,_,_,_,_,_,_,_,_,hRi,s4i,no2,hTi,hpi'',nO2,λk f x' L hx' b=>?_,bT.len hR2.bl hR.bl (λk Y=>?_) hl,rfl⟩
      .have Y:=(XE.mp L).1;obtain⟨x,X⟩:∃x,N.bs[k]?=some x:=⟨_,X7 (by rw[hR.bl];exact Y)⟩
       obtain⟨x2,hx2,eA⟩:=bT k f x Y L X;rw[hx']at hx2;cases hx2;have h3:=hcc k f x L X b;exact⟨hli k f x b L X,(hcc13 k f x L X b).2,T4 h3.2.2.1,_m0 L X (G.fo f (Xu L)).s1 eA h3.2.2.2⟩
      .rw[Zi (by rw[hR2.bl];exact Y),Zi (by rw[hR.bl];exact Y)]
  .rintro U H h;obtain⟨N,cc,v6,v7,v8,v9,v10,v11,A,v13,B,C,E,F,S,hR,s4',no',hT',hps,nO,hcc,hl,rfl⟩:=(hJ _ _ _).mp h;delta R4;simp!;exact q _
end
theorem all_mk{l:E7}{w:Xn}{K:X4}{h:Heap}{mg:Str->Option X0}{fa:Addr}(X:K.In h)(G:h.Ns Xp mg)(hfa:mg "law"=some (.ref fa))
  {j:Addr}
  {y:Addr}
  {u:Addr}
  {m:Addr} {d15:Xd}
  {g:Addr} {d16:Xd}
  {d:Addr} {d17:Xd}
  {c:Addr} {d18:Xd}
  {f:Addr} {d19:Xd}
  {q:Addr} {d20:Xd}
  {r:Addr} {d21:Xd}
  {p:Addr} {d22:Xd}
  {L:Addr} {d52:Xd}
  {N:Addr} {d53:Xd}
  {O:Addr} {d54:Xd}
  {P:Addr} {d55:Xd}
  {R:Addr} {d56:Xd}
  {U:Addr} {d57:Xd}
  {W:Addr} {d58:Xd}
  {f1 f2 f3 f4 f5 f6 f7 f8 f9 Y Z A B C D E F I J M Q S H o i n x b a f38 f39 f40 f41 f42 f43 f44 f45 f46 f47 f48 f49 f50 f51 f59 f60 f61 f62 f63 f64 f65 f66 f67 f68:Addr} {d1 d2 d3 d4 d5 d6 d7 d8 d9 d10 d11 d12 d13 d14 d23 d24 d25 d26 d27 d28 d29 d30 d31 d32 d33 d34 d35 d36 d37 d38 d39 d40 d41 d42 d43 d44 d45 d46 d47 d48 d49 d50 d51 d59 d60 d61 d62 d63 d64 d65 d66 d67 z:Xd}
  {tk1:Tok}
  {tk2:Tok}
  {tk3:Tok}
  {tk4:Tok}
  {tk5:Tok}
  {tk6:Tok}
  {tk7:Tok}
  {tk8:Tok}
  {tk9:Tok}
  {tk10:Tok}
  {tk11:Tok}
  (jr:XA K Xp "Run"=some (some (.ref j)))
  (jb:XA K Xp "Ferry"=some (some (.ref y)))
  (jc:XA K Xp "Side"=some (some (.ref u)))
  (h1:Fn1 K "is_whole" A4 f1 d1)
  (h2:Fn1 K "is_width" A5 f2 d2)
  (h3:Fn1 K "two_to" A6 f3 d3)
  (h4:Fn1 K "fits" A7 f4 d4)
  (h5:Fn1 K "cut" A8 f5 d5)
  (h6:Fn1 K "amid" A9 f6 d6)
  (h7:Fn1 K "code_of" Aa f7 d7)
  (h8:Fn1 K "number_of" Ac f8 d8)
  (h9:Fn1 K "first_sign" Ad f9 d9)
  (h10:Fn1 K "shown" Ae Y d10)
  (h11:Fn1 K "first_sight" Af Z d11)
  (h12:Fn1 K "sampled" Ag A d12)
  (h13:Fn1 K "moved" Ah B d13)
  (h14:Fn1 K "used" Ai C d14)
  (h15:Mt1 K u "__init__" "Side.__init__" Aj m d15)
  (h16:Mt1 K u "ring_ahead" "Side.ring_ahead" Ak g d16)
  (h17:Mt1 K u "less_the_seen" "Side.less_the_seen" Al d d17)
  (h18:Mt1 K u "grow" "Side.grow" Am c d18)
  (h19:Mt1 K u "show_and_see" "Side.show_and_see" An f d19)
  (h20:Mt1 K y "__init__" "Ferry.__init__" Ao q d20)
  (h21:Mt1 K y "ring_giver" "Ferry.ring_giver" Ap r d21)
  (h22:Mt1 K y "ring_taker" "Ferry.ring_taker" Aq p d22)
  (h23:Fn1 K "parts_within" Ar D d23)
  (h24:Fn1 K "size_of" As E d24)
  (h25:Fn1 K "names_read" At F d25)
  (h26:Fn1 K "vars_in" Au I d26)
  (h27:Fn1 K "worth_of_two" Av J d27)
  (h28:Fn1 K "worth" Aw M d28)
  (h29:Fn1 K "wish" Ax Q d29)
  (h30:Fn1 K "number_after" Ay S d30)
  (h31:Fn1 K "words_after" Az H d31)
  (h32:Fn1 K "after" AA o d32)
  (h33:Fn1 K "is_name" AB i d33)
  (h34:Fn1 K "refuse_name" AC n d34)
  (h35:Fn1 K "refuse_unknown" AD x d35)
  (h36:Fn1 K "refuse_ferry_names" AE b d36)
  (h37:Fn1 K "refuse_variables" AF a d37)
  (h38:Fn1 K "refuse_term" AG f38 d38)
  (h39:Fn1 K "refuse_step" AH f39 d39)
  (h40:Fn1 K "refuse_island" AI f40 d40)
  (h41:Fn1 K "refuse_islands" AJ f41 d41)
  (h42:Fn1 K "refuse_ferry" AK f42 d42)
  (h43:Fn1 K "refuse_wrong_end" AL f43 d43)
  (h44:Fn1 K "refuse_wrong_ends" AM f44 d44)
  (h45:Fn1 K "frozen" AN f45 d45)
  (h46:Fn1 K "made" AO f46 d46)
  (h47:Fn1 K "one_called" AQ f47 d47)
  (h48:Fn1 K "island_of" AR f48 d48)
  (h49:Fn1 K "what_alone" AS f49 d49)
  (h50:Fn1 K "is_wish_of" AT f50 d50)
  (h51:Fn1 K "looked_up" AU f51 d51)
  (h52:Mt1 K j "__init__" "Run.__init__" AV L d52)
  (h53:Mt1 K j "ring" "Run.ring" AW N d53)
  (h54:Mt1 K j "ring_ferry" "Run.ring_ferry" AX O d54)
  (h55:Mt1 K j "go_on" "Run.go_on" AY P d55)
  (h56:Mt1 K j "number" "Run.number" AZ R d56)
  (h57:Mt1 K j "given" "Run.given" B0 U d57)
  (h58:Mt1 K j "taken" "Run.taken" B1 W d58)
  (h59:Fn1 K "_law_cell_at" B3 f59 d59)
  (h60:Fn1 K "_law_name" B4 f60 d60)
  (h61:Fn1 K "_law_term" B5 f61 d61)
  (h62:Fn1 K "_law_step" B6 f62 d62)
  (h63:Fn1 K "_law_island" B7 f63 d63)
  (h64:Fn1 K "_law_things" B8 f64 d64)
  (h65:Fn1 K "_law_rings" B9 f65 d65)
  (h66:Fn1 K "_law_number" Ba f66 d66)
  (h67:Fn1 K "_law_used" Bb f67 d67)
  (h68:Fn1 K "law" Bc f68 z)
  (jj:UT K u U4=true)(jk:Vy K u=true)(jm:Wp K u=true)(jn:XV K (.ref u) "__setattr__"=some (some (.builtin "object.__setattr__")))(jo:Wq K u=true)(jp:YQ K (.ref u)=true)
  (j7:XV K (.ref u) "turn"=some none)
  (j4:XV K (.ref u) "total"=some none)
  (j8:XV K (.ref u) "sign"=some none)
  (j5:XV K (.ref u) "sight"=some none)
  (jd:UT K y U4=true)(je:Vy K y=true)(jf:Wp K y=true)(jg:XV K (.ref y) "__setattr__"=some (some (.builtin "object.__setattr__")))(jh:Wq K y=true)(ji:YQ K (.ref y)=true)
  (iX:XV K (.ref y) "places"=some none)
  (iY:XV K (.ref y) "giver"=some none)
  (iZ:XV K (.ref y) "taker"=some none)
  (jy:UT K j U4=true)(jz:Vy K j=true)(jA:Wp K j=true)(jB:XV K (.ref j) "__setattr__"=some (some (.builtin "object.__setattr__")))(jC:Wq K j=true)(jD:YQ K (.ref j)=true)
  (j9:XV K (.ref j) "world"=some none)
  (j6:XV K (.ref j) "moment"=some none)
  (iQ:XV K (.ref j) "next_numbers"=some none)
  (iW:XV K (.ref j) "words_now"=some none)
  (iR:XV K (.ref j) "steps_so_far"=some none)
  (ja:XV K (.ref j) "boats"=some none)
  (iS:XV K (.ref j) "given_so_far"=some none)
  (iT:XV K (.ref j) "taken_so_far"=some none)
  (z1:XA K Xp "all"=some none)
  (z2:XA K Xp "bool"=some none)
  (z3:XA K Xp "dict"=some none)
  (z4:XA K Xp "int"=some none)
  (z5:XA K Xp "isinstance"=some none)
  (z6:XA K Xp "len"=some none)
  (z7:XA K Xp "list"=some none)
  (z8:XA K Xp "max"=some none)
  (z9:XA K Xp "min"=some none)
  (z10:XA K Xp "range"=some none)
  (z11:XA K Xp "set"=some none)
  (z12:XA K Xp "sorted"=some none)
  (z13:XA K Xp "tuple"=some none)
  (g1:XA K Xp "MOST_WIDTH"=some (some (.int 64 tk1)))
  (g2:XA K Xp "MOST_LETTERS"=some (some (.int 8 tk2)))
  (g3:XA K Xp "MOST_ISLANDS"=some (some (.int 5 tk3)))
  (g4:XA K Xp "MOST_FERRIES"=some (some (.int 6 tk4)))
  (g5:XA K Xp "MOST_VARS"=some (some (.int 6 tk5)))
  (g6:XA K Xp "MOST_STEPS"=some (some (.int 12 tk6)))
  (g7:XA K Xp "MOST_PARTS"=some (some (.int 30 tk7)))
  (g8:XA K Xp "MOST_DEPTH"=some (some (.int 8 tk8)))
  (g9:XA K Xp "MOST_K"=some (some (.int 3 tk9)))
  (g10:XA K Xp "MOST_STAGES"=some (some (.int 3 tk10)))
  (g11:XA K Xp "BITS_A_FERRY"=some (some (.int 8 tk11))):
  ∃fd:Xd,(∀(s:X2)(v:X0),BindsTo s fd ⟨[v],[]⟩ [("script",v)])/\∀base:Heap,K.In base->base.Ns Xp mg->FnOk l.prog w K mg base CX0 60 fa fd ["script"] (Dc K):=by
 have e:=hfa.symm.trans (Yy X G h68.a);cases e;have T:Txt K mg ⟨f1,d1,f2,d2,f3,d3,f4,d4,f5,d5,f6,d6,f7,d7,f8,d8,f9,d9,Y,d10,Z,d11,A,d12,B,d13,C,d14,m,_,g,_,d,_,c,_,f,_,q,_,r,_,p,_,D,d23,E,d24,F,d25,I,d26,J,d27,M,d28,Q,d29,S,d30,H,d31,o,d32,i,d33,n,d34,x,d35,b,d36,a,d37,f38,d38,f39,d39,f40,d40,f41,d41,f42,d42,f43,d43,f44,d44,f45,d45,f46,d46,f47,d47,f48,d48,f49,d49,f50,d50,f51,d51,L,_,N,_,O,_,P,_,R,_,U,_,W,_,f59,d59,f60,d60,f61,d61,f62,d62,f63,d63,f64,d64,f65,d65,f66,d66,f67,d67,fa,z,u,y,j⟩:={
  aW:=h1.t X G λ_ _ _ _ _ _=>us1 (λ_=>rfl)
  aG:=h2.t X G λ_ _ _ _ _ _=>us1 (λ_=>rfl)
  aB:=h3.t X G λ_ _ _ _ _ _=>us1 (λ_=>rfl)
  bS:=h4.t X G λ_ _ _ _ _ _=>us2 (λ_ _=>rfl)
  aE:=h5.t X G λ_ _ _ _ _ _=>us2 (λ_ _=>rfl)
  bU:=h6.t X G λ_ _ _ _ _ _=>us3 (λ_ _ _=>rfl)
  aV:=h7.t X G λ_ _ _ _ _ _=>us1 (λ_=>rfl)
  bo:=h8.t X G λ_ _ _ _ _ _=>us1 (λ_=>rfl)
  aQ:=h9.t X G λ_ _ _ _ _ _=>us1 (λ_=>rfl)
  aY:=h10.t X G λ_ _ _ _ _ _=>us3 (λ_ _ _=>rfl)
  bg:=h11.t X G λ_ _ _ _ _ _=>us2 (λ_ _=>rfl)
  aR:=h12.t X G λ_ _ _ _ _ _=>us3 (λ_ _ _=>rfl)
  bC:=h13.t X G λ_ _ _ _ _ _=>us2 (λ_ _=>rfl)
  bW:=h14.t X G λ_ _ _ _ _ _=>us1 (λ_=>rfl)
  eO:=h15.F
  di:=h15.F.binds (ps:=["self","turn","stages"]) fun _ _ _ _ _ _=>us3 (fun _ _ _=>rfl)
  iM:=h15.M
  cS:=h16.F
  aZ:=h16.F.binds (ps:=["self"]) fun _ _ _ _ _ _=>us1 (fun _=>rfl)
  cr:=h16.M
  gc:=h17.F
  bL:=h17.F.binds (ps:=["self"]) fun _ _ _ _ _ _=>us1 (fun _=>rfl)
  bu:=h17.M
  dc:=h18.F
  b7:=h18.F.binds (ps:=["self"]) fun _ _ _ _ _ _=>us1 (fun _=>rfl)
  cj:=h18.M
  gB:=h19.F
  bN:=h19.F.binds (ps:=["self","moment","choice","other_sign"]) fun _ _ _ _ _ _=>us4 (fun _ _ _ _=>rfl)
  be:=h19.M
  fq:=h20.F
  cO:=h20.F.binds (ps:=["self","k","stages"]) fun _ _ _ _ _ _=>us3 (fun _ _ _=>rfl)
  iO:=h20.M
  cB:=h21.F
  ge:=h21.F.binds (ps:=["self","moment","choice","word"]) fun _ _ _ _ _ _=>us4 (fun _ _ _ _=>rfl)
  hZ:=h21.M
  fO:=h22.F
  dZ:=h22.F.binds (ps:=["self","moment","choice","wished"]) fun _ _ _ _ _ _=>us4 (fun _ _ _ _=>rfl)
  dW:=h22.M
  aw:=h23.t X G λ_ _ _ _ _ _=>us1 (λ_=>rfl)
  ax:=h24.t X G λ_ _ _ _ _ _=>us1 (λ_=>rfl)
  ay:=h25.t X G λ_ _ _ _ _ _=>us1 (λ_=>rfl)
  aI:=h26.t X G λ_ _ _ _ _ _=>us1 (λ_=>rfl)
  aP:=h27.t X G λ_ _ _ _ _ _=>us4 (λ_ _ _ _=>rfl)
  ai:=h28.t X G λ_ _ _ _ _ _=>us3 (λ_ _ _=>rfl)
  bD:=h29.t X G λ_ _ _ _ _ _=>us4 (λ_ _ _ _=>rfl)
  aN:=h30.t X G λ_ _ _ _ _ _=>us4 (λ_ _ _ _=>rfl)
  aF:=h31.t X G λ_ _ _ _ _ _=>us4 (λ_ _ _ _=>rfl)
  bn:=h32.t X G λ_ _ _ _ _ _=>us5 (λ_ _ _ _ _=>rfl)
  cm:=h33.t X G λ_ _ _ _ _ _=>us1 (λ_=>rfl)
  aM:=h34.t X G λ_ _ _ _ _ _=>us2 (λ_ _=>rfl)
  ao:=h35.t X G λ_ _ _ _ _ _=>us2 (λ_ _=>rfl)
  aO:=h36.t X G λ_ _ _ _ _ _=>us1 (λ_=>rfl)
  bJ:=h37.t X G λ_ _ _ _ _ _=>us2 (λ_ _=>rfl)
  bf:=h38.t X G λ_ _ _ _ _ _=>us2 (λ_ _=>rfl)
  c8:=h39.t X G λ_ _ _ _ _ _=>us4 (λ_ _ _ _=>rfl)
  b0:=h40.t X G λ_ _ _ _ _ _=>us3 (λ_ _ _=>rfl)
  aJ:=h41.t X G λ_ _ _ _ _ _=>us3 (λ_ _ _=>rfl)
  aL:=h42.t X G λ_ _ _ _ _ _=>us2 (λ_ _=>rfl)
  bF:=h43.t X G λ_ _ _ _ _ _=>us4 (λ_ _ _ _=>rfl)
  aK:=h44.t X G λ_ _ _ _ _ _=>us2 (λ_ _=>rfl)
  am:=h45.t X G λ_ _ _ _ _ _=>us1 (λ_=>rfl)
  ck:=h46.t X G λ_ _ _ _ _ _=>us3 (λ_ _ _=>rfl)
  bZ:=h47.t X G λ_ _ _ _ _ _=>us2 (λ_ _=>rfl)
  bw:=h48.t X G λ_ _ _ _ _ _=>us2 (λ_ _=>rfl)
  bz:=h49.t X G λ_ _ _ _ _ _=>us1 (λ_=>rfl)
  bh:=h50.t X G λ_ _ _ _ _ _=>us2 (λ_ _=>rfl)
  aH:=h51.t X G λ_ _ _ _ _ _=>us2 (λ_ _=>rfl)
  eB:=h52.F
  iw:=h52.F.binds (ps:=["self","world"]) fun _ _ _ _ _ _=>us2 (fun _ _=>rfl)
  iN:=h52.M
  dL:=h53.F
  fS:=h53.F.binds (ps:=["self","name","choice"]) fun _ _ _ _ _ _=>us3 (fun _ _ _=>rfl)
  dt:=h53.M
  iD:=h54.F
  gR:=h54.F.binds (ps:=["self","ferry","name","choice","asked"]) fun _ _ _ _ _ _=>us5 (fun _ _ _ _ _=>rfl)
  cU:=h54.M
  cF:=h55.F
  fI:=h55.F.binds (ps:=["self","name","steps","word"]) fun _ _ _ _ _ _=>us4 (fun _ _ _ _=>rfl)
  gA:=h55.M
  fU:=h56.F
  iE:=h56.F.binds (ps:=["self","name"]) fun _ _ _ _ _ _=>us2 (fun _ _=>rfl)
  gW:=h56.M
  gS:=h57.F
  iF:=h57.F.binds (ps:=["self","name"]) fun _ _ _ _ _ _=>us2 (fun _ _=>rfl)
  dC:=h57.M
  dO:=h58.F
  cA:=h58.F.binds (ps:=["self","name"]) fun _ _ _ _ _ _=>us2 (fun _ _=>rfl)
  gg:=h58.M
  ci:=h59.t X G λ_ _ _ _ _ _=>us2 (λ_ _=>rfl)
  aX:=h60.t X G λ_ _ _ _ _ _=>us2 (λ_ _=>rfl)
  b8:=h61.t X G λ_ _ _ _ _ _=>us2 (λ_ _=>rfl)
  bq:=h62.t X G λ_ _ _ _ _ _=>us5 (λ_ _ _ _ _=>rfl)
  bY:=h63.t X G λ_ _ _ _ _ _=>us5 (λ_ _ _ _ _=>rfl)
  bv:=h64.t X G λ_ _ _ _ _ _=>us2 (λ_ _=>rfl)
  bM:=h65.t X G λ_ _ _ _ _ _=>us2 (λ_ _=>rfl)
  cw:=h66.t X G λ_ _ _ _ _ _=>us1 (λ_=>rfl)
  bG:=h67.t X G λ_ _ _ _ _ _=>us2 (λ_ _=>rfl)
  dJ:=h68.t X G λ_ _ _ _ _ _=>us1 (λ_=>rfl)
  ae:=jc
  fQ:=Yy X G jc
  ak:=⟨jj,jk,jm,jn⟩
  eW:=⟨jo,h15.M.at_,h15.M.fn,jp⟩
  gz:=j7
  dy:=j4
  dA:=j8
  dQ:=j5
  aA:=jb
  cN:=Yy X G jb
  aC:=⟨jd,je,jf,jg⟩
  cQ:=⟨jh,h20.M.at_,h20.M.fn,ji⟩
  iG:=iX
  iB:=iY
  gN:=iZ
  ab:=jr
  dE:=Yy X G jr
  ac:=⟨jy,jz,jA,jB⟩
  ii:=⟨jC,h52.M.at_,h52.M.fn,jD⟩
  fF:=j9
  ft:=j6
  iz:=iQ
  cP:=iW
  iK:=iR
  du:=ja
  cD:=iS
  iu:=iT
  cR:=Z4 X G z1
  fD:=Z4 X G z2
  dS:=Z4 X G z3
  iL:=Z4 X G z4
  iC:=Z4 X G z5
  dR:=Z4 X G z6
  cC:=Z4 X G z7
  dj:=Z4 X G z8
  dP:=Z4 X G z9
  dI:=Z4 X G z10
  fv:=Z4 X G z11
  hV:=Z4 X G z12
  cW:=Z4 X G z13
  eQ:=⟨_,Yy X G g1⟩
  eG:=⟨_,Yy X G g2⟩
  fw:=⟨_,Yy X G g3⟩
  cG:=⟨_,Yy X G g4⟩
  gk:=⟨_,Yy X G g5⟩
  eJ:=⟨_,Yy X G g6⟩
  gD:=⟨_,Yy X G g7⟩
  gO:=⟨_,Yy X G g8⟩
  fG:=⟨_,Yy X G g9⟩
  i8:=⟨_,Yy X G g10⟩
  ic:=⟨_,Yy X G g11⟩
 }
 exact⟨z,h68.bt λ_ _ _ _ _ _ _=>rfl,λbase _ _=>_oj (FnOk.mono (_qB T) (by decide))⟩
theorem walk{l:E7}{q:Xw}{j:List Str}{r:(Str->Option X0)->Heap->Prop}{m:Xn->Heap->Prop}{d:DefRec}{K:Params->X4}(p:l.most=some 63)(y:d.params.defaults=[])
  (e:∀(w:Xn)(h:Heap),m w h->(K w.params).In h)
  (F:∀(w:Xn)(mg:Str->Option X0)(g:Addr)(h:Heap),(K w.params).In h->h.Ns Xp mg->mg d.name=some (.ref g)->
   ∃c:Xd,(∀(s:X2)(u:X0),BindsTo s c ⟨[u],[]⟩ [("script",u)])/\∀base:Heap,(K w.params).In base->base.Ns Xp mg->FnOk l.prog w (K w.params) mg base CX0 60 g c ["script"] (Dc (K w.params))):
  PySem.W.WalkO q j r m l.row.toRowW d [] (λf vs=>PySem.call f vs):=
 L2.walk_of (n:=63) (k:=60) (x:="script") (CX:=fun _=>CX0) (sp:=fun w=>Dc (K w.params)) p (by decide) y ⟨rfl,by decide,by decide⟩ e F (fun _ H a L N O P=>⟨a,L,rfl,_r4 O P,N,fun _=>rfl⟩) fun _ _ _ _ _ z=>z
end My
structure PySem.W.Fast:Prop where
 (tw14871347762985620645 tw9543911625625183210 tw468577814941306648 tw15115508091658253598 tw5823420916190952047 tw16905604932090024926 tw15969039884265409466 tw5621576543247819606 tw12744169447628623316 tw18224051083614911486 tw3758791044155836366 tw7249659110581892524 tw4541224885437251846 tw868846436034017474 tw2437546975673500051 tw2632317229342770960 tw1797521436846934750 tw6775824908526185361 tw12213465189227542240 tw16612035202450189677 tw12179316814656877537 tw15523849254276807279 tw5910229673848337564 tw13573999407323221043 tw4277654714106751487 tw11884152359231143291 tw16188194450897618211 tw16311029533244766783 tw3584240998728577595 tw8243674270428288545 tw6149286632444184821 tw13729028684609759215 tw10704015933276491002 tw2388829748693727789 tw16721509114603609989 tw4158682079674423764 tw1124006605898179974 tw5470249356913918416 tw16465825965266552331 tw5655823072157443345 tw16705447105360218465 tw12386809437019357651 tw5176821061567350675 tw17315212763633014424 tw1956101610518871547 tw7025930024852591758 tw9915865520724013637 tw4724078276592601489 tw3187167244979569675 tw12348975666971366651 tw9574286188722793832 tw7964505665495092150 tw10526923088511555353 tw5648273592980466974 tw16798100150648586071 tw14749813722723712993 tw3039307791950690551 tw4778953973319618831 tw2853571411207677288 tw9479689933345405967 tw13918196885989405923 tw7924501848639172996 tw1003516051402402409 tw419641936464544582 tw14917493968604707536 tw8894859772538755263 tw12468625575674012436 tw16728543266668020051 tw17711572762069618136 tw6690624971517062296 tw9691369115640714365 tw2178818931680840189 tw2675905825394483847 tw18212695981584337618 tw14893022050111521320 tw18080554175661447590 tw8141172559207980660 tw17461885134075922468 tw2625086293270426921 tw783126082145254216 tw12665396896949717322 tw14803364899934131830 tw11030438076133696245 tw6771867282885457446 tw16304595919576473304 tw790296058059580872 tw673165286641177297 tw18152364663616587570 tw6471006557209555110 tw6120043981361299241 tw13615611947298427229 tw9815890069724442734 tw5413632251515393939 tw2891635551115282681 tw14520320317142716258 tw2975851907294788903 tw5808318290388180013 tw14624681259937297389 tw5710154854602021019 tw3069808424646383736 tw1362506313503225630 tw17837137245972330620 tw5055193917413299679 tw6617043793497361850 tw4995385760728066451 tw9485504245766609171 tw3869902205068775388 tw8981386271514973448 tw1695889560277297919 tw7779855059660179582 tw7084507932523232563 tw1689046385983568399 tw2006806730378071759 tw13665413381331679089 tw5774950825467069488 tw13075916763979310207 tw5208299783756551870 tw7049065205573974738 tw8842336996139038967 tw7947974160660799502 tw16725133452792906730 tw2226303696110431876 tw15818210834968748506 tw8245275049684144990 tw5777939379917937629 tw6672866515507817309 tw15681092192844408567 tw6325552861512725537 tw11351741286038050507 tw3570336115874067898 tw2422809569361663218 tw16234996818845770544 tw18009445185390171705 tw9984147009917076181 tw8945427535313358961 tw5022264528014511796 tw4146667554060798635 tw16974513155425773909 tw1615013526796422271 tw3693517214845200559 tw5114833748487150558 tw12066421971354466321 tw3663497356171581837 tw18149314463708181130 tw3826300578023446577 tw14092232058100709986 tw6010245757772139712 tw1190668516860715598 tw17177843332289484694 tw11675049326164334404 tw11861092053212983963 tw5164124889963835193 tw13732125249154752067 tw11364787005968287383 tw7521207244649205073 tw15960809564956578729 tw17295967669534085320 tw2939721515688669043 tw17892856541487230717 tw15831935995086407535 tw13554543338225274624 tw8624189764500513708 tw14042288164607210348 tw12175241182676618648 tw6384442312586426536 tw2538281265732630726 tw17699170566288341648 tw15561066501544866332 tw2255599124539273998 tw3575368121648267515 tw8240960109008537285 tw10345017291871324161 tw2030489628566600928 tw10762725457573359002 tw16097142245673340435 tw17612169042885648121 tw2879008551998915959 tw6781052034789063614 tw2335982565372976307 tw9311006985249181844 tw12958051521430144600 tw7754990674246792966 tw17887621084247010025 tw9640520691090055891 tw8008020137640881014 tw9892833404682264097 tw17725500552923100515 tw7674618095143128020 tw6908606556516492814 tw1711907743855043174 tw5054272993527518927 tw10287109266488310889 tw16656824524633290186 tw12770148995093123088 tw13527491054923819450 tw18192245476917067375 tw12654769904766865788 tw8218216634822391775 tw9211384186010554799 tw8361850185963645471 tw8387052568252115238 tw414977117418184227 tw3773845725484288543 tw17057457791099982084 tw12015983900528721594 tw18226267742398440547 tw14685168947610540917 tw7464483084862353796 tw13712841187197423702 tw2779008255255018387 tw10392569649987072999 tw11974140194789625929 tw14042551800857691538 tw825217679186266769 tw4820231443624216631 tw9490921464942344037 tw3393952567514927804 tw1840312485712081787 tw18253511063578950849 tw11811395413032979885 tw9205429920826641828 tw14336354407979268662 tw8076328661364526268 tw15378628890233663570 tw6104139552336732321 tw6853058133155491135 tw3200472064919342622 tw7429992970582494135 tw15898427696370874430 tw4325857220675722024 tw17574403713234911702 tw13271764303015988869 tw9874400816002615969 tw16604176538745682785 tw8948919117307598726 tw10630894445206610156 tw4030904708033551076 tw8632083551147810036 tw4485827742523070532 tw6943439143735484872 tw1321188947007522846 tw14497097708246538537 tw13555311062785247390 tw12530682728356364925 tw18243158170231512592 tw15120490982834289134 tw5017674463914043714 tw38135687558678616 tw3069730558076032675 tw11477459953995394388 tw4313986894732091399 tw16299052079528786031 tw5520673061414978505 tw7505598879828859020 tw9478938276562363300 tw7893782414227643350 tw2777247084925311525 tw4482161998629389328 tw8719333319889778599 tw724889079416044418 tw19571229142476174 tw15312016413143979715 tw14211999799652859808 tw4720676618795807563 tw1672170825796116187 tw18091856726815448070 tw4619259623818252817 tw4805802286783724436 tw14095044286273181798 tw3271738161670211984 tw16846738509958487189 tw6271831626638353321 tw14147269836946227608 tw867885796288763381 tw10842561058142845388 tw1248099410419107155 tw615947471883197746 tw11856988242758204009 tw11177733038412504271 tw10314699168837466540 tw9060885252433126112 tw2457888292128800142 tw5653138632384386997 tw791586594347418565 tw13106713937940992329 tw5723656821402929420 tw1151207156579837884 tw10597180838319931157 tw5604822815451118193 tw862308739700713141 tw10838570425256458252 tw8319391010974989764 tw16903806746941600826 tw14581332684710468696 tw12717362392715876421 tw7413523741869056762 tw8572326729193674990 tw5675673175837531411 tw17860234827086400391 tw17891244446658117226 tw16016391036697050403 tw14462433929656311496 tw8375685181935642100 tw10174084735855865247 tw17543586376828243337 tw6705429872852647720 tw5226141026288949962 tw12294188802798597681 tw3904138677951155815 tw2754585566827935238 tw947593422467441132 tw4343643471816458065 tw8001672330073859646 tw2420013713937973894 tw7144853733026884652 tw9535667183218423609 tw11904782570068396141 tw14946720743982973663 tw6197955622795788062 tw1569574652423504613 tw12303089659757704432 tw11749497382677086288 tw7178604218807875976 tw6421600614873418861 tw10266065776278192461 tw1446393078899011276 tw5541996179693439272 tw8902355047582481527 tw6668052844633328589 tw12648097927912840019 tw7429337563213097672 tw7646165602054367495 tw11686225514015938233 tw6629827686647725735 tw10164937247164259278 tw11942684013982296448 tw3415035167742049458 tw6648021093708951122 tw15834294046719911632 tw11225403165067606207 tw5336163611185924499 tw3620066064370872856 tw6086395704222888346 tw12110016413207118023 tw1817491949061261130 tw2955508112629595062 tw17544064278490015595 tw10045897306954554458 tw13648098676186707223 tw13671730341921064506 tw9711666644401825878 tw8753559016316737069 tw1464152118690777652 tw13132671320134175086 tw2611001182307929983 tw4369070778331009698 tw15027608887727923076 tw1154619945230681882 tw14002565384604097601 tw9741860140276111819 tw1330108875368304223 tw1210641265724132698 tw17843255799159258752 tw896001544241687134 tw1942780990396771208 tw1829508750206202821 tw4601484224070584900 tw13115912989880074034 tw102721436483717042 tw11307596362734878478 tw14987562765823169966 tw9777869678429648728 tw11776026911561768194 tw12155031780784454694 tw17636362112727817206 tw7002815623632682297 tw16251032716821391865 tw10736134954519420679 tw11531301351868470282 tw7095063054905065364 tw14437170910861149398 tw9492739310005162800 tw16331555634148979721 tw7657370712935705835 tw147145691485137834 tw1671454116739769690 tw6831139802929408767 tw4400675533337353527 tw16994392679875892695 tw8565199961426233653 tw14680026799660982361 tw12180947824151062067 tw14598598734781909897 tw682593060280572181 tw16574739255444456810 tw4909276424080682147 tw10320717352308059452 tw10202735913160203298 tw16642405816116494698 tw13466236820670530888 tw882483721288230026 tw13314677342864579506 tw12583104045027910666 tw14412628794454949101:True)
open PySem PySem.W PyProof.Rows
local macro_rules | `(tactic| walk_at "q_fn") => `(tactic| (refine' ⟨?a, L2.fun_mk ?l ?c ?k⟩; (case a => k_is); (case l => k_is); (case c => k_is); (case k => k_is)))
local macro_rules | `(tactic| walk_at "q_mt") => `(tactic| (refine' L2.mt_mk ?a ?i ?l ?c ?k; (case a => k_is); (case i => k_is); (case l => k_is); (case c => k_is); (case k => k_is)))
set_option maxRecDepth 100000 in
set_option maxHeartbeats 0 in
theorem PySem.Challenge.cw_bellferry_k53_when_an_island_waits_holds : PySem.Challenge.rw_bellferry_k53_when_an_island_waits.Holds := by
 w_on;o_law;k_head;(case hw=>w_witness2)
 k_fill
 refine My.walk (l:=PySem.Challenge.rw_bellferry_k53_when_an_island_waits) rfl rfl (λw h Y=>PySem.W.kIn_of Y) ?F
 case F=>
  intro w y z h u G j;refine' My.all_mk u G j ?jr ?jb ?jc ?h1 ?h2 ?h3 ?h4 ?h5 ?h6 ?h7 ?h8 ?h9 ?h10 ?h11 ?h12 ?h13 ?h14 ?h15 ?h16 ?h17 ?h18 ?h19 ?h20 ?h21 ?h22 ?h23 ?h24 ?h25 ?h26 ?h27 ?h28 ?h29 ?h30 ?h31 ?h32 ?h33 ?h34 ?h35 ?h36 ?h37 ?h38 ?h39 ?h40 ?h41 ?h42 ?h43 ?h44 ?h45 ?h46 ?h47 ?h48 ?h49 ?h50 ?h51 ?h52 ?h53 ?h54 ?h55 ?h56 ?h57 ?h58 ?h59 ?h60 ?h61 ?h62 ?h63 ?h64 ?h65 ?h66 ?h67 ?h68 ?jj ?jk ?jm ?jn ?jo ?jp ?j7 ?j4 ?j8 ?j5 ?jd ?je ?jf ?jg ?jh ?ji ?iX ?iY ?iZ ?jy ?jz ?jA ?jB ?jC ?jD ?j9 ?j6 ?iQ ?iW ?iR ?ja ?iS ?iT ?z1 ?z2 ?z3 ?z4 ?z5 ?z6 ?z7 ?z8 ?z9 ?z10 ?z11 ?z12 ?z13 ?g1 ?g2 ?g3 ?g4 ?g5 ?g6 ?g7 ?g8 ?g9 ?g10 ?g11
  (case jr=>k_is)
  (case jb=>k_is)
  (case jc=>k_is)
  (case h1=>walk_at "q_fn")
  (case h2=>walk_at "q_fn")
  (case h3=>walk_at "q_fn")
  (case h4=>walk_at "q_fn")
  (case h5=>walk_at "q_fn")
  (case h6=>walk_at "q_fn")
  (case h7=>walk_at "q_fn")
  (case h8=>walk_at "q_fn")
  (case h9=>walk_at "q_fn")
  (case h10=>walk_at "q_fn")
  (case h11=>walk_at "q_fn")
  (case h12=>walk_at "q_fn")
  (case h13=>walk_at "q_fn")
  (case h14=>walk_at "q_fn")
  (case h15=>walk_at "q_mt")
  (case h16=>walk_at "q_mt")
  (case h17=>walk_at "q_mt")
  (case h18=>walk_at "q_mt")
  (case h19=>walk_at "q_mt")
  (case h20=>walk_at "q_mt")
  (case h21=>walk_at "q_mt")
  (case h22=>walk_at "q_mt")
  (case h23=>walk_at "q_fn")
  (case h24=>walk_at "q_fn")
  (case h25=>walk_at "q_fn")
  (case h26=>walk_at "q_fn")
  (case h27=>walk_at "q_fn")
  (case h28=>walk_at "q_fn")
  (case h29=>walk_at "q_fn")
  (case h30=>walk_at "q_fn")
  (case h31=>walk_at "q_fn")
  (case h32=>walk_at "q_fn")
  (case h33=>walk_at "q_fn")
  (case h34=>walk_at "q_fn")
  (case h35=>walk_at "q_fn")
  (case h36=>walk_at "q_fn")
  (case h37=>walk_at "q_fn")
  (case h38=>walk_at "q_fn")
  (case h39=>walk_at "q_fn")
  (case h40=>walk_at "q_fn")
  (case h41=>walk_at "q_fn")
  (case h42=>walk_at "q_fn")
  (case h43=>walk_at "q_fn")
  (case h44=>walk_at "q_fn")
  (case h45=>walk_at "q_fn")
  (case h46=>walk_at "q_fn")
  (case h47=>walk_at "q_fn")
  (case h48=>walk_at "q_fn")
  (case h49=>walk_at "q_fn")
  (case h50=>walk_at "q_fn")
  (case h51=>walk_at "q_fn")
  (case h52=>walk_at "q_mt")
  (case h53=>walk_at "q_mt")
  (case h54=>walk_at "q_mt")
  (case h55=>walk_at "q_mt")
  (case h56=>walk_at "q_mt")
  (case h57=>walk_at "q_mt")
  (case h58=>walk_at "q_mt")
  (case h59=>walk_at "q_fn")
  (case h60=>walk_at "q_fn")
  (case h61=>walk_at "q_fn")
  (case h62=>walk_at "q_fn")
  (case h63=>walk_at "q_fn")
  (case h64=>walk_at "q_fn")
  (case h65=>walk_at "q_fn")
  (case h66=>walk_at "q_fn")
  (case h67=>walk_at "q_fn")
  (case h68=>walk_at "q_fn")
  (case jj=>k_is)
  (case jk=>k_is)
  (case jm=>k_is)
  (case jn=>k_is)
  (case jo=>k_is)
  (case jp=>k_is)
  (case j7=>k_is)
  (case j4=>k_is)
  (case j8=>k_is)
  (case j5=>k_is)
  (case jd=>k_is)
  (case je=>k_is)
  (case jf=>k_is)
  (case jg=>k_is)
  (case jh=>k_is)
  (case ji=>k_is)
  (case iX=>k_is)
  (case iY=>k_is)
  (case iZ=>k_is)
  (case jy=>k_is)
  (case jz=>k_is)
  (case jA=>k_is)
  (case jB=>k_is)
  (case jC=>k_is)
  (case jD=>k_is)
  (case j9=>k_is)
  (case j6=>k_is)
  (case iQ=>k_is)
  (case iW=>k_is)
  (case iR=>k_is)
  (case ja=>k_is)
  (case iS=>k_is)
  (case iT=>k_is)
  (case z1=>k_is)
  (case z2=>k_is)
  (case z3=>k_is)
  (case z4=>k_is)
  (case z5=>k_is)
  (case z6=>k_is)
  (case z7=>k_is)
  (case z8=>k_is)
  (case z9=>k_is)
  (case z10=>k_is)
  (case z11=>k_is)
  (case z12=>k_is)
  (case z13=>k_is)
  (case g1=>k_is)
  (case g2=>k_is)
  (case g3=>k_is)
  (case g4=>k_is)
  (case g5=>k_is)
  (case g6=>k_is)
  (case g7=>k_is)
  (case g8=>k_is)
  (case g9=>k_is)
  (case g10=>k_is)
  (case g11=>k_is)
