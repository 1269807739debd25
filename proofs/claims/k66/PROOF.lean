import PyProof.Rows.All
import Wide.All
import OpenK.AllK
import Wide.FinOn
import Lean
import PyProof.EqAt
import PyProof.EqKinds
import PyProof.TupleCall
import PySem.Challenge.RW_bellferry_k66_written_and_read_again
import PyProof.Rows.SetFrom
import PyProof.FactsAll.set_1
import PyProof.CollectWalk
import PyProof.Rows.SortStr
import PyProof.IsiH_list
import PyProof.AttrMissHeap
import PyProof.ConsumeWalk
import PyProof.StrWalks
import PyProof.IsiH_tuple
import PyProof.SliceStr2
import PyProof.ListRange
import PyProof.Rows.Range3
import PyProof.Rows.CallKwBuiltin
import PyProof.WalkInts
import PyProof.NeKinds
import PyProof.StrBlockH
import PyProof.StrCalls
import PyProof.FitsReplace
import PyProof.StrLawsOcc
import PyProof.Rows.StrIntSpec
import PyProof.Rows.StrSplitJoin
import PyProof.StrLawsTight
import PyProof.FString5
set_option Elab.async false
set_option tactic.hygienic false
set_option linter.all false
set_option maxRecDepth 100000
set_option maxHeartbeats 8000000
set_option genSizeOf false
set_option genSizeOfSpec false
noncomputable section
set_option bootstrap.genMatcherCode false
set_option compiler.extract_closed false
open PySem.W renaming Frag->Y00,nsIn->Y0n,mg_none_of->Y0F,mg_of->Y0X,kia_one->Y14,kia_tup->Y16,keepIn->Y1j,kitOne->Y1B,fnOf->Y1J,kitx_list->Y2a,kitx_dict->Y2b,findIn->Y2e,kitAny->Y2H,methodObj->Y2L,cellsFrom_some->Y3d,instObj->Y3j,OpenLaw->Y3o,lookIn->Y3y,codeIn->Y3z
open List renaming length_map->Y01,getElem?_eq_getElem->Y02,mem_cons_of_mem->Y04,mem_cons->Y06,map_append->Y07,getElem?_map->Y08,map_cons->Y0a,getElem?_eq_some_iff->Y0b,mem_cons_self->Y0c,length_cons->Y0e,size_toArray->Y0f,mem_map->Y0h,length_append->Y0i,getElem_mem->Y0j,not_mem_nil->Y0k,cons_append->Y0l,mem_append->Y0m,length_take->Y0s,getD_cons_succ->Y0t,getD_cons_zero->Y0u,nil_append->Y0v,mem_singleton->Y0w,append_assoc->Y0x,take_of_length_le->Y0y,range->Y0A,map_nil->Y0B,getElem?_append_right->Y0C,map_map->Y0E,mem_of_getElem?->Y0G,getElem?_append_left->Y0H,mem_append_right->Y0I,take_add_one->Y0K,getD_eq_getElem?_getD->Y0N,length_singleton->Y0T,lookup_cons->Y11,all_cons->Y13,nodup_cons->Y15,eq_nil_of_length_eq_zero->Y17,append_nil->Y18,length_drop->Y1a,drop_eq_nil_of_le->Y1b,length_range->Y1f,getElem_of_mem->Y1g,mem_range->Y1i,any_cons->Y1l,getElem?_eq_none->Y1m,find?_cons->Y1s,nodup_append->Y1t,length_zip->Y1u,map_congr_left->Y1v,getElem_map->Y1A,replicate->Y1C,length->Y1I,length_nil->Y1O,mem_append_left->Y1S,drop_eq_getElem_cons->Y1U,replicate_succ->Y1V,length_pos_iff->Y1W,all_nil->Y21,length_eq_zero_iff->Y24,drop_of_length_le->Y29,getElem?_set->Y2d,length_replicate->Y2f,getElem?_toArray->Y2i,dropLast_eq_take->Y2j,getElem?_reverse->Y2k,all_eq_true->Y2l,filterMap_cons->Y2p,foldl_cons->Y2u,getElem?_range->Y2v,length_eraseIdx_of_lt->Y2z,map_id'->Y2F,getElem?_zip_eq_some->Y2J,getElem?_eq_none_iff->Y2K,getElem?_take_of_lt->Y2M,pairwise_map->Y2U,flatten_cons->Y2W,getElem?_replicate->Y30,getElem_inj->Y34,ext_getElem->Y35,map_fst_zip->Y38,map_snd_zip->Y39,getElem_zip->Y3a,mem_flatMap->Y3b,getElem?_set_self->Y3c,map_eq_append_iff->Y3i,mem_filter->Y3k,of_mem_zip->Y3n,drop_zero->Y3E,getD->Y3P
open PySem.Heap renaming get?_push_of_some->Y03,get?_push_size->Y0d,lt_size->Y0g,size_push->Y1E,get?_update_self->Y1M,SameBut->Y1Y,get?_update_other->Y27,ExtBut->Y3H
open Bool renaming false_ne_true->Y05,and_eq_true->Y0r,false_eq_true->Y0J,and_true->Y1R,eq_iff_iff->Y2q,or_self->Y3t,false_and->Y3x,and_false->Y3A,not_false->Y3D,not_true->Y3N,true_and->Y3O
open Nat renaming le_refl->Y09,ne_of_lt->Y0p,lt_of_lt_of_le->Y0D,le_trans->Y0S,zero_le->Y1e,le_of_eq->Y1L,lt_succ_of_lt->Y1Q,lt_irrefl->Y22,min_eq_left->Y25,min_eq_right->Y2m,lt_trans->Y2B,le_of_lt->Y3l,ne_of_gt->Y3m,sub_zero->Y3p,add_comm->Y3s,le_succ->Y3G
open Array renaming length_toList->Y0o,getElem?_eq_getElem->Y0W,getElem?_eq_none->Y28,getElem?_toList->Y2h,toList_append->Y2t,toList_inj->Y36
open PySem.Str renaming length_append->Y0q,append_assoc->Y0P,ofString->Y1K,empty->Y3M,length->Y3S,join->Y3U
open Option.some renaming inj->Y0z,injEq->Y2c
open PySem.NameKind renaming free->Y0L,cell->Y23
open PySem.Around renaming under_plainId->Y0M
open PySem.Value renaming ref->Y0O,str->Y1z,type->Y1X,none->Y2n,bool->Y2o,int->Y3J
open PyProof.Rows renaming slot_tuple_getitem->Y0Q,callWith_type1->Y0Z,callWith_builtin1->Y2g
open PySem.Builtin.Str renaming glued->Y0R,strSliceIndices->Y1k,occurrences->Y1w,partsBetween->Y20,tooLong->Y3F,strKind->Y3I
open False renaming elim->Y0U
open Int renaming toNat_natCast->Y0V,emod_lt_of_pos->Y0Y,emod_nonneg->Y19,eq_ofNat_of_zero_le->Y26,zero_add->Y2C
open PySem.Heap.SameBut renaming update->Y10
open Sum renaming inr->Y12,inl->Y3R
open PySem renaming mem_of_lookup->Y1c
open PySem.Builtin.Tuple renaming tupleCompareSizes->Y1d,tupleExact->Y1r,tupleItemsOf->Y2y,tupleIsExact->Y2A
open PySem.StrLaws renaming glued_eq_join->Y1h
open Option renaming toList_some->Y1n,map_eq_some_iff->Y1G,isSome_map->Y2P
open PySem.Builtin.Slice renaming slicePlaces->Y1o,sliceAdjust->Y1T,sliceApplied->Y2x
open PySem.Builtin.Dict renaming dictSlotArgs->Y1p,updateFrom->Y33,samePairs->Y3h
open True renaming intro->Y1q
open List.cons renaming inj->Y1x
open Iff renaming rfl->Y1y
open PySem.SetTable renaming grown->Y1D,below->Y2G
open PySem.PyData renaming keyHash->Y1F
open PySem.Calls renaming spliced_cons->Y1H,spliced_nil->Y1P,Name_function_global->Y2w,callWith_builtin->Y3f
open PySem.F renaming called_set->Y1N,args_str_split_2->Y2D,slot_dict_getitem->Y2I,args_tuple_add_2->Y2N,entry_str_split->Y2T,entry_tuple_add->Y31,slot_str_split->Y37,slot_tuple_add->Y3e,sub_dict_dict->Y3q,slot_str_join->Y3r,slot_dict_eq->Y3u,slot_dict_ne->Y3v,slot_list_eq->Y3B,slot_list_ne->Y3C
open PySem.Builtin.List renaming listTooLong->Y1Z,listExtendWith->Y2s,listSameRef->Y2S
open ForInStep renaming yield->Y2r
open Nat.succ renaming inj->Y2E
open PySem.Obj renaming mapSeq->Y2O
open PySem.AutoSeq1 renaming sub_tuple_tuple->Y2Q,sub_list_list->Y3g
open PySem.Builtin.Frozenset renaming sizeOf->Y2R
open Char renaming toNat->Y2V
open List.Pairwise renaming imp_of_mem->Y2X
open Sum.inr renaming inj->Y2Y
open Ne renaming symm->Y2Z
open PySem.Shared renaming TypeIs->Y32
open PySem.W.KIN renaming val_back->Y3w
open PySem.SeqAt.EqAt renaming int_str->Y3K,str_int->Y3L
open PySem.ScopeKind renaming function->Y3Q
open PySem.SetTable.below renaming go->Y3T
open Prod renaming fst->Y3V
namespace L2
open PySem PySem.Spec PyProof.Rows
theorem fMc{j:Type _}{p:j->Prop}{a:j}{l:List j}(h:p a/\∀x∈l,p x):∀x∈a::l,p x:=List.forall_mem_cons.2 h
noncomputable abbrev Key:=Sum Int Str
def ZeC:Key->Value->Bool
 |.inl k,v=>Value.isInt k v
 |.inr x,v=>Value.isStrOf x v
def keyH(w:World):Key->Int
 |.inl k=>hashInt k
 |.inr x=>hashStr w x
theorem _0N:∀{k:Key} {v:Value},ZeC k v=true->(∃i t,k=Y3R i/\v=Y3J i t)\/(∃x t,k=Y12 x/\v=Y1z x t)
 |.inl i,v,h=>by
  obtain⟨t,e⟩:=Value.isInt_shape (k:=i) (v:=v) h
  exact .inl ⟨i,t,rfl,e⟩
 |.inr x,v,h=>by
  obtain⟨t,e⟩:=Value.isStrOf_shape (x:=x) (v:=v) h
  exact .inr ⟨x,t,rfl,e⟩
theorem _fZ(i:Int)(t:Tok):ZeC (.inl i) (.int i t)=true:=by simp[ZeC,Value.isInt]
theorem _fY(x:Str)(t:Tok):ZeC (.inr x) (.str x t)=true:=by simp[ZeC,Value.isStrOf]
theorem _lY(a b:Int):decide ((Y3R a:Key)=Y3R b)=(a==b):=by
 by_cases e:a=b
 .subst e;simp
 .have h:¬(Y3R a:Key)=Y3R b:=λq=>e (Sum.inl.inj q)
  rw[decide_eq_false h]
  exact(beq_eq_false_iff_ne.mpr e).symm
theorem _lV(a b:Str):decide ((Y12 a:Key)=Y12 b)=decide (a=b):=by
 by_cases e:a=b
 .subst e;simp
 .have h:¬(Y12 a:Key)=Y12 b:=λq=>e (Y2Y q)
  rw[decide_eq_false h,decide_eq_false e]
theorem _lX(a:Int)(b:Str):decide ((Y3R a:Key)=Y12 b)=false:=decide_eq_false (λq=>nomatch q)
theorem _lW(a:Str)(b:Int):decide ((Y12 a:Key)=Y3R b)=false:=decide_eq_false (λq=>nomatch q)
def Z0M(l:Program)(w:World):PySem.KeyKind l w Key where
 is:=ZeC
 hash:=keyH w
 inj:=λv a b g m=>by
  rcases _0N g with⟨i,t,rfl,rfl⟩|⟨x,t,rfl,rfl⟩
  .rcases _0N m with⟨j,u,rfl,e⟩|⟨y,u,rfl,e⟩
   .injection e with e1 _;rw[e1]
   .exact nomatch e
  .rcases _0N m with⟨j,u,rfl,e⟩|⟨y,u,rfl,e⟩
   .exact nomatch e
   .injection e with e1 _;rw[e1]
 byValue:=λk v h=>by
  rcases _0N h with⟨i,t,rfl,rfl⟩|⟨x,t,rfl,rfl⟩<;>rfl
 pyHash:=λz h=>by
  rcases _0N z with⟨i,t,rfl,rfl⟩|⟨x,t,rfl,rfl⟩
  .exact wpAny_pyHash_int h
  .exact wpAny_pyHash_str h
 eqBool:=λd z h=>by
  rcases _0N d with⟨i,t,rfl,rfl⟩|⟨x,t,rfl,rfl⟩
  .rcases _0N z with⟨j,u,rfl,rfl⟩|⟨y,u,rfl,rfl⟩
   .rw[_lY]at h;exact wpAny_eqBool_int h
   .rw[_lX]at h;exact Y3K i t y u _ _ _ _ h
  .rcases _0N z with⟨j,u,rfl,rfl⟩|⟨y,u,rfl,rfl⟩
   .rw[_lW]at h;exact Y3L x t j u _ _ _ _ h
   .rw[_lV]at h;exact wpAny_eqBool_str h
 «strs»:=λk x t v h=>by
  rcases _0N h with⟨i,u,rfl,e⟩|⟨y,u,rfl,e⟩
  .exact nomatch e
  .injection e with e1 _
   subst e1
   cases v<;>rfl
theorem _dk(j:Program)(w:World)(i:Int)(t:Tok):(Z0M j w).is (.inl i) (.int i t)=true:=_fZ i t
theorem _dj(j:Program)(w:World)(x:Str)(t:Tok):(Z0M j w).is (.inr x) (.str x t)=true:=_fY x t
end L2
namespace L2
open PySem PySem.Spec PyProof.Rows
inductive V where
 |non|bl (b:Bool)|int (i:Int)|str (x:Str)|byt (b:Array UInt8)|flt (b:UInt64)|ref (a:Addr)|ty (n:String)
  deriving DecidableEq
noncomputable def RelV:V->Value->Prop
 |.non,u=>u=Y2n
 |.bl b,u=>u=Y2o b
 |.int i,u=>∃t,u=Y3J i t
 |.str x,u=>∃t,u=Y1z x t
 |.byt b,u=>∃t,u=Value.bytes b t
 |.flt b,u=>∃t,u=Value.float b t
 |.ref a,u=>u=Y0O a
 |.ty n,u=>u=Y1X n
abbrev Vals:List V->List Value->Prop:=Paired RelV
theorem Vals.length(r:Vals xs us):xs.length=us.length:=Paired.length r
theorem Vals.get:∀{xs:List V} {j:List Value} {i:Nat} {x:V},Vals xs j->xs[i]?=some x->∃u,j[i]?=some u/\RelV x u
 |_,_,_,_,.nil,e=>by simp at e
 |_,_,0,_,.cons r _,e=>by simp at e;subst e;exact⟨_,rfl,r⟩
 |_,_,i+1,x,.cons _ t,e=>by
  obtain⟨u,l,w⟩:=Vals.get (i:=i) (x:=x) t (by simpa using e)
  exact⟨u,by simpa using l,w⟩
theorem Vals.append:∀{xs ys:List V} {j ws:List Value},Vals xs j->Vals ys ws->Vals (xs++ys) (j++ws)
 |_,_,_,_,.nil,s=>s
 |_,_,_,_,.cons r t,s=>.cons r (Vals.append t s)
theorem Vals.take:∀{xs:List V} {j:List Value} (n:Nat),Vals xs j->Vals (xs.take n) (j.take n)
 |_,_,0,_=>.nil
 |_,_,_+1,.nil=>.nil
 |_,_,n+1,.cons r t=>.cons r (Vals.take n t)
theorem Vals.drop:∀{xs:List V} {j:List Value} (n:Nat),Vals xs j->Vals (xs.drop n) (j.drop n)
 |_,_,0,r=>r
 |_,_,_+1,.nil=>.nil
 |_,_,n+1,.cons _ t=>Vals.drop n t
def RelO:Option V->Option Value->Prop
 |some v,some u=>RelV v u
 |none,none=>True
 |_,_=>False
def KV{j:Type}:List (j×V)->List (j×Value)->Prop:=Paired fun(p:j×V) (q:j×Value)=>p.1=q.1/\RelV p.2 q.2
def kV:Key->V
 |.inl i=>.int i
 |.inr x=>.str x
inductive HO where
 |lst (xs:List V)
 |tup (xs:List V)
 |dK (kvs:List (Key×V))|dT (kvs:List (List Key×V))
 |set (S:Int->Bool)(n:Nat)
 |ins (C dx:Addr)(fs:List (Str×V))
 |own (x:Addr)
 |xd (fs:List (Str×V))
 |met (f x:Addr)
 |rng (lo hi:Int)
 |frz (o:Obj)(u:HO)
 |tbl (ps:Array Value)
 |ext (φ:Heap->Prop)
noncomputable abbrev Hp:=Addr->Option HO
noncomputable def upd(H:Hp)(a:Addr)(o:HO):Hp:=λb=>if b=a then some o else H b
theorem _2R{H:Hp}{a:Addr}{o:HO}:upd H a o a=some o:=by unfold upd;rw[if_pos rfl]
theorem _0B{H:Hp}{a b:Addr}{o:HO}(h:b≠a):upd H a o b=H b:=by unfold upd;rw[if_neg h]
theorem _nN{H:Hp}{a b:Addr}{o u:HO}(h:H a=some o)(j:H b=some u)(d:o≠u):a≠b:=by
 intro e;subst e;rw[h]at j;exact d (Y0z j)
theorem _1D{H:Hp}{a b:Addr}{o:HO}(h:H a=some o)(j:H b=none):a≠b:=by
 intro e;subst e;rw[h]at j;cases j
section
variable(P:Program)(w:World)
def ObjOk(H:Hp)(h:Heap)(a:Addr):HO->Prop
 |.lst l=>l.length<=sizeLine/\∃(j:List Value) (n:Nat),Vals l j/\h.get? a=some {cls:=.type "list",data:=.seq j.toArray n}
 |.tup l=>l.length<=sizeLine/\∃j:List Value,Vals l j/\IsTup h a j.toArray/\∃o,h.get? a=some o/\o.dict=none
 |.dK kvs=>kvs.length<=sizeLine/\(a==sysModules)=false/\∃z,KV kvs z/\h.DictOf (Z0M P w) a z
 |.dT kvs=>kvs.length<=sizeLine/\(a==sysModules)=false/\∃l:List (List Key×Addr×Value),
   Paired (fun(p:List Key×V) (q:List Key×Addr×Value)=>p.1=q.1/\H q.2.1=some (.tup (p.1.map kV))/\RelV p.2 q.2.2) kvs l/\
   ∃o m c,h.get? a=some o/\o.ExactDict/\o.data=.dict m c/\m.toList=l.map (entryOfKey (tupleKind (Z0M P w)))/\(l.map (·.1)).Nodup
 |.set S n=>h.SetOf (intKind P w) a S n
 |.ins C dx fs=>H dx=some (.own a)/\fs.length<=1000/\dx≠a/\h.get? a=some (Y3j C dx)/\
   ∃y,h.Ns1 dx y/\(∀f,RelO (fs.lookup f) (y f))/\PySem.Within y (fs.map (·.1))
 |.own _=>∃o,h.get? a=some o
 |.xd fs=>∃y,h.Ns1 a y/\∀f,RelO (fs.lookup f) (y f)
 |.rng lo hi=>∃t u v,h.get? a=some {cls:=.type "range",data:=.fields #[.int lo t,.int hi u,.int 1 v]}
 |.frz o u=>h.get? a=some o/\ObjOk H h a u
 |.tbl ps=>h.get? a=some {cls:=.none,data:=.fields ps}
 |.met f x=>h.get? a=some (Y2L (.ref f) (.ref x))
 |.ext φ=>φ h/\(∃o,h.get? a=some o)/\∀g d:Heap,φ g->(∀o,g.get? a=some o->d.get? a=some o)->φ d
def HOk(H:Hp)(h:Heap):Prop:=∀a o,H a=some o->ObjOk P w H h a o
end
section
variable{P:Program}{w:World}{H H':Hp}{h h':Heap}{a:Addr}{o:HO}
theorem ObjOk.lt(x:ObjOk P w H h a o):a<h.objs.size:=by
 cases o with
 |lst l=>obtain⟨_,_,_,_,e⟩:=x;exact Y0g e
 |tup l=>obtain⟨_,_,_,p⟩:=x;exact p.1.lt
 |dK j=>obtain⟨_,_,_,_,o,_,_,e,_⟩:=x;exact Y0g e
 |dT j=>obtain⟨_,_,_,_,o,_,_,e,_⟩:=x;exact Y0g e
 |set S n=>obtain⟨o,_,_,_,e,_⟩:=x;exact Y0g e
 |ins C z fs=>obtain⟨_,_,_,e,_⟩:=x;exact Y0g e
 |own y=>obtain⟨_,e⟩:=x;exact Y0g e
 |xd fs=>obtain⟨_,⟨_,_,_,e,_⟩,_⟩:=x;exact Y0g e
 |rng lo m=>obtain⟨_,_,_,e⟩:=x;exact Y0g e
 |frz g u=>obtain⟨e,_⟩:=x;exact Y0g e
 |tbl d=>exact Y0g (show h.get? a=some _ from x)
 |met f y=>exact Y0g (show h.get? a=some _ from x)
 |ext c=>obtain⟨_,⟨_,e⟩,_⟩:=x;exact Y0g e
theorem Paired.mapP{u y:Type}{F G:u->y->Prop}:∀{j:List u} {l:List y},Paired F j l->(∀a b,F a b->G a b)->Paired G j l
 |_,_,.nil,_=>.nil
 |_,_,.cons r t,f=>.cons (f _ _ r) (Paired.mapP t f)
theorem ObjOk.stay(x:ObjOk P w H h a o)(k:∀b u,(b=a\/H b=some (.own a))->h.get? b=some u->h'.get? b=some u)
  (W:∀b,H b=some (.own a)->H' b=some (.own a))(Y:∀b L,H b=some (.tup L)->H' b=some (.tup L)):ObjOk P w H' h' a o:=by
 induction o with
 |lst L=>obtain⟨z,g,n,r,e⟩:=x;exact⟨z,g,n,r,k _ _ (.inl rfl) e⟩
 |tup L=>obtain⟨z,g,r,⟨j,e,c⟩,Z,N,A⟩:=x;exact⟨z,g,r,⟨j,k _ _ (.inl rfl) e,c⟩,Z,k _ _ (.inl rfl) N,A⟩
 |dK O=>obtain⟨z,y,B,r,j,l,m,e,c⟩:=x;exact⟨z,y,B,r,j,l,m,k _ _ (.inl rfl) e,c⟩
 |dT O=>
  obtain⟨z,y,L,r,j,l,m,e,c⟩:=x
  exact⟨z,y,L,Paired.mapP r λp q z=>⟨z.1,Y _ _ z.2.1,z.2.2⟩,j,l,m,k _ _ (.inl rfl) e,c⟩
 |set S n=>obtain⟨j,l,m,t,e,c⟩:=x;exact⟨j,l,m,t,k _ _ (.inl rfl) e,c⟩
 |ins C F fs=>
  obtain⟨d,z,D,e,R,⟨T,l,m,N,c⟩,r⟩:=x
  exact⟨W _ d,z,D,k _ _ (.inl rfl) e,R,⟨T,l,m,k _ _ (.inr d) N,c⟩,r⟩
 |own y=>obtain⟨j,e⟩:=x;exact⟨j,k _ _ (.inl rfl) e⟩
 |xd fs=>obtain⟨R,⟨T,l,m,e,c⟩,r⟩:=x;exact⟨R,⟨T,l,m,k _ _ (.inl rfl) e,c⟩,r⟩
 |rng lo G=>obtain⟨t,u,v,e⟩:=x;exact⟨t,u,v,k _ _ (.inl rfl) e⟩
 |frz j u E=>obtain⟨e,q⟩:=x;exact⟨k _ _ (.inl rfl) e,E q⟩
 |tbl U=>
  have e:h.get? a=some {cls:=.none,data:=.fields U}:=x
  show h'.get? a=some {cls:=.none,data:=.fields U}
  exact k a _ (.inl rfl) e
 |met f y=>
  have e:h.get? a=some (Y2L (.ref f) (.ref y)):=x
  show h'.get? a=some (Y2L (.ref f) (.ref y))
  exact k a _ (.inl rfl) e
 |ext I=>obtain⟨p,⟨o,e⟩,st⟩:=x;exact⟨st _ _ p λo q=>k _ _ (.inl rfl) q,⟨o,k _ _ (.inl rfl) e⟩,st⟩
theorem HOk.lt(x:HOk P w H h)(e:H a=some o):a<h.objs.size:=(x a o e).lt
theorem HOk.fresh(x:HOk P w H h)(e:h.objs.size<=a):H a=none:=by
 cases q:H a with
 |none=>rfl
 |some u=>exact absurd (Y0D (x.lt q) e) (Y22 _)
theorem HOk.kept(x:HOk P w H h)(k:∀b u,h.get? b=some u->h'.get? b=some u):HOk P w H h':=λa o e=>
 (x a o e).stay (λb u _ q=>k b u q) (λ_ q=>q) λ_ _ q=>q
theorem HOk.laid(x:HOk P w H h)(k:∀b u,h.get? b=some u->h'.get? b=some u)(l:h.objs.size<=a)(new:ObjOk P w (upd H a o) h' a o):HOk P w (upd H a o) h':=λb u e=>by
 have j:=x.fresh l
 by_cases hb:b=a
 .subst hb;rw[_2R]at e;cases e;exact new
 .rw[_0B hb]at e
  exact(x b u e).stay (λc v _ q=>k c v q) (λc q=>by rw[_0B (_1D q j)];exact q) λc y q=>by rw[_0B (_1D q j)];exact q
end
noncomputable def Rd(H:Hp)(a:Addr)(u:HO):Prop:=H a=some u\/∃o,H a=some (.frz o u)
theorem Rd.ok(r:Rd H a u)(x:HOk P w H h):ObjOk P w H h a u:=by
 rcases r with r|⟨o,r⟩
 .exact x a u r
 .obtain⟨_,q⟩:=x a _ r
  exact q
noncomputable def Mut:Option HO->Prop
 |some (.lst _)=>True
 |some (.dK _)=>True
 |some (.dT _)=>True
 |some (.set _ _)=>True
 |some (.ins _ _ _)=>True
 |some (.ext _)=>True
 |_=>False
section
variable{P:Program}{w:World}{H:Hp}{h h':Heap}{x e:Addr}{o':HO}
theorem HOk.write(ok:HOk P w H h)(m:Mut (H x))(p:e=x\/H e=some (.own x))(k:∀b u,b≠e->h.get? b=some u->h'.get? b=some u)(f:∃u,h'.get? e=some u)
  (new:ObjOk P w (upd H x o') h' x o'):HOk P w (upd H x o') h':=λb u q=>by
 have j:∀c y,H c=some (.own y)->c≠x:=λc y r z=>by subst z;rw[r]at m;exact m
 have l:∀c g,H c=some (.tup g)->c≠x:=λc g r z=>by subst z;rw[r]at m;exact m
 by_cases hb:b=x
 .subst hb;rw[_2R]at q;cases q;exact new
 .rw[_0B hb]at q
  by_cases hbe:b=e
  .have L:H b=some (.own x):=by
    rcases p with z|z
    .exact absurd (hbe.trans z) hb
    .rw[hbe];exact z
   rw[q]at L;cases L
   obtain⟨v,N⟩:=f
   exact⟨v,by rw[hbe];exact N⟩
  .refine(ok b u q).stay (λc v d r=>k c v ?_ r) (λc r=>by rw[_0B (j c b r)];exact r) λc g r=>by rw[_0B (l c g r)];exact r
   rcases d with rfl|d
   .exact hbe
   .rintro rfl
    rcases p with z|z
    .exact j c b d z
    .rw[d]at z;cases z;exact hb rfl
end
structure Un (fs ex:List Addr)(H H':Hp)(h h':Heap):Prop where
 keep:∀b o,h.get? b=some o->H b=none->b∉fs->b∉ex->h'.get? b=some o
 slot:∀b o,h.get? b=some o->H b=none->b∈fs->b∉ex->∃sl,h'.get? b=some {o with slots:=sl}
 free:∀b o,h.get? b=some o->H b=none->b∉ex->H' b=none
 there:∀b o,h.get? b=some o->b∉ex->∃o',h'.get? b=some o'
 tups:∀b xs,H b=some (.tup xs)->H' b=some (.tup xs)
 frzs:∀b o u,H b=some (.frz o u)->H' b=some (.frz o u)
 tbls:∀b ps,H b=some (.tbl ps)->∃more,H' b=some (.tbl (ps++more))
section
variable{fs fs' ex ex':List Addr}{H H1 H2:Hp}{h h1 h2 h':Heap}{a x e:Addr}{o:HO}
theorem Un.any(u:Un fs ex H H1 h h1)(q:h.get? b=some ob)(n:H b=none)(j:b∉ex):∃l,h1.get? b=some {ob with slots:=l}:=by
 by_cases hb:b∈fs
 .exact u.slot b ob q n hb j
 .exact⟨ob.slots,u.keep b ob q n hb j⟩
theorem Un.kept(k:∀b u,h.get? b=some u->h'.get? b=some u):Un fs ex H H h h':=
 ⟨λb j q _ _ _=>k b j q,λb j q _ _ _=>⟨j.slots,k b j q⟩,λ_ _ _ n _=>n,λb j q _=>⟨j,k b j q⟩,λ_ _ q=>q,λ_ _ _ q=>q,λ_ l q=>⟨#[],by rw[q];simp⟩⟩
theorem Un.refl:Un fs ex H H h h:=Un.kept λ_ _ q=>q
theorem Un.laid(k:∀b u,h.get? b=some u->h'.get? b=some u)(l:h.objs.size<=a)(j:H a=none):Un fs ex H (upd H a o) h h' where
 keep:=λb u q _ _ _=>k b u q
 slot:=λb u q _ _ _=>⟨u.slots,k b u q⟩
 free:=λb u q n _=>by rw[_0B (Y0p (Y0D (Y0g q) l))];exact n
 there:=λb u q _=>⟨u,k b u q⟩
 tups:=λb w q=>by rw[_0B (_1D q j)];exact q
 frzs:=λb u w q=>by rw[_0B (_1D q j)];exact q
 tbls:=λb y q=>⟨#[],by rw[_0B (_1D q j),q];simp⟩
theorem Un.write(j:Mut (H x))(g:e=x\/H e=some (.own x))(k:∀b u,b≠e->h.get? b=some u->h'.get? b=some u)(l:∃u,h'.get? e=some u):Un fs ex H (upd H x o) h h':=by
 have y:∀b,H b=none->b≠x:=λb n z=>by subst z;rw[n]at j;exact j
 have m:∀b,H b=none->b≠e:=λb n z=>by
  subst z
  rcases g with r|r
  .exact y b n r
  .rw[n]at r;cases r
 have w:∀b u,H b=some u->¬Mut (some u)->b≠x:=λb u q d z=>by subst z;rw[q]at j;exact d j
 refine⟨λb u q n _ _=>k b u (m b n) q,λb u q n _ _=>⟨u.slots,k b u (m b n) q⟩,λb u q n _=>by rw[_0B (y b n)];exact n,λb u q _=>?_,
  λb c q=>by rw[_0B (w b _ q λz=>z)];exact q,λb u c q=>by rw[_0B (w b _ q λz=>z)];exact q,λb f q=>⟨#[],by rw[_0B (w b _ q λz=>z),q];simp⟩⟩
 by_cases hbe:b=e
 .subst hbe;exact l
 .exact⟨u,k b u hbe q⟩
end
noncomputable def trk(h:Heap)(H:Hp):List Addr:=(Y0A h.objs.size).filter λa=>(H a).isSome
def hidT(h:Heap)(H:Hp):Heap:=PySem.W.hideAll h (trk h H)
theorem _gt(h:Heap)(H:Hp):(hidT h H).objs.size=h.objs.size:=PySem.W.hideAll_size _ _
theorem _hD(e:h.get? b=some o)(n:H b=none):(hidT h H).get? b=some o:=
 PySem.W.hideAll_get _ e λj=>by
  have q:(H b).isSome=true:=(Y3k.mp j).2
  rw[n]at q;simp at q
theorem _ju(e:(hidT h H).get? b=some o):h.get? b=some o/\H b=none:=by
 have j:h.get? b=some o:=PySem.W.of_hideAll (trk h H) e
 refine⟨j,?_⟩
 cases q:H b with
 |none=>rfl
 |some x=>
  have l:b∈trk h H:=Y3k.mpr ⟨Y1i.mpr (Y0g j),by simp[q]⟩
  have z:(hidT h H).get? b=none:=PySem.W.hideAll_none (trk h H) l
  rw[z]at e;cases e
noncomputable def Zkv(g h:Heap)(L:Addr):List (Addr×Obj):=(Y0A h.objs.size).filterMap λa=>if a=L\/(g.get? a).isSome=true then none else(h.get? a).map λo=>(a,o)
def rest(g h:Heap)(L d:Addr):List (Addr×Obj):=(Zkv g h L).filter λp=>decide (p.1≠d)
end L2
namespace L2
open PySem PySem.Spec PyProof.Rows
structure Mod (K:Y00)(mg:Str->Option Value)(base:Heap):Prop where
 kin:K.In base
 glob:base.Ns mainGlobals mg
 blt:∃mb,base.Ns builtinsNs mb/\∀x:Str,x≠"__name__"->mb x=bootBuiltins x
 nolimit:base.NoLimit
structure Cx where
 prog:Program
 w:World
 K:Y00
 mg:Str->Option Value
 base:Heap
 A:Around
 N:List Str
 s₀:Shared
 H₀:Hp
 env:Env
 outer:List Env
 stack:List Env
 ex:List Addr
 fn:Str->Bool
 calm:Bool
 pn:List (Addr×Obj)
 xe:Value->Shared->Prop
noncomputable def frs(l:List Env):List Addr:=l.filterMap (·.frame)
abbrev Cx.fs(X:Cx):List Addr:=frs X.outer
noncomputable def Vis(j:Scope)(x:Str):Prop:=j.names.lookup x=some .local\/j.names.lookup x=some .cell\/j.names.lookup x=some .free
noncomputable def Loc(j:Scope)(x:Str):Prop:=j.names.lookup x=some .local\/j.names.lookup x=some .cell
noncomputable def Look(j:Env)(h:Heap)(m:Str->Option Value)(x:Str)(u:Value):Prop:=
 (j.kindOf x=some .local/\m x=some u)\/((j.kindOf x=some .cell\/j.kindOf x=some .free)/\∃c,j.cells.lookup x=some c/\h.IsCell c (some u))
structure Cx.Ok (X:Cx):Prop where
 mod:Mod X.K X.mg X.base
 kind:X.env.scope.kind=.function
 glob:X.env.globals=mainGlobals
 blt:X.env.builtins=builtinsNs
 above:X.s₀.heap.objs.size<=X.env.locals
 inj:∀x y c,X.env.cells.lookup x=some c->X.env.cells.lookup y=some c->x=y
 has:∀x,(X.env.kindOf x=some .cell\/X.env.kindOf x=some .free)->∃c,X.env.cells.lookup x=some c
 cab:∀x c,X.fn x=true->X.env.cells.lookup x=some c->X.s₀.heap.objs.size<=c
 hd:X.calm=true->X.A.handled=none
 frames:X.A.frames=some X.stack
 stk:X.stack=X.outer\/(X.stack=X.env::X.outer/\X.env.frame=some X.env.locals)
 exf:∀b∈X.ex,b≠X.env.locals/\∀x c,X.env.cells.lookup x=some c->c≠b
 bs:∀b o,X.base.get? b=some o->X.s₀.heap.get? b=some o/\X.H₀ b=none
 bsz:X.base.objs.size<=X.s₀.heap.objs.size
 noex:∀b o,X.base.get? b=some o->b∉X.ex
 exfs:∀b∈X.ex,b∉X.fs
 funs:X.s₀.heap.FunFrames X.base X.outer
 frf:∀b∈X.fs,X.H₀ b=none
structure Inv (X:Cx)(pz:List (Addr×Obj))(σ:List (Option V))(H:Hp)(s:Shared):Prop where
 ok:X.Ok
 os:s.os=X.s₀.os
 bare:AllBare s.gens
 base:Un X.fs X.ex X.H₀ H X.s₀.heap s.heap
 loc:∃m,s.heap.Ns X.env.locals m/\∀(i:Nat)(x:Str)(v:V),X.N[i]?=some x->σ[i]?=some (some v)->Vis X.env.scope x->∃u,RelV v u/\Look X.env s.heap m x u
 cell:∀x c,X.env.cells.lookup x=some c->∃v,s.heap.IsCell c v
 free:H X.env.locals=none
 freeC:∀x c,X.env.cells.lookup x=some c->H c=none
 pin:∀p∈X.pn++pz,s.heap.get? p.1=some p.2/\H p.1=none/\p.1≠X.env.locals/\p.1∉X.fs/\∀v,p.2.data≠.cell v
 hok:HOk X.prog X.w H s.heap
 len:σ.length=X.N.length
section
variable{X:Cx}{pz:List (Addr×Obj)}{σ:List (Option V)}{H H':Hp}{s:Shared}{h':Heap}
theorem Cx.Ok.nofr(ok:X.Ok)(e:X.base.get? b=some o):b∉X.fs:=λj=>by
 have:=(ok.funs.mem j).1
 rw[e]at this;cases this
theorem Inv.bs(I:Inv X pz σ H s):∀b o,X.base.get? b=some o->s.heap.get? b=some o/\H b=none:=λb o e=>
 ⟨I.base.keep b o (I.ok.bs b o e).1 (I.ok.bs b o e).2 (I.ok.nofr e) (I.ok.noex b o e),I.base.free b o (I.ok.bs b o e).1 (I.ok.bs b o e).2 (I.ok.noex b o e)⟩
theorem Inv.bk(I:Inv X pz σ H s):∀b o,X.base.get? b=some o->s.heap.get? b=some o:=λb o e=>(I.bs b o e).1
theorem Inv.mod(I:Inv X pz σ H s):Mod X.K X.mg X.base:=I.ok.mod
theorem Inv.kIn(I:Inv X pz σ H s):X.K.In s.heap:=I.ok.mod.kin.keeps I.bk
theorem Inv.lt(I:Inv X pz σ H s):X.env.locals<s.heap.objs.size:=let⟨_,hn,_⟩:=I.loc;hn.lt
theorem Inv.sz(I:Inv X pz σ H s):X.s₀.heap.objs.size<=s.heap.objs.size:=Y0S I.ok.above (Y3l I.lt)
theorem Inv.nofs(I:Inv X pz σ H s)(h:s.heap.objs.size<=a):a∉X.fs:=λj=>by
 obtain⟨_,o,l,_⟩:=I.ok.funs.mem j
 exact absurd (Y0D (Y0g l) (Y0S I.sz h)) (Y22 _)
theorem Inv.cne(I:Inv X pz σ H s):∀x c,X.env.cells.lookup x=some c->c≠X.env.locals:=λx c e z=>by
 obtain⟨v,o,u,hd⟩:=I.cell x c e
 obtain⟨m,⟨w,y,g,j,l,_⟩,_⟩:=I.loc
 rw[z,j]at u;cases u;rw[l]at hd;cases hd
theorem Inv.funs(I:Inv X pz σ H s):s.heap.FunFrames X.base X.outer:=by
 have all:∀(l:List Env),(∀b∈frs l,b∈X.fs)->X.s₀.heap.FunFrames X.base l->s.heap.FunFrames X.base l:=by
  intro l
  induction l with
  |nil=>intro _ _;trivial
  |cons m r g=>
   intro y d
   obtain⟨c,⟨L,o,j,f,q,hd⟩,p⟩:=d
   have u:L∈X.fs:=y L (by unfold frs;rw[Y2p,j];exact Y0c)
   obtain⟨N,e⟩:=I.base.slot L o q (I.ok.frf L u) u λz=>I.ok.exfs L z u
   exact⟨c,⟨L,_,j,f,e,hd⟩,g (λb w=>y b (by unfold frs;rw[Y2p,j];exact Y04 _ w)) p⟩
 exact all X.outer (λ_ w=>w) I.ok.funs
theorem Inv.stack(I:Inv X pz σ H s):s.heap.FunFrames X.base X.stack:=by
 rcases I.ok.stk with e|⟨e,j⟩
 .rw[e];exact I.funs
 .rw[e]
  obtain⟨m,l,_⟩:=I.loc
  refine .cons (by rw[I.ok.kind];decide) j l ?_ I.funs
  exact Heap.get?_none_of_le (Y0S I.ok.bsz I.ok.above)
theorem Inv.stkSub(I:Inv X pz σ H s):∀b∈frs X.stack,b∈X.env.locals::X.fs:=λb j=>by
 rcases I.ok.stk with e|⟨e,l⟩
 .rw[e]at j;exact Y04 _ j
 .rw[e]at j
  unfold frs at j
  rw[Y2p,l]at j
  exact j
theorem Inv.stkFree(I:Inv X pz σ H s):∀b∈frs X.stack,H b=none:=λb j=>by
 rcases Y06.mp (I.stkSub b j)with e|j
 .rw[e];exact I.free
 .obtain⟨_,o,l,_⟩:=I.ok.funs.mem j
  exact I.base.free b o l (I.ok.frf b j) λz=>I.ok.exfs b z j
theorem Inv.step{M:Array GenState}{a:Nat}{d':Drawn}{N:List Addr}(I:Inv X pz σ H s)
  (w:∀b∈N,(b∈X.ex\/X.s₀.heap.objs.size<=b)/\b≠X.env.locals/\(∀x c,X.env.cells.lookup x=some c->c≠b)/\∀p∈X.pn++pz,p.1≠b)
  (keep:∀b o,b≠X.env.locals->b∉X.fs->b∉N->s.heap.get? b=some o->H b=none->h'.get? b=some o)
  (O:∀b o,b≠X.env.locals->b∈X.fs->b∉N->s.heap.get? b=some o->H b=none->∃F,h'.get? b=some {o with slots:=F})(free:∀b o,b∉N->s.heap.get? b=some o->H b=none->H' b=none)
  (R:∀b o,b∉N->s.heap.get? b=some o->∃W,h'.get? b=some W)
  (Y:∀b P,H b=some (.tup P)->H' b=some (.tup P))(Z:∀b o u,H b=some (.frz o u)->H' b=some (.frz o u))(A:∀b E,H b=some (.tbl E)->∃B,H' b=some (.tbl (E++B)))
  (ns:∀m,s.heap.Ns X.env.locals m->h'.Ns X.env.locals m)(G:HOk X.prog X.w H' h')(hg:AllBare M):
  Inv X pz σ H' {s with heap:=h',gens:=M,drawn:=d',toks:=a}:=by
 have C:∀b o,X.s₀.heap.get? b=some o->b≠X.env.locals:=λb o e=>Y0p (Y0D (Y0g e) I.ok.above)
 have f:∀b o,X.s₀.heap.get? b=some o->b∉X.ex->b∉N:=λb o e j T=>by
  rcases(w b T).1 with z|z
  .exact j z
  .exact absurd (Y0D (Y0g e) z) (Y22 _)
 have y:∀x c,X.env.cells.lookup x=some c->∀v,s.heap.IsCell c v->h'.IsCell c v:=λx c e v ⟨o,U,hd⟩=>by
  have g:c∉N:=λz=>(w c z).2.2.1 x c e rfl
  by_cases hc:c∈X.fs
  .obtain⟨F,q⟩:=O c o (I.cne x c e) hc g U (I.freeC x c e)
   exact⟨_,q,hd⟩
  .exact⟨o,keep c o (I.cne x c e) hc g U (I.freeC x c e),hd⟩
 refine⟨I.ok,I.os,hg,⟨λb o e n T j=>?_,λb o e n T j=>?_,λb o e n j=>?_,λb o e j=>?_,λb P e=>Y b P (I.base.tups b P e),λb o P e=>Z b o P (I.base.frzs b o P e),λb E e=>?_⟩,?_,λx c e=>?_,?_,λx c e=>?_,λp Q=>?_,G,I.len⟩
 .exact keep b o (C b o e) T (f b o e j) (I.base.keep b o e n T j) (I.base.free b o e n j)
 .obtain⟨F,L⟩:=I.base.slot b o e n T j
  obtain⟨J,D⟩:=O b _ (C b o e) T (f b o e j) L (I.base.free b o e n j)
  exact⟨J,D⟩
 .obtain⟨W,L⟩:=I.base.there b o e j
  exact free b W (f b o e j) L (I.base.free b o e n j)
 .obtain⟨W,L⟩:=I.base.there b o e j
  exact R b W (f b o e j) L
 .obtain⟨m1,L⟩:=I.base.tbls b E e
  obtain⟨m2,D⟩:=A b _ L
  exact⟨m1++m2,by rw[D,Array.append_assoc]⟩
 .obtain⟨m,hn,hl⟩:=I.loc
  refine⟨m,ns m hn,λi x v L D e3=>?_⟩
  obtain⟨u,r,l⟩:=hl i x v L D e3
  refine⟨u,r,?_⟩
  rcases l with l|⟨k,c,e,z⟩
  .exact .inl l
  .exact .inr ⟨k,c,e,y x c e _ z⟩
 .obtain⟨v,z⟩:=I.cell x c e
  exact⟨v,y x c e v z⟩
 .obtain⟨m,⟨o,_,_,U,_⟩,_⟩:=I.loc
  exact free _ o (λz=>(w _ z).2.1 rfl) U I.free
 .obtain⟨v,o,U,hd⟩:=I.cell x c e
  exact free c o (λz=>(w c z).2.2.1 x c e rfl) U (I.freeC x c e)
 .obtain⟨e,n,S,h,d⟩:=I.pin p Q
  have g:p.1∉N:=λz=>(w p.1 z).2.2.2 p Q rfl
  exact⟨keep p.1 p.2 S h g e n,free p.1 p.2 g e n,S,h,d⟩
theorem Inv.un{c:Nat}(I:Inv X pz σ H s)(u:Un X.fs [] H H' s.heap h')(l:HOk X.prog X.w H' h'):Inv X pz σ H' {s with heap:=h',toks:=c}:=by
 obtain⟨m,⟨o,L,N,d,r⟩,_⟩:=id I.loc
 obtain⟨O,f⟩:=u.any d I.free (by simp)
 exact I.step (M:=s.gens) (d':=s.drawn) (N:=[]) (λ_ z=>nomatch z) (λb o _ w _ e n=>u.keep b o e n w (by simp)) (λb o _ w _ e n=>u.slot b o e n w (by simp)) (λb o _ e n=>u.free b o e n (by simp)) (λb o _ e=>u.there b o e (by simp)) u.tups u.frzs u.tbls (λP q=>by
  obtain⟨R,y,g,j,p⟩:=q
  rw[d]at j;cases j
  exact⟨_,y,g,f,p⟩) l I.bare
theorem Inv.call{L:Array GenState}{O:Nat}{P:Drawn}{y:List Addr}(I:Inv X pz σ H s)(u:Un (frs X.stack) y H H' s.heap h')(g:HOk X.prog X.w H' h')(R:AllBare L)
  (l:∀b∈y,(b∈X.ex\/X.s₀.heap.objs.size<=b)/\b≠X.env.locals/\(∀x c,X.env.cells.lookup x=some c->c≠b)/\∀p∈X.pn++pz,p.1≠b):
  Inv X pz σ H' {s with heap:=h',gens:=L,drawn:=P,toks:=O}:=by
 obtain⟨m,⟨o,Y,Z,N,r⟩,_⟩:=id I.loc
 obtain⟨A,d⟩:=u.any N I.free λz=>(l _ z).2.1 rfl
 exact I.step (N:=y) l (λb o d T j e n=>u.keep b o e n (λz=>(Y06.mp (I.stkSub b z)).elim d T) j) (λb o _ _ j e n=>u.any e n j) (λb o j e n=>u.free b o e n j) (λb o j e=>u.there b o e j) u.tups u.frzs u.tbls (λB U=>by
  obtain⟨C,f,q,w,W⟩:=U
  rw[N]at w;cases w
  exact⟨_,f,q,d,W⟩) g R
theorem Inv.turned{g:Nat}{j:Addr}(I:Inv X pz σ H s)(k:∀b o,b≠j->s.heap.get? b=some o->h'.get? b=some o)(d:H j=none)(y:j≠X.env.locals)
  (h1:j∈X.ex\/X.s₀.heap.objs.size<=j)(h2:∀x c,X.env.cells.lookup x=some c->c≠j)(h3:∀p∈X.pn++pz,p.1≠j):Inv X pz σ H {s with heap:=h',toks:=g}:=by
 have w:∀b u,H b=some u->b≠j:=λb u e z=>by rw[z,d]at e;cases e
 refine I.step (M:=s.gens) (d':=s.drawn) (N:=[j]) (λb f=>?_) (λb o _ _ l e _=>k b o (λz=>l (by simp[z])) e) (λb o _ _ l e _=>⟨o.slots,k b o (λz=>l (by simp[z])) e⟩) (λ_ _ _ _ n=>n)
  (λb o l e=>⟨o,k b o (λz=>l (by simp[z])) e⟩) (λ_ _ e=>e) (λ_ _ _ e=>e) (λb R e=>⟨#[],by rw[e];simp⟩) (λm L=>?_) (λb u e=>?_) I.bare
 .have e:b=j:=by simpa using f
  subst e
  exact⟨h1,y,h2,h3⟩
 .obtain⟨o,N,O,P,r⟩:=L
  exact⟨o,N,O,k _ o (Y2Z y) P,r⟩
 .refine(I.hok b u e).stay (λc v l q=>k c v ?_ q) (λ_ q=>q) λ_ _ q=>q
  rcases l with z|z
  .rw[z];exact w b u e
  .exact w c _ z
theorem Inv.tok(I:Inv X pz σ H s)(t:Nat):Inv X pz σ H {s with toks:=t}:=I.un (h':=s.heap) (c:=t) Un.refl I.hok
theorem Inv.kept(I:Inv X pz σ H s)(k:∀b u,s.heap.get? b=some u->h'.get? b=some u):Inv X pz σ H {s with heap:=h',toks:=t'}:=I.un (Un.kept k) (I.hok.kept k)
theorem Inv.laid(I:Inv X pz σ H s)(k:∀b u,s.heap.get? b=some u->h'.get? b=some u)(j:s.heap.objs.size<=a)(new:ObjOk X.prog X.w (upd H a o) h' a o):
  Inv X pz σ (upd H a o) {s with heap:=h',toks:=t'}:=I.un (Un.laid k j (I.hok.fresh j)) (I.hok.laid k j new)
theorem Inv.write(I:Inv X pz σ H s)(l:Mut (H x))(w:e=x\/H e=some (.own x))(k:∀b u,b≠e->s.heap.get? b=some u->h'.get? b=some u)(j:∃u,h'.get? e=some u)
  (new:ObjOk X.prog X.w (upd H x o) h' x o):Inv X pz σ (upd H x o) {s with heap:=h',toks:=t'}:=I.un (Un.write l w k j) (I.hok.write l w k j new)
theorem Inv.weak(I:Inv X pz σ H s)(j:σ'.length=σ.length)(w:∀(i:Nat)v,σ'[i]?=some (some v)->σ[i]?=some (some v)):Inv X pz σ' H s:=
 ⟨I.ok,I.os,I.bare,I.base,let⟨m,hn,hl'⟩:=I.loc;⟨m,hn,λi x v l u y=>hl' i x v l (w i v u) y⟩,I.cell,I.free,I.freeC,I.pin,I.hok,j.trans I.len⟩
theorem Inv.pins_of(I:Inv X pz σ H s)(h:∀p∈pins',s.heap.get? p.1=some p.2/\H p.1=none/\p.1≠X.env.locals/\p.1∉X.fs/\∀v,p.2.data≠.cell v):Inv X pins' σ H s:=
 ⟨I.ok,I.os,I.bare,I.base,I.loc,I.cell,I.free,I.freeC,λp j=>(Y0m.mp j).elim (λz=>I.pin p (Y1S _ z)) (h p),I.hok,I.len⟩
theorem _dZ{N:List Str}(l:N.Nodup){i j:Nat}{x:Str}(a:N[i]?=some x)(b:N[j]?=some x):i=j:=by
 obtain⟨y,u⟩:=Y0b.mp a
 obtain⟨z,w⟩:=Y0b.mp b
 exact(Y34 l).mp (u.trans w.symm)
theorem _bI{M:Model}{A:Around}{E:Value->Shared->Prop}{i:Nat}{x:Str}{v:V}{u:Value}{Q:Unit->Shared->Prop}(I:Inv X pz σ H s)(hN:X.N.Nodup)(U:X.N[i]?=some x)(L:Loc X.env.scope x)(r:RelV v u)
  (h:∀G,Inv X pz (σ.set i (some v)) H G->(∃a,Y1Y a s.heap G.heap/\(a=X.env.locals\/X.env.cells.lookup x=some a))->Q () G)(hf:X.fn x=true\/X.env.scope.names.lookup x=some .local:=by first|exact .inl rfl|exact .inr rfl|assumption):wpAny M A (storeName X.env x u) Q E s:=by
 obtain⟨m,J,hl⟩:=id I.loc
 have W:(X.env.scope.kind==.class||(X.env.scope.kind==.module&&X.env.locals != X.env.globals))=false:=by rw[I.ok.kind];rfl
 have O:i<σ.length:=by rw[I.len];exact(Y0b.mp U).1
 have cne:=I.cne
 have w:∀{a:Addr} {h':Heap},(∃o,s.heap.get? a=some o/\H a=none)->Y1Y a s.heap h'->HOk X.prog X.w H h':=fun{a h'} ha l b ob e=>by
  obtain⟨_,_,dZ⟩:=ha
  refine(I.hok b ob e).stay (λc C f q=>(l.2 c ?_).trans q) (λ_ q=>q) λ_ _ q=>q
  rintro rfl
  rcases f with rfl|f
  .rw[dZ]at e;cases e
  .rw[dZ]at f;cases f
 rcases L with P|P
 .refine wpAny_storeName_local P J (λh' S l=>?_) W
  obtain⟨oL,_,_,hoL,_⟩:=id J
  refine h _ ⟨I.ok,I.os,I.bare,⟨λb o e n R L=>?_,λb o e n R L=>?_,I.base.free,λb o e L=>?_,I.base.tups,I.base.frzs,I.base.tbls⟩,⟨_,S,λj y v' g N e3=>?_⟩,λy c e=>?_,I.free,I.freeC,λp hp=>?_,w ⟨oL,hoL,I.free⟩ l,by simpa using I.len⟩ ⟨_,l,.inl rfl⟩
  .exact(l.2 b (Y0p (Y0D (Y0g e) I.ok.above))).trans (I.base.keep b o e n R L)
  .obtain⟨sl,g⟩:=I.base.slot b o e n R L
   exact⟨sl,(l.2 b (Y0p (Y0D (Y0g e) I.ok.above))).trans g⟩
  .obtain⟨o',g⟩:=I.base.there b o e L
   exact⟨o',(l.2 b (Y0p (Y0D (Y0g e) I.ok.above))).trans g⟩
  .by_cases hj:j=i
   .subst hj
    rw[U]at g;cases g
    rw[Y3c O]at N
    cases N
    exact⟨u,r,.inl ⟨P,by simp⟩⟩
   .rw[List.getElem?_set_ne (Y2Z hj)]at N
    obtain⟨u',r',q⟩:=hl j y v' g N e3
    refine⟨u',r',?_⟩
    rcases q with⟨k,e⟩|⟨k,c,e,z⟩
    .refine .inl ⟨k,?_⟩
     have:y≠x:=λe=>hj (_dZ hN g (e▸U))
     simp[this,e]
    .exact .inr ⟨k,c,e,z.sameBut l (cne y c e)⟩
  .obtain⟨C,z⟩:=I.cell y c e
   exact⟨C,z.sameBut l (cne y c e)⟩
  .obtain⟨e,n,D,nf,d⟩:=I.pin p hp
   exact⟨(l.2 p.1 D).trans e,n,D,nf,d⟩
 .have T:X.fn x=true:=by
   rcases hf with z|z
   .exact z
   .rw[z]at P;cases P
  obtain⟨c,f⟩:=I.ok.has x (.inl P)
  obtain⟨C,z⟩:=I.cell x c f
  refine wpAny_storeName_cell I.ok.kind P f z (λh' Y l=>?_)
  obtain⟨oc,Z,B⟩:=id z
  refine h {s with heap:=h'} ⟨I.ok,I.os,I.bare,⟨λb o e n R L=>?_,λb o e n R L=>?_,I.base.free,λb o e L=>?_,I.base.tups,I.base.frzs,I.base.tbls⟩,⟨m,J.sameBut l (Y2Z (cne x c f)),λj y v' g N e3=>?_⟩,λy F e=>?_,I.free,I.freeC,λp hp=>?_,w ⟨oc,Z,I.freeC x c f⟩ l,by simpa using I.len⟩ ⟨c,l,.inr f⟩
  .exact(l.2 b (Y0p (Y0D (Y0g e) (I.ok.cab x c T f)))).trans (I.base.keep b o e n R L)
  .obtain⟨sl,g⟩:=I.base.slot b o e n R L
   exact⟨sl,(l.2 b (Y0p (Y0D (Y0g e) (I.ok.cab x c T f)))).trans g⟩
  .obtain⟨o',g⟩:=I.base.there b o e L
   exact⟨o',(l.2 b (Y0p (Y0D (Y0g e) (I.ok.cab x c T f)))).trans g⟩
  .by_cases hj:j=i
   .subst hj
    rw[U]at g;cases g
    rw[Y3c O]at N
    cases N
    exact⟨u,r,.inr ⟨.inl P,c,f,Y⟩⟩
   .rw[List.getElem?_set_ne (Y2Z hj)]at N
    obtain⟨u',r',q⟩:=hl j y v' g N e3
    refine⟨u',r',?_⟩
    rcases q with q|⟨k,F,e,z'⟩
    .exact .inl q
    .refine .inr ⟨k,F,e,z'.sameBut l ?_⟩
     rintro rfl
     exact hj (_dZ hN g (I.ok.inj _ _ _ e f▸U))
  .by_cases hcc:F=c
   .subst hcc;exact⟨_,Y⟩
   .obtain⟨w2,z2⟩:=I.cell y F e
    exact⟨w2,z2.sameBut l hcc⟩
  .obtain⟨e,n,D,nf,d⟩:=I.pin p hp
   refine⟨(l.2 p.1 ?_).trans e,n,D,nf,d⟩
   intro q
   rw[q,Z]at e
   have q':oc=p.2:=Y0z e
   exact d C (by rw[<-q'];exact B)
theorem _dN(I:Inv X pz σ H s)(l:X.N.Nodup)(w:X.N[i]?=some x)(y:Loc X.env.scope x)(r:RelV v u)
  (h:∀j,Inv X pz (σ.set i (some v)) H j->Q () j)(z:X.fn x=true\/X.env.scope.names.lookup x=some .local:=by first|exact .inl rfl|exact .inr rfl|assumption):wpAny M A (storeName X.env x u) Q E s:=
 _bI I l w y r (λj m _=>h j m) z
theorem Inv.call'(I:Inv X pz σ H s)(w:s'.os=s.os)(u:Un (frs X.stack) ch H H' s.heap s'.heap)(j:HOk X.prog X.w H' s'.heap)(y:AllBare s'.gens)
  (l:∀b∈ch,(b∈X.ex\/X.s₀.heap.objs.size<=b)/\b≠X.env.locals/\(∀x c,X.env.cells.lookup x=some c->c≠b)/\∀p∈X.pn++pz,p.1≠b):Inv X pz σ H' s':=by
 obtain⟨h',z,m,g,d⟩:=s'
 have e:d=s.os:=w
 subst e
 exact I.call (L:=z) (O:=g) (P:=m) u j y l
end
abbrev XK:=Value->Option Addr->Hp->Prop
noncomputable abbrev St:=List (Option V)
abbrev VK:=V->Hp->Prop
abbrev TE:=St->Hp->VK->Prop
abbrev TT:=St->Hp->(Bool->Hp->Prop)->Prop
abbrev TA:=St->Hp->(List V->Hp->Prop)->Prop
structure Ends where
 nx:St->Hp->Prop
 rt:VK
 bk:St->Hp->Prop:=λ_ _=>False
 ct:St->Hp->Prop:=λ_ _=>False
abbrev TS:=Ends->St->Hp->Prop
def EP(X:Cx)(l:List (Addr×Obj))(w:St)(Q:VK)(u:Value)(y:Shared):Prop:=∃v j,Inv X l w j y/\RelV v u/\Q v j
noncomputable def TP(X:Cx)(l:List (Addr×Obj))(u:St)(Q:Bool->Hp->Prop)(b:Bool)(w:Shared):Prop:=∃j,Inv X l u j w/\Q b j
def AP(X:Cx)(u:List (Addr×Obj))(w:St)(Q:List V->Hp->Prop)(y:List Value)(z:Shared):Prop:=∃j l,Inv X u w l z/\Vals j y/\Q j l
def SP(X:Cx)(w:List (Addr×Obj))(D:Ends)(f:Flow)(y:Shared):Prop:=
 match f with
 |.next=>∃j l,Inv X w j l y/\D.nx j l
 |.brk=>∃j l,Inv X w j l y/\D.bk j l
 |.cont=>∃j l,Inv X w j l y/\D.ct j l
 |.ret u=>∃v j l,Inv X w j l y/\RelV v u/\D.rt v l
def PE(X:Cx)(e:Expr)(t:TE):Prop:=
 ∀(l:List (Addr×Obj))(s:Shared)(j:St)(H:Hp)(Q:VK),Inv X l j H s->t j H Q->wpAny (model X.prog X.w) X.A (eval e X.env) (EP X l j Q) X.xe s
def PT(X:Cx)(e:Expr)(t:TT):Prop:=
 ∀(l:List (Addr×Obj))(s:Shared)(j:St)(H:Hp)(Q:Bool->Hp->Prop),Inv X l j H s->t j H Q->wpAny (model X.prog X.w) X.A (isTrue e X.env (eval e X.env)) (TP X l j Q) X.xe s
def PW(X:Cx)(e:Expr)(t:TT):Prop:=
 ∀(j:Sem Value)(u:List (Addr×Obj))(s:Shared)(l:St)(H:Hp)(Q:Bool->Hp->Prop),Inv X u l H s->t l H Q->wpAny (model X.prog X.w) X.A (isTrue e X.env j) (TP X u l Q) X.xe s
theorem PW.pt{t:TT}(h:PW X e t):PT X e t:=h _
def PA(X:Cx)(w:List Expr)(t:TA):Prop:=
 ∀(j:Pos)(u:List (Addr×Obj))(s:Shared)(l:St)(H:Hp)(Q:List V->Hp->Prop),Inv X u l H s->t l H Q->wpAny (model X.prog X.w) X.A (spliced (backTo j (starEach w X.env))) (AP X u l Q) X.xe s
def PS(X:Cx)(st:Stmt)(t:TS):Prop:=
 ∀(j:List (Addr×Obj))(s:Shared)(l:St)(H:Hp)(D:Ends),Inv X j l H s->t D l H->wpAny (model X.prog X.w) X.A (exec st X.env) (SP X j D) X.xe s
def PSs(X:Cx)(st:List Stmt)(t:TS):Prop:=
 ∀(j:List (Addr×Obj))(s:Shared)(l:St)(H:Hp)(D:Ends),Inv X j l H s->t D l H->wpAny (model X.prog X.w) X.A (execs st X.env) (SP X j D) X.xe s
theorem thn{j:Type}{t:Sem j}{Q l:j->Shared->Prop}{M:Model}{A:Around}{E:Value->Shared->Prop}{s:Shared}(h:wpAny M A t Q E s)(u:∀a s,Q a s->l a s):wpAny M A t l E s:=wpAny_mono h u λ_ _ x=>x
end L2
namespace L2
open PySem PySem.Spec PyProof.Rows
section
variable{X:Cx}
theorem bin{a b:Expr}{c q:TE}(p:PE X a c)(e:PE X b q){m:List (Addr×Obj)}{s:Shared}{j:St}{H:Hp}{R:V->V->Hp->Prop}(I:Inv X m j H s)(h:c j H λx d=>q j d λy l=>R x y l)
  {r:Type} {Q:r->Shared->Prop} {f:Value->Value->Sem r}
  (L:∀v u g x y l,Inv X m j l g->RelV x v->RelV y u->R x y l->wpAny (model X.prog X.w) X.A (f v u) Q X.xe g):
  wpAny (model X.prog X.w) X.A (eval a X.env) (λv w=>wpAny (model X.prog X.w) X.A (eval b X.env) (λu z=>wpAny (model X.prog X.w) X.A (f v u) Q X.xe z) X.xe w) X.xe s:=by
 refine thn (p m s j H _ I h) λv N ⟨x,d,O,P,T⟩=>?_
 refine thn (e m N j d _ O T) λu g ⟨y,l,U,W,Y⟩=>?_
 exact L v u g x y l U P W Y
noncomputable def tVar(i:Nat):TE:=λj H Q=>∃v,j[i]?=some (some v)/\Q v H
noncomputable def tC(v:V):TE:=λ_ H Q=>Q v H
theorem _ic{i:Nat}{x:Str}{z:Pos}(f:X.N[i]?=some x)(q:Vis X.env.scope x)(hd:(x==("__debug__":Str))=false:=by decide)(g:(x==("__classdict__":Str))=false:=by decide):PE X (.Name x z) (tVar i):=by
 intro p s L H Q I h
 obtain⟨v,e,h⟩:=h
 obtain⟨m,N,O⟩:=I.loc
 obtain⟨u,r,l⟩:=O i x v f e q
 have w:EP X p L Q u s:=⟨v,H,I,r,h⟩
 rcases l with⟨y,P⟩|⟨y,c,d,j⟩
 .exact wpAny_Name (wpAny_loadName_local I.ok.kind y N P w) hd
 .rcases y with y|y
  .exact wpAny_Name (wpAny_loadName_cell I.ok.kind y d j w) hd
  .exact wpAny_Name (wpAny_loadName_free I.ok.kind y d j w g) hd
theorem pe_int{i j l}:PE X (.Constant (.int i) j l) (tC (.int i)):=λ_ _ _ H _ I h=>wpAny_Constant_int ⟨.int i,H,I.tok _,⟨_,rfl⟩,h⟩
theorem pe_bl{b j l}:PE X (.Constant (.bool b) j l) (tC (.bl b)):=λ_ _ _ H _ I h=>Constant_bool ⟨.bl b,H,I,rfl,h⟩
theorem pe_non{j l}:PE X (.Constant .none j l) (tC .non):=λ_ _ _ H _ I h=>Constant_none ⟨.non,H,I,rfl,h⟩
theorem pe_str{x j l}:PE X (.Constant (.str x) j l) (tC (.str x)):=λ_ _ _ H _ I h=>Calls.Constant_str ⟨.str x,H,I.tok _,⟨_,rfl⟩,h⟩
noncomputable def Gl(X:Cx)(x:Str):Prop:=X.env.kindOf x=some .globalImplicit
theorem _dl(I:Inv X pz σ H s)(j:Gl X x)(l:X.mg x=some u)(h:Q u s)
  (hd:(x==("__debug__":Str))=false:=by decide):wpAny (model X.prog X.w) X.A (eval (.Name x pos) X.env) Q E s:=
 Y2w I.ok.kind j (Calls.loadGlobal_global (by rw[I.ok.glob];exact I.mod.glob.keeps I.bk) l h) hd
theorem _6q(I:Inv X pz σ H s)(j:Gl X x)(l:X.mg x=none)(w:bootBuiltins x=some u)(h:Q u s)
  (y:x≠"__name__":=by decide)(hd:(x==("__debug__":Str))=false:=by decide):wpAny (model X.prog X.w) X.A (eval (.Name x pos) X.env) Q E s:=by
 obtain⟨g,z,m⟩:=I.mod.blt
 exact Y2w I.ok.kind j (Calls.loadGlobal_builtin (by rw[I.ok.glob];exact I.mod.glob.keeps I.bk) l (by rw[I.ok.blt];exact z.keeps I.bk) ((m x y).trans w) h) hd
theorem _db{x:Str}{v:V}{u:Value}{j:Pos}(l:Gl X x)(w:X.mg x=some u)(r:RelV v u)(hd:(x==("__debug__":Str))=false:=by decide):PE X (.Name x j) (tC v):=
 λ_ _ _ H _ I h=>_dl I l w ⟨v,H,I,r,h⟩ hd
theorem _jk{x:Str}{v:V}{u:Value}{j:Pos}(l:Gl X x)(w:X.mg x=none)(y:bootBuiltins x=some u)(r:RelV v u)(z:x≠"__name__":=by decide)(hd:(x==("__debug__":Str))=false:=by decide):PE X (.Name x j) (tC v):=
 λ_ _ _ H _ I h=>_6q I l w y ⟨v,H,I,r,h⟩ z hd
variable{a b:Expr}{ta tb:TE}{pos:Pos}
noncomputable def tB(t:TE):TT:=λj H Q=>t j H λx l=>∃c,x=.bl c/\Q c l
theorem _ln{e:Expr}{t:TE}(h:PE X e t)(l:∀j,isTrue e X.env j=(do let v<- j;standAt e.pos;holding [v] (truthy v)):=by intro _;rfl):PT X e (tB t):=by
 intro u s w H Q I y
 refine isTrue_plain (thn (h u s w H _ I y) λv f ⟨x,z,m,g,c⟩=>?_) (l _)
 obtain⟨d,rfl,q⟩:=c
 cases g
 exact wpAny_truthy_bool ⟨z,m,q⟩
variable{tA tB':TT}{rest:List Expr}
noncomputable def tAnd(t u:TT):TT:=λj H Q=>t j H λc l=>if c=true then u j l Q else Q false l
noncomputable def tOr(t u:TT):TT:=λj H Q=>t j H λc l=>if c=true then Q true l else u j l Q
noncomputable def tNot(t:TT):TT:=λj H Q=>t j H λc l=>Q (!c) l
theorem pw_and1(j:PT X a tA):PW X (.BoolOp .And [a] pos) tA:=by
 intro w l s u H Q I h
 refine isTrue_and (thn (j l s u H Q I h) λc y e=>?_)
 cases c with
 |true=>exact isTrue_and_nil e
 |false=>exact e
theorem pw_or1(j:PT X a tA):PW X (.BoolOp .Or [a] pos) tA:=by
 intro w l s u H Q I h
 refine isTrue_or (thn (j l s u H Q I h) λc y e=>?_)
 cases c with
 |false=>exact isTrue_or_nil e
 |true=>exact e
theorem pw_and(z:PT X a tA)(m:PW X (.BoolOp .And (b::rest) pos) tB'):PW X (.BoolOp .And (a::b::rest) pos) (tAnd tA tB'):=by
 intro g j s l H Q I h
 refine isTrue_and (thn (z j s l H _ I h) λc d ⟨u,w,y⟩=>?_)
 cases c with
 |true=>exact m g j d l u Q w y
 |false=>exact⟨u,w,y⟩
theorem pw_or(z:PT X a tA)(m:PW X (.BoolOp .Or (b::rest) pos) tB'):PW X (.BoolOp .Or (a::b::rest) pos) (tOr tA tB'):=by
 intro g j s l H Q I h
 refine isTrue_or (thn (z j s l H _ I h) λc d ⟨u,w,y⟩=>?_)
 cases c with
 |true=>exact⟨u,w,y⟩
 |false=>exact m g j d l u Q w y
theorem _lo(j:PT X a tA):PT X (.UnaryOp .Not a pos) (tNot tA):=by
 intro l s u H Q I h
 exact isTrue_not (j l s u H (λc w=>Q (!c) w) I h)
noncomputable def ZmB(ta tb:TE):TE:=λj H Q=>ta j H λx l=>∃c,x=.bl c/\if c=true then tb j l Q else Q (.bl false) l
noncomputable def tOrV(ta tb:TE):TE:=λj H Q=>ta j H λx l=>∃c,x=.bl c/\if c=true then Q (.bl true) l else tb j l Q
noncomputable def Zmx(ta:TE):TE:=λj H Q=>ta j H λx l=>∃c,x=.bl c/\Q (.bl (!c)) l
theorem _id{op}{t:TE}(h:PE X a t):PE X (.BoolOp op [a] pos) t:=λj s l H Q I u=>BoolOp_one (h j s l H Q I u)
theorem _lA(z:PE X a ta)(m:PE X (.BoolOp .And (b::rest) pos) tb):PE X (.BoolOp .And (a::b::rest) pos) (ZmB ta tb):=by
 intro l s u H Q I h
 refine BoolOp_and (thn (z l s u H _ I h) λv g ⟨x,w,y,d,j⟩=>?_)
 obtain⟨c,rfl,j⟩:=j
 cases d
 refine wpAny_truthy_bool ?_
 cases c with
 |true=>exact m l g u w Q y j
 |false=>exact⟨.bl false,w,y,rfl,j⟩
theorem _nC(z:PE X a ta)(m:PE X (.BoolOp .Or (b::rest) pos) tb):PE X (.BoolOp .Or (a::b::rest) pos) (tOrV ta tb):=by
 intro l s u H Q I h
 refine BoolOp_or (thn (z l s u H _ I h) λv g ⟨x,w,y,d,j⟩=>?_)
 obtain⟨c,rfl,j⟩:=j
 cases d
 refine wpAny_truthy_bool ?_
 cases c with
 |false=>exact m l g u w Q y j
 |true=>exact⟨.bl true,w,y,rfl,j⟩
theorem _lw(l:PE X a ta):PE X (.UnaryOp .Not a pos) (Zmx ta):=by
 intro u s w H Q I h
 refine UnaryOp_ (thn (l u s w H _ I h) λv g ⟨x,y,z,m,j⟩=>?_)
 obtain⟨c,rfl,j⟩:=j
 cases m
 exact not_of (wpAny_truthy_bool ⟨.bl (!c),y,z,rfl,j⟩)
end
end L2
namespace L2
open PySem PySem.Spec PyProof.Rows
def SqL(K:Y00)(H:Hp)(a:Addr)(l:List V):Prop:=
 Rd H a (.lst l)\/
  ∃(o:Obj) (j:Array Value) (n:Nat),K.lookup a=some o/\o.cls=.type "list"/\o.dict=none/\o.data=.seq j n/\j.size<=sizeLine/\Vals l j.toList
def SqT(K:Y00)(H:Hp)(a:Addr)(l:List V):Prop:=
 Rd H a (.tup l)\/
  ∃(o:Obj) (j:Array Value) (n:Nat),K.lookup a=some o/\o.cls=.type "tuple"/\o.data=.seq j n/\j.size<=sizeLine/\Vals l j.toList
noncomputable def absV:Value->Option V
 |.none=>some .non
 |.bool b=>some (.bl b)
 |.int i _=>some (.int i)
 |.str x _=>some (.str x)
 |.bytes b _=>some (.byt b)
 |.float b _=>some (.flt b)
 |.ref a=>some (.ref a)
 |.type n=>some (.ty n)
 |_=>none
theorem RelV.abs(r:RelV x u):absV u=some x:=by
 cases x with
 |non=>cases r;rfl
 |bl _=>cases r;rfl
 |int _=>obtain⟨t,rfl⟩:=r;rfl
 |str _=>obtain⟨t,rfl⟩:=r;rfl
 |byt _=>obtain⟨t,rfl⟩:=r;rfl
 |flt _=>obtain⟨t,rfl⟩:=r;rfl
 |ref _=>cases r;rfl
 |ty _=>cases r;rfl
theorem RelV.inj(r:RelV x u)(q:RelV y u):x=y:=Y0z (r.abs.symm.trans q.abs)
theorem Vals.inj:∀{xs ys:List V} {j:List Value},Vals xs j->Vals ys j->xs=ys
 |_,_,_,.nil,.nil=>rfl
 |_,_,_,.cons r t,.cons r' t'=>by rw[r.inj r',Vals.inj t t']
section
variable{X:Cx}{pz:List (Addr×Obj)}{σ:St}{H:Hp}{s:Shared}{a:Addr}{xs ys:List V}
theorem SqL.of{K:Y00}(h:H a=some (.lst xs)):SqL K H a xs:=.inl (.inl h)
theorem SqT.of{K:Y00}(h:H a=some (.tup xs)):SqT K H a xs:=.inl (.inl h)
theorem Inv.list(I:Inv X pz σ H s)(h:SqL X.K H a xs):∃j:List Value,Vals xs j/\PlainL s.heap a j.toArray/\xs.length<=sizeLine:=by
 rcases h with h|⟨o,j,n,l,u,hd,w,y,r⟩
 .obtain⟨z,j,n,r,e⟩:=h.ok I.hok
  exact⟨j,r,⟨_,n,e,rfl,rfl,rfl⟩,z⟩
 .refine⟨j.toList,r,⟨o,n,I.kIn a o l,u,hd,by simpa using w⟩,?_⟩
  have e:=r.length
  simp only[Y0o]at e
  lia
theorem Inv.tuple(I:Inv X pz σ H s)(h:SqT X.K H a xs):∃j:List Value,Vals xs j/\IsTup s.heap a j.toArray/\xs.length<=sizeLine:=by
 rcases h with h|⟨o,j,n,l,u,w,y,r⟩
 .obtain⟨z,j,r,p⟩:=h.ok I.hok
  exact⟨j,r,p.1,z⟩
 .refine⟨j.toList,r,⟨o,I.kIn a o l,u,n,by simpa using w⟩,?_⟩
  have e:=r.length
  simp only[Y0o]at e
  lia
theorem Inv.list_inj(I:Inv X pz σ H s)(h:SqL X.K H a xs)(y:SqL X.K H a ys):xs=ys:=by
 obtain⟨l,r,⟨o,n,e,_,_,d⟩,_⟩:=I.list h
 obtain⟨j,z,⟨m,g,u,_,_,w⟩,_⟩:=I.list y
 rw[e]at u;cases u
 rw[d]at w
 injection w with d1 _
 have:l=j:=by simpa using congrArg Array.toList d1
 subst this
 exact r.inj z
theorem Inv.tuple_inj(I:Inv X pz σ H s)(h:SqT X.K H a xs)(y:SqT X.K H a ys):xs=ys:=by
 obtain⟨l,r,⟨o,e,_,n,d⟩,_⟩:=I.tuple h
 obtain⟨j,z,⟨m,u,_,g,w⟩,_⟩:=I.tuple y
 rw[e]at u;cases u
 rw[d]at w
 injection w with d1 _
 have:l=j:=by simpa using congrArg Array.toList d1
 subst this
 exact r.inj z
end
noncomputable abbrev Cx.wish(X:Cx)(E:Value->Shared->Prop):Cx:={X with xe:=E}
noncomputable abbrev Cx.nox(X:Cx):Cx:=X.wish λ_ _=>False
theorem Cx.Ok.wish{X:Cx}(ok:X.Ok)(E:Value->Shared->Prop):(X.wish E).Ok:=
 ⟨ok.mod,ok.kind,ok.glob,ok.blt,ok.above,ok.inj,ok.has,ok.cab,ok.hd,ok.frames,ok.stk,ok.exf,ok.bs,ok.bsz,ok.noex,ok.exfs,ok.funs,ok.frf⟩
theorem Cx.Ok.unwish{X:Cx}{E:Value->Shared->Prop}(ok:(X.wish E).Ok):X.Ok:=
 ⟨ok.mod,ok.kind,ok.glob,ok.blt,ok.above,ok.inj,ok.has,ok.cab,ok.hd,ok.frames,ok.stk,ok.exf,ok.bs,ok.bsz,ok.noex,ok.exfs,ok.funs,ok.frf⟩
section
variable{X:Cx}{pz:List (Addr×Obj)}{σ:St}{H:Hp}{s:Shared}{E:Value->Shared->Prop}
theorem Inv.wish(I:Inv X pz σ H s)(E:Value->Shared->Prop):Inv (X.wish E) pz σ H s:=⟨I.ok.wish E,I.os,I.bare,I.base,I.loc,I.cell,I.free,I.freeC,I.pin,I.hok,I.len⟩
theorem Inv.unwish(I:Inv (X.wish E) pz σ H s):Inv X pz σ H s:=⟨I.ok.unwish,I.os,I.bare,I.base,I.loc,I.cell,I.free,I.freeC,I.pin,I.hok,I.len⟩
theorem SP.unwish(h:SP (X.wish E) pz D f s'):SP X pz D f s':=by
 cases f with
 |next=>obtain⟨j,l,I,q⟩:=h;exact⟨j,l,I.unwish,q⟩
 |brk=>obtain⟨j,l,I,q⟩:=h;exact⟨j,l,I.unwish,q⟩
 |cont=>obtain⟨j,l,I,q⟩:=h;exact⟨j,l,I.unwish,q⟩
 |ret u=>obtain⟨v,j,l,I,r,q⟩:=h;exact⟨v,j,l,I.unwish,r,q⟩
theorem PSs.nox{st:List Stmt}{t:TS}(h:PSs X.nox st t):PSs X st t:=λpz s σ H D I j=>
 wpAny_mono (h pz s σ H D (I.wish _) j) (λ_ _ q=>q.unwish) λ_ _ z=>Y0U z
end
section
variable{X:Cx}{st:Stmt}{rest:List Stmt}{t u:TS}{e:Expr}{te:TE}{pos:Pos}
noncomputable def Zmy:TS:=λD j H=>D.nx j H
noncomputable def tSeq(t u:TS):TS:=λD j H=>t {D with nx:=u D} j H
theorem pss_nil:PSs X [] Zmy:=λ_ _ j H _ I h=>wpAny_execs_nil ⟨j,H,I,h⟩
theorem _h8(h1:PS X st t)(h2:PSs X rest u):PSs X (st::rest) (tSeq t u):=by
 intro l s w H D I h
 refine wpAny_execs_cons (thn (h1 l s w H {D with nx:=u D} I h) λf y q=>?_)
 cases f with
 |next=>
  obtain⟨j,z,m,q⟩:=q
  exact h2 l y j z D m q
 |ret v=>exact q
 |brk=>exact q
 |cont=>exact q
theorem Inv.quiet(I:Inv X pz σ H s):interactive X.env=false:=by simp[interactive,I.ok.kind]
noncomputable def Zmz(te:TE):TS:=λD j H=>te j H λ_ l=>D.nx j l
theorem _ja(l:PE X e te)(w:swapsWith e none pos.line X.env=pure false:=by rfl):PS X (.Expr e pos) (Zmz te):=by
 intro y s j H D I h
 exact wpAny_Expr_any (thn (l y s j H _ I h) λv d ⟨x,z,m,c,g⟩=>⟨j,z,m,g⟩) I.quiet w
noncomputable def tRet(te:TE):TS:=λD j H=>te j H D.rt
theorem _lp(l:PE X e te):PS X (.Return (some e) pos) (tRet te):=by
 intro w s j H D I h
 exact wpAny_Return_some (thn (l w s j H _ I h) λv d ⟨x,y,z,m,g⟩=>⟨x,j,y,z,m,g⟩)
noncomputable def tIfS(c:TT)(t u:TS):TS:=λD j H=>c j H λb l=>if b=true then t D j l else u D j l
theorem _nA{c:Expr}{a b:List Stmt}{w:TT}(f:PT X c w)(q:PSs X a t)(r:PSs X b u):PS X (.If c a b pos) (tIfS w t u):=by
 intro j s l H D I h
 refine wpAny_If (thn (f j s l H _ I h) λd y ⟨z,m,g⟩=>?_)
 cases d with
 |true=>exact q j y l z D m g
 |false=>exact r j y l z D m g
noncomputable def ZkI:TS:=λ_ _ _=>False
theorem ps_never:PS X st ZkI:=λ_ _ _ _ _ _ h=>h.elim
end
abbrev TG:=V->St->Hp->(St->Hp->Prop)->Prop
abbrev TGs:=List V->St->Hp->(St->Hp->Prop)->Prop
def PG(X:Cx)(j:Expr)(t:TG):Prop:=
 ∀(w:List (Addr×Obj))(s:Shared)(y:St)(H:Hp)(v:V)(u:Value)(Q:St->Hp->Prop),Inv X w y H s->RelV v u->t v y H Q->
  wpAny (model X.prog X.w) X.A (assign j X.env u) (λ_ m=>∃l z,Inv X w l z m/\Q l z) X.xe s
def PGs(X:Cx)(m:List Expr)(t:TGs):Prop:=
 ∀(l:List (Addr×Obj))(s:Shared)(u:St)(H:Hp)(w:List V)(y:List Value)(Q:St->Hp->Prop),Inv X l u H s->Vals w y->t w u H Q->
  wpAny (model X.prog X.w) X.A (assignInOrder ((assignEach m X.env).map (·.2)) y) (λ_ g=>∃j z,Inv X l j z g/\Q j z) X.xe s
section
variable{X:Cx}{pos:Pos}
noncomputable def ZhE(i:Nat):TG:=λv j H Q=>Q (j.set i (some v)) H
theorem _fF(j:X.N.Nodup)(l:X.N[i]?=some x)(w:Loc X.env.scope x)(y:X.fn x=true\/X.env.scope.names.lookup x=some .local:=by first|exact .inl rfl|exact .inr rfl|assumption):PG X (.Name x pos) (ZhE i):=by
 intro m s g H v u Q I r h
 exact wpAny_assign_Name (_dN I j l w r (λd z=>⟨_,H,z,h⟩) y)
noncomputable def gNil:TGs:=λj l H Q=>j=[]/\Q l H
noncomputable def Zme(t:TG)(u:TGs):TGs:=λl w H Q=>∃v r,l=v::r/\t v w H λj y=>u r j y Q
theorem _ji:PGs X [] gNil:=by
 intro l s j H u w Q I r h
 obtain⟨e,h⟩:=h
 subst e
 cases r
 exact assignInOrder_nil ⟨j,H,I,h⟩
theorem _hd{e:Expr}{j:List Expr}{t:TG}{u:TGs}(h1:PG X e t)(h2:PGs X j u)
  (y:(assignEach (e::j) X.env).map (·.2)=assign e X.env::(assignEach j X.env).map (·.2):=by rfl):PGs X (e::j) (Zme t u):=by
 intro w s z H p L Q I r h
 obtain⟨v,N,m,h⟩:=h
 subst m
 cases r with
 |cons r g=>
  rw[y]
  refine assignInOrder_cons (thn (h1 w s z H _ _ _ I r h) λ_ d ⟨l,c,f,q⟩=>?_)
  exact h2 w d l c _ _ Q f g q
def gTup(K:Y00)(n:Nat)(t:TGs):TG:=λv l H Q=>∃a j,v=.ref a/\SqT K H a j/\j.length=n/\t j l H Q
theorem _lu{k:Nat}{t:TGs}(m:X.calm=true)(h:PGs X es t)
  (g:(assignEach es X.env).length=n:=by rfl)(j:(assignEach es X.env).findIdx? (·.1)=none:=by rfl):PG X (.Tuple es k pos) (gTup X.K n t):=by
 intro w s y H v u Q I r l
 obtain⟨a,d,c,f,q,l⟩:=l
 subst c
 cases r
 obtain⟨p,z,L,R⟩:=I.tuple f
 refine assign_Tuple_tuple (I.ok.hd m) L (by simp[g,<-q,z.length]) j λN O=>?_
 have P:Inv X w y H {s with heap:=N}:=I.kept (t':=s.toks) λb o e=>O b o (Y0p (Y0g e)) e
 exact h w _ y H d _ Q P (by simpa using z) l
noncomputable def tAsg(l:TE)(g:TG):TS:=λD j H=>l j H λx u=>g x j u D.nx
theorem _lr{j e:Expr}{l:TE}{g:TG}(y:PE X e l)(z:PG X j g)(m:swapsWithSole [j] e pos.line X.env=pure false:=by rfl)(hw:swappedStores [j] e X.env=pure none:=by rfl)
  (h1:(assignEach [j] X.env).map (·.2)=[assign j X.env]:=by rfl):PS X (.Assign [j] e pos) (tAsg l g):=by
 intro u s w H D I h
 refine wpAny_Assign_stores (thn (y u s w H _ I h) λv d ⟨x,c,f,r,p⟩=>?_) m hw
 rw[h1]
 exact thn (z u d w c x v _ f r p) λ_ L q=>q
theorem _ia{i:Nat}{x:Str}{e:Expr}{l:TE}{j:Pos}(u:X.N.Nodup)(w:X.N[i]?=some x)(z:Loc X.env.scope x)(m:PE X e l)(g:swapsWith e (some (.Name x j)) pos.line X.env=pure false:=by rfl)(d:X.fn x=true\/X.env.scope.names.lookup x=some .local:=by first|exact .inl rfl|exact .inr rfl|assumption):
  PS X (.Assign [.Name x j] e pos) (tAsg l (ZhE i)):=by
 intro c s f H D I h
 refine wpAny_Assign_Name (thn (m c s f H _ I h) λv O ⟨y,q,r,p,L⟩=>?_) g
 exact _dN r u w z p (λP N=>⟨_,q,N,L⟩) d
def ZkG(c:TT)(z:TS):TS:=λD j H=>∃W:Nat->St->Hp->Prop,(∃m,W m j H)/\∀m j H,W m j H->
 c j H λb u=>if b=true then∃N:St->Hp->Prop,(∀l w,N l w->∃y,y<m/\W y l w)/\z {D with nx:=N,ct:=N,bk:=D.nx} j u else D.nx j u
theorem _h9{c:Expr}{u:List Stmt}{O:TT}{P:TS}(R:PassesOwn (model X.prog X.w) X.A X.env X.xe)(B:PT X c O)(C:PSs X u P):PS X (.While c u [] pos) (ZkG O P):=by
 intro d s E H D I h
 obtain⟨W,⟨F,G⟩,w⟩:=h
 refine wpAny_While (codeAny_whileLoop (λn J=>∃y T,Inv X d y T J/\W n y T) ?_ F ⟨E,H,I,G⟩)
 rintro n M ⟨l,U,Q,S⟩
 refine wpAny_passesOwn R (thn (B d M l U _ Q (w n l U S)) λb o ⟨Y,Z,m⟩=>?_)
 cases b with
 |true=>
  obtain⟨N,A,m⟩:=m
  rw[if_pos rfl]
  refine wpAny_passesOwn R (thn (C d o l Y _ Z m) λf i g=>?_)
  cases f with
  |next=>
   obtain⟨j,z,q,r⟩:=g
   obtain⟨p,e,L⟩:=A j z r
   exact⟨p,e,j,z,q,L⟩
  |cont=>
   obtain⟨j,z,q,r⟩:=g
   obtain⟨p,e,L⟩:=A j z r
   exact⟨p,e,j,z,q,L⟩
  |brk=>exact g
  |ret v=>exact g
 |false=>
  rw[if_neg Y05]
  exact wpAny_execs_nil ⟨l,Y,Z,m⟩
end
structure It where
 go:Nat->Hp->Prop
 yld:Nat->Hp->V->Hp->Prop
 stop:Nat->Hp->Prop
noncomputable def FpOk(X:Cx)(j:List (Addr×Obj))(H:Hp)(b:Addr):Prop:=
 H b=none/\b≠X.env.locals/\b∉X.fs/\(b∈X.ex\/X.s₀.heap.objs.size<=b)/\(∀x c,X.env.cells.lookup x=some c->c≠b)/\∀p∈X.pn++j,p.1≠b
theorem Inv.fpOk(I:Inv X pz σ H s)(j:s.heap.objs.size<=b)(l:H' b=none):FpOk X pz H' b:=by
 refine⟨l,Y3m (Y0D I.lt j),I.nofs j,.inr (Y0S I.sz j),λx c e z=>?_,λp u z=>?_⟩
 .obtain⟨v,q⟩:=I.cell x c e
  exact absurd (Y0D q.lt (by rw[z];exact j)) (Y22 _)
 .exact absurd (Y0D (Y0g (I.pin p u).1) (by rw[z];exact j)) (Y22 _)
structure Turn (P:Program)(w:World)(K:Y00)(tg:Expr)(J:It)(fp:List Addr)(it:Addr)(tn:Nat->Heap->Prop):Prop where
 mem:it∈fp
 obj:∀i h,tn i h->∀b∈fp,∃o,h.get? b=some o/\∀v,o.data≠.cell v
 keep:∀i h h',tn i h->(∀b∈fp,∀o,h.get? b=some o->h'.get? b=some o)->tn i h'
 item:∀(X:Cx),X.prog=P->X.w=w->X.K=K->X.calm=true->∀(i:Nat)(pz:List (Addr×Obj))(s:Shared)(σ:St)(H:Hp)(E:Value->Shared->Prop),Inv X pz σ H s->(∀b∈fp,FpOk X pz H b)->tn i s.heap->J.go i H->
  wpAny (model P w) X.A (pyNext (.ref it)) (λr s1=>∃u,r=some u/\
   wpAny (model P w) X.A (letOwnedTupleGo tg (.ref it) u) (λ_ s2=>∃x H',Inv X pz σ H' s2/\RelV x u/\J.yld i H x H'/\tn (i+1) s2.heap/\∀b∈fp,H' b=none) E s1) E s
 done:∀(X:Cx),X.prog=P->X.w=w->X.K=K->X.calm=true->∀(i:Nat)(pz:List (Addr×Obj))(s:Shared)(σ:St)(H:Hp)(E:Value->Shared->Prop),Inv X pz σ H s->(∀b∈fp,FpOk X pz H b)->tn i s.heap->J.stop i H->
  wpAny (model P w) X.A (pyNext (.ref it)) (λr s1=>r=none/\Inv X pz σ H s1) E s
 self:∀(A:Around)(i:Nat)(s:Shared)(Q:Value->Shared->Prop)(E:Value->Shared->Prop),tn i s.heap->Q (.ref it) s->wpAny (model P w) A (pyIter (.ref it)) Q E s
abbrev TI:=St->Hp->(It->Hp->Prop)->Prop
def PIE(X:Cx)(u:List (Addr×Obj))(g:St)(d:Expr)(R:It->Hp->Prop)(j:Value)(w:Shared):Prop:=
 ∃(y:Addr) (z:List Addr) (m:Nat->Heap->Prop) (J:It) (l:Hp),j=.ref y/\Inv X u g l w/\Turn X.prog X.w X.K d J z y m/\m 0 w.heap/\(∀b∈z,FpOk X u l b)/\R J l
def PI(X:Cx)(w j:Expr)(y:TI):Prop:=
 ∀(u:List (Addr×Obj))(s:Shared)(l:St)(H:Hp)(R:It->Hp->Prop),Inv X u l H s->y l H R->
  wpAny (model X.prog X.w) X.A (eval j X.env) (λv z=>wpAny (model X.prog X.w) X.A (pyIter v) (PIE X u l w R) X.xe z) X.xe s
theorem _eL(l:s.heap.get? it=some o)(w:o.cls=.type n)(hd:o.data=.fields vs)
  (y:["enumerate","zip","dict_itemiterator","dict_reverseitemiterator","odict_iterator","itertools.zip_longest","itertools.pairwise"].contains n=false)(j:Q () s):wpAny M A (letOwnedTupleGo tg (.ref it) u) Q E s:=by
 unfold letOwnedTupleGo
 cases tg<;>first
  |exact wpAny_pure j
  |(cases u<;>first
    |exact wpAny_pure j
    |(refine wpAny_bind (wpAny_load l ?_)
      rw[w,hd]
      show wpAny M A (if(["enumerate","zip","dict_itemiterator","dict_reverseitemiterator","odict_iterator","itertools.zip_longest","itertools.pairwise"].contains n&&vs[0]?==some (rawInt _))=true then _ else _) Q E s
      rw[if_neg (by intro h;rw[y,Y3x]at h;cases h)]
      exact wpAny_pure j))
def Itl(K:Y00)(a:Addr):It:=
 ⟨λi H=>∃j x,SqL K H a j/\j[i]?=some x,λi H x l=>l=H/\∀j,SqL K H a j->j[i]?=some x,λi H=>∃j,SqL K H a j/\j.length<=i⟩
def Itt(K:Y00)(a:Addr):It:=
 ⟨λi H=>∃j x,SqT K H a j/\j[i]?=some x,λi H x l=>l=H/\∀j,SqT K H a j->j[i]?=some x,λi H=>∃j,SqT K H a j/\j.length<=i⟩
noncomputable def Itr(lo:Int)(n:Nat):It:=⟨λi _=>i<n,λi H x j=>j=H/\x=.int (lo+i),λi _=>n<=i⟩
theorem _f6{K:Y00}(a j:Addr):Turn P w K tg (Itl K a) [j] j (λi h=>h.IsListIter j a i)where
 mem:=by simp
 obj:=λi h st b l=>by
  have e:b=j:=by simpa using l
  subst e
  obtain⟨o,e,c,d⟩:=st
  exact⟨o,e,λv z=>by rw[d]at z;cases z⟩
 keep:=λi h m st k=>st.at λo e=>k j (by simp) o e
 item:=by
  intro X q r L B i C s D H E I g st N
  subst q r L
  obtain⟨F,x,f,O⟩:=N
  obtain⟨R,T,p,G⟩:=I.list f
  obtain⟨u,J,M⟩:=T.get O
  obtain⟨U,W,Q,Y,Z,A⟩:=g j (by simp)
  refine wpAny_pyNext_list_item st p.isList (x:=u) (by simpa using J) λm y S=>?_
  have n:Inv X C D H {s with heap:=m}:=I.turned (g:=s.toks) (λb o l e=>(S.2 b l).trans e) U W Y Z A
  obtain⟨o,e,c,d⟩:=id y
  exact⟨u,rfl,_eL (s:={s with heap:=m}) e c d (by decide) ⟨x,H,n,M,⟨rfl,λys hy=>by rw[I.list_inj hy f];exact O⟩,y,λb l=>(g b l).1⟩⟩
 done:=by
  intro X q r L B i C s D H E I g st N
  subst q r L
  obtain⟨F,f,O⟩:=N
  obtain⟨R,T,p,G⟩:=I.list f
  obtain⟨U,W,Q,Y,Z,A⟩:=g j (by simp)
  have hl:=T.length
  exact wpAny_pyNext_list_end (I.ok.hd B) st p.isList (by simp;lia) λm eb=>⟨rfl,I.turned (g:=s.toks) (λb o l e=>eb b o l e) U W Y Z A⟩
 self:=λ_ _ _ _ _ st h=>wpAny_pyIter_listiter st h
theorem _en{K:Y00}(a j:Addr):Turn P w K tg (Itt K a) [j] j (λi h=>h.IsTupleIter j a i)where
 mem:=by simp
 obj:=λi h st b l=>by
  have e:b=j:=by simpa using l
  subst e
  obtain⟨o,e,c,d⟩:=st
  exact⟨o,e,λv z=>by rw[d]at z;cases z⟩
 keep:=λi h g st k=>st.at λo e=>k j (by simp) o e
 item:=by
  intro X r L N B i C s D H E I f st O
  subst r L N
  obtain⟨F,x,q,R⟩:=O
  obtain⟨y,T,p,G⟩:=I.tuple q
  obtain⟨u,J,M⟩:=T.get R
  obtain⟨U,W,Q,Y,Z,A⟩:=f j (by simp)
  refine wpAny_pyNext_tuple_item st (show s.heap.IsTuple a y.toArray from p) (x:=u) (by simpa using J) λg m S=>?_
  have n:Inv X C D H {s with heap:=g}:=I.turned (g:=s.toks) (λb o l e=>(S.2 b l).trans e) U W Y Z A
  obtain⟨o,e,c,d⟩:=id m
  exact⟨u,rfl,_eL (s:={s with heap:=g}) e c d (by decide) ⟨x,H,n,M,⟨rfl,λys hy=>by rw[I.tuple_inj hy q];exact R⟩,m,λb l=>(f b l).1⟩⟩
 done:=by
  intro X r L N B i C s D H E I f st O
  subst r L N
  obtain⟨F,q,R⟩:=O
  obtain⟨y,T,p,G⟩:=I.tuple q
  obtain⟨U,W,Q,Y,Z,A⟩:=f j (by simp)
  have hl:=T.length
  exact wpAny_pyNext_tuple_end (I.ok.hd B) st (show s.heap.IsTuple a y.toArray from p) (by simp;lia) λg eb=>⟨rfl,I.turned (g:=s.toks) (λb o l e=>eb b o l e) U W Y Z A⟩
 self:=λ_ _ _ _ _ st h=>wpAny_pyIter_tupleiter st h
theorem _eo{K:Y00}(j:Addr)(lo:Int)(n:Nat):Turn P w K tg (Itr lo n) [j] j (λi h=>IsRangeIter h j (lo+(i:Nat)*1) ((n:Int) - (i:Nat)) 1)where
 mem:=by simp
 obj:=λi h st b l=>by
  have e:b=j:=by simpa using l
  subst e
  exact⟨_,st,λv z=>by
   have Y:Data.fields _=Data.cell v:=z
   cases Y⟩
 keep:=λi h y st k=>k j (by simp) _ st
 item:=by
  intro X g d c f i R s T H E I m st q
  subst g d c
  obtain⟨r,p,Z,L,N,O⟩:=m j (by simp)
  have W:=Walks.range (prog:=X.prog) (w:=X.w) (I.ok.hd f) j lo 1 n
  refine W.item i s _ _ q st λv y U A u B=>?_
  obtain⟨t,rfl⟩:=A
  have C:Inv X R T H {s with heap:=y,toks:=U}:=I.turned (λb o l e=>B b o (by simpa using l) e) r p L N O
  refine⟨_,rfl,_eL (s:={s with heap:=y,toks:=U}) (n:="range_iterator") u rfl rfl (by decide) ⟨.int (lo+i),H,C,⟨t,?_⟩,⟨rfl,rfl⟩,u,fun b l=>(m b l).1⟩⟩
  rw[Int.mul_one]
 done:=by
  intro X g d c f i R s T H E I m st q
  subst g d c
  obtain⟨r,p,Z,L,N,O⟩:=m j (by simp)
  exact wpAny_pyNext_range_end (I.ok.hd f) st (by have:n<=i:=q;lia) λy D=>⟨rfl,I.turned (g:=s.toks) (λb o l e=>D b o l e) r p L N O⟩
 self:=λ_ _ _ _ _ st h=>wpAny_pyIter_rangeiter st h
end L2
namespace L2
open PySem PySem.Spec PyProof.Rows
section
variable{X:Cx}{tg:Expr}
theorem _h5{lo:Int}{t:Tok}(I:Inv X pz σ H s)(h1:-(2^62)<=lo)(h2:lo<2^62)(h3:-(2^62)<=hi)(h4:hi<2^62)
  (q:R (Itr lo (hi - lo).toNat) H):wpAny (model X.prog X.w) X.A (pyIter (.ref s.heap.objs.size)) (PIE X pz σ tg R) E {s with heap:=s.heap.push {cls:=.type "range",data:=.fields #[.int lo t,.int hi u,.int 1 v]},toks:=tk}:=by
 refine wpAny_pyIter_range (IsRange.new ..) (small_one h1 h2 h3 h4) ?_
 have j:Inv X pz σ H {s with heap:=s.heap.push {cls:=.type "range",data:=.fields #[.int lo t,.int hi u,.int 1 v]},toks:=tk}:=I.kept fun b o e=>Y03 _ e
 refine⟨(s.heap.push {cls:=.type "range",data:=.fields #[.int lo t,.int hi u,.int 1 v]}).objs.size,[(s.heap.push {cls:=.type "range",data:=.fields #[.int lo t,.int hi u,.int 1 v]}).objs.size],_,_,H,rfl,
  j.kept (t':=tk) λb o e=>Y03 _ e,_eo _ lo (hi - lo).toNat,?_,λb l=>?_,q⟩
 .have w:lo+((0:Nat):Int)*1=lo:=by simp
  have y:(((hi - lo).toNat:Nat):Int) - ((0:Nat):Int)=Builtin.Range.rangeSize lo hi 1:=by rw[rangeSize_one];split<;>lia
  show IsRangeIter _ _ (lo+((0:Nat):Int)*1) ((((hi - lo).toNat:Nat):Int) - ((0:Nat):Int)) 1
  rw[w,y]
  exact Y0d _ rfl
 .have e:b=(s.heap.push {cls:=.type "range",data:=.fields #[.int lo t,.int hi u,.int 1 v]}).objs.size:=by simpa using l
  subst e
  exact j.fpOk (Y09 _) (j.hok.fresh (Y09 _))
def ZnQ(l:TA):TI:=λu H R=>l u H λw y=>∃j:Int,w=[.int j]/\ -(2^62)<=j/\j<2^62/\R (Itr 0 j.toNat) y
theorem _fE{a:Expr}{w:TA}{p l:Pos}(y:Gl X "range")(z:X.mg "range"=none)(m:PA X [a] w)(g:starEach [a] X.env=[(false,eval a X.env)]:=by rfl):PI X tg (.Call (.Name "range" p) [a] [] l) (ZnQ w):=by
 intro d s c H R I h
 refine Call_ (_6q I y z boot_range (Y0Z (thn (m l d s c H _ I h) λP T ⟨U,W,f,L,u⟩=>?_) g rfl))
 obtain⟨j,e,u,N,q⟩:=u
 subst e
 cases L with
 |cons r O=>
  cases O
  obtain⟨t,rfl⟩:=r
  exact call_range_1 (_h5 f (by lia) (by lia) u N (by simpa using q))
def tFor(z:TI)(g:TG)(d:TS):TS:=λD j H=>z j H λJ c=>∃W:Nat->Nat->St->Hp->Prop,(∃m,W 0 m j c)/\∀i m j H,W i m j H->
 (J.stop i H/\D.nx j H)\/(J.go i H/\∃N:St->Hp->Prop,(∀l u,N l u->∃y,y<m/\W (i+1) y l u)/\∀x u,J.yld i H x u->g x j u λw f=>d {D with nx:=N,ct:=N,bk:=D.nx} w f)
noncomputable def Zam(j:List Addr)(h:Heap):List (Addr×Obj):=j.filterMap λb=>(h.get? b).map λo=>(b,o)
theorem _58(j:b∈fp)(e:h.get? b=some o):(b,o)∈Zam fp h:=List.mem_filterMap.mpr ⟨b,j,by rw[e];rfl⟩
theorem _fL(j:p∈Zam fp h):p.1∈fp/\h.get? p.1=some p.2:=by
 obtain⟨b,l,e⟩:=List.mem_filterMap.mp j
 cases q:h.get? b with
 |none=>rw[q]at e;cases e
 |some o=>
  rw[q]at e
  have u:(b,o)=p:=Y0z e
  subst u
  exact⟨l,q⟩
theorem Inv.pinned(I:Inv X pz σ H s)(u:∀b∈fp,FpOk X pz H b)(w:∀b∈fp,∃o,s.heap.get? b=some o/\∀v,o.data≠.cell v):Inv X (pz++Zam fp s.heap) σ H s:=
 I.pins_of λp y=>(Y0m.mp y).elim (λz=>I.pin p (Y0I _ z)) λz=>by
  obtain⟨j,e⟩:=_fL z
  obtain⟨m,g,c,_⟩:=u p.1 j
  obtain⟨o,l,d⟩:=w p.1 j
  rw[e]at l;cases l
  exact⟨e,m,g,c,d⟩
theorem Inv.unpinned(I:Inv X (pz++pl) σ H s):Inv X pz σ H s:=I.pins_of λp j=>I.pin p (Y0I _ (Y1S _ j))
theorem _lq{l:Expr}{O:List Stmt}{wi:TI}{g:TG}{tb:TS}{G:Pos}(Y:PassesOwn (model X.prog X.w) X.A X.env X.xe)(hc:X.calm=true)(hi:PI X tg l wi)(hg:PG X tg g)(w:PSs X O tb)
  (hs:∀x,foldedSetIterable l X.env x=pure x:=by intro _;rfl):PS X (.For tg l O [] G) (tFor wi g tb):=by
 intro R s σ H D I h
 refine wpAny_For (thn (hi R s σ H _ I h) λv s1 h1=>thn h1 λitv s2 h2=>?_) hs
 obtain⟨it,Z,tn,J,H2,e,I2,T,M,f2,W,⟨m0,w0⟩,A⟩:=h2
 subst e
 have y:∀{L:Hp},(∀b∈Z,L b=none)->∀b∈Z,FpOk X R L b:=λhn b w=>⟨hn b w,(f2 b w).2⟩
 refine codeAny_forLoop_any (λn s'=>∃i z L,Inv X R z L s'/\tn i s'.heap/\(∀b∈Z,L b=none)/\W i n z L) ?_ m0 ⟨0,σ,H2,I2,M,λb w=>(f2 b w).1,w0⟩
 rintro n s3 ⟨i,c,F,I3,st3,B,w3⟩
 rcases A i n c F w3 with⟨C,qn⟩|⟨go,N,hN,step⟩
 .refine wpAny_passesOwn Y (thn (T.done X rfl rfl rfl hc i R s3 c F X.xe I3 (y B) st3 C) λr s4 ⟨Q,I4⟩=>?_)
  subst Q
  exact wpAny_execs_nil ⟨c,F,I4,qn⟩
 .refine wpAny_passesOwn Y (thn (T.item X rfl rfl rfl hc i R s3 c F X.xe I3 (y B) st3 go) λr s4 ⟨u,Q,h4⟩=>?_)
  subst Q
  refine wpAny_passesOwn Y (thn h4 λ_ s5 ⟨x,H5,I5,r5,y5,U,S⟩=>?_)
  have a:=I5.pinned (y S) (T.obj _ _ U)
  refine wpAny_passesOwn Y (thn (hg _ s5 c H5 x u _ a r5 (step x H5 y5)) λ_ s6 ⟨σ6,H6,I6,q6⟩=>?_)
  refine wpAny_passesOwn Y (thn (w _ s6 σ6 H6 _ I6 q6) λf s7 P=>?_)
  have again:∀{j:St} {q:Hp},Inv X (R++Zam Z s5.heap) j q s7->N j q->∃m,m<n/\∃i z L,Inv X R z L s7/\tn i s7.heap/\(∀b∈Z,L b=none)/\W i m z L:=fun{j q} p E=>by
   obtain⟨m',hm,w7⟩:=hN j q E
   refine⟨m',hm,i+1,j,q,p.unpinned,T.keep _ _ _ U λb w o e=>(p.pin (b,o) (Y0I _ (Y0I _ (_58 w e)))).1,λb w=>?_,w7⟩
   obtain⟨o,e,d⟩:=T.obj _ _ U b w
   exact(p.pin (b,o) (Y0I _ (Y0I _ (_58 w e)))).2.1
  cases f with
  |next=>obtain⟨j,q,p,E⟩:=P;exact again p E
  |cont=>obtain⟨j,q,p,E⟩:=P;exact again p E
  |brk=>obtain⟨j,q,p,P⟩:=P;exact⟨j,q,p.unpinned,P⟩
  |ret v=>obtain⟨x7,j,q,p,r7,P⟩:=P;exact⟨x7,j,q,p.unpinned,r7,P⟩
end
end L2
namespace L2
open PySem PySem.Spec PyProof.Rows
abbrev R2:=V->V->Hp->VK->Prop
def OpR(X:Cx)(f:Value->Value->Sem Value)(r:R2):Prop:=
 ∀(j:List (Addr×Obj))(s:Shared)(l:St)(H:Hp)(x y:V)(v u:Value)(Q:VK),Inv X j l H s->RelV x v->RelV y u->r x y H Q->
  wpAny (model X.prog X.w) X.A (f v u) (EP X j l Q) X.xe s
def UnR(X:Cx)(f:Value->Sem Value)(r:V->Hp->VK->Prop):Prop:=
 ∀(j:List (Addr×Obj))(s:Shared)(l:St)(H:Hp)(x:V)(v:Value)(Q:VK),Inv X j l H s->RelV x v->r x H Q->
  wpAny (model X.prog X.w) X.A (f v) (EP X j l Q) X.xe s
def Z4c(X:Cx)(f:Value)(r:List V->Hp->VK->Prop):Prop:=
 ∀(j:List (Addr×Obj))(s:Shared)(l:St)(H:Hp)(u:List V)(w:List Value)(Q:VK),Inv X j l H s->Vals u w->r u H Q->
  wpAny (model X.prog X.w) X.A (call f w) (EP X j l Q) X.xe s
noncomputable def tOp(r:R2)(l u:TE):TE:=λj H Q=>l j H λx w=>u j w λy z=>r x y z Q
noncomputable def tUn(r:V->Hp->VK->Prop)(j:TE):TE:=λl H Q=>j l H λx u=>r x u Q
noncomputable def rI(C:Int->Int->Prop)(g:Int->Int->V):R2:=λx y H Q=>∃i j,x=.int i/\y=.int j/\C i j/\Q (g i j) H
noncomputable def rI0(g:Int->Int->V):R2:=λx y H Q=>∃i j,x=.int i/\y=.int j/\Q (g i j) H
noncomputable def rU(g:Int->V):V->Hp->VK->Prop:=λx H Q=>∃i,x=.int i/\Q (g i) H
section
variable{X:Cx}{a b c:Expr}{ta tb tc:TE}{pos:Pos}
theorem binT(q:PE X a ta)(r:PE X b tb){m:List (Addr×Obj)}{s:Shared}{j:St}{H:Hp}{R:V->V->Hp->Prop}(I:Inv X m j H s)
  (h:ta j H λx d=>tb j d λy l=>R x y l){Q:Value->Shared->Prop} {f:Value->Value->Sem Value}
  (p:∀v u g x y l,Inv X m j l g->RelV x v->RelV y u->R x y l->wpAny (model X.prog X.w) X.A (f v u) Q X.xe g):
  wpAny (model X.prog X.w) X.A (eval a X.env) (λv w=>wpAny (model X.prog X.w) X.A (eval b X.env) (λu z=>wpAny (model X.prog X.w) X.A (f v u) Q X.xe z) X.xe w) X.xe s:=by
 refine thn (q m s j H _ I h) λv e ⟨x,d,L,N,O⟩=>?_
 refine thn (r m e j d _ L O) λu g ⟨y,l,P,T,U⟩=>?_
 exact p v u g x y l P N T U
theorem _nD{op:Operator}{r:R2}(j:OpR X (binaryOp op) r)(l:PE X a ta)(w:PE X b tb):PE X (.BinOp a op b pos) (tOp r ta tb):=by
 intro z s m H Q I h
 exact wpAny_BinOp (binT l w I h λv u g x y d f p e q=>j z g m d x y v u Q f p e q)
theorem _nB{op:UnaryOp}{r:V->Hp->VK->Prop}(u:UnR X (unaryOp op) r)(w:PE X a ta):PE X (.UnaryOp op a pos) (tUn r ta):=by
 intro j s l H Q I h
 exact UnaryOp_ (thn (w j s l H _ I h) λv y ⟨x,z,m,g,d⟩=>u j y l z x v Q m g d)
theorem opI{f:Value->Value->Sem Value}{C:Int->Int->Prop}{g:Int->Int->Int}
  (rule:∀(i j:Int)(t u:Tok)(s:Shared)(Q:Value->Shared->Prop)(E:Value->Shared->Prop),C i j->Q (.int (g i j) s.toks) {s with toks:=s.toks+1}->wpAny (model X.prog X.w) X.A (f (.int i t) (.int j u)) Q E s):
  OpR X f (rI C λi j=>.int (g i j)):=by
 intro d s r H x y v u Q I l w h
 obtain⟨i,j,rfl,rfl,z,q⟩:=h
 obtain⟨t,rfl⟩:=l
 obtain⟨m,rfl⟩:=w
 exact rule i j t m s _ _ z ⟨.int (g i j),H,I.tok _,⟨_,rfl⟩,q⟩
theorem opI0{f:Value->Value->Sem Value}{g:Int->Int->Int}
  (rule:∀(i j:Int)(t u:Tok)(s:Shared)(Q:Value->Shared->Prop)(E:Value->Shared->Prop),Q (.int (g i j) s.toks) {s with toks:=s.toks+1}->wpAny (model X.prog X.w) X.A (f (.int i t) (.int j u)) Q E s):
  OpR X f (rI0 λi j=>.int (g i j)):=by
 intro m s d H x y v u Q I l w h
 obtain⟨i,j,rfl,rfl,q⟩:=h
 obtain⟨t,rfl⟩:=l
 obtain⟨z,rfl⟩:=w
 exact rule i j t z s _ _ ⟨.int (g i j),H,I.tok _,⟨_,rfl⟩,q⟩
theorem opB0{f:Value->Value->Sem Value}{g:Int->Int->Bool}
  (rule:∀(i j:Int)(t u:Tok)(s:Shared)(Q:Value->Shared->Prop)(E:Value->Shared->Prop),Q (.bool (g i j)) s->wpAny (model X.prog X.w) X.A (f (.int i t) (.int j u)) Q E s):
  OpR X f (rI0 λi j=>.bl (g i j)):=by
 intro m s d H x y v u Q I l w h
 obtain⟨i,j,rfl,rfl,q⟩:=h
 obtain⟨t,rfl⟩:=l
 obtain⟨z,rfl⟩:=w
 exact rule i j t z s _ _ ⟨.bl (g i j),H,I,rfl,q⟩
noncomputable def CPow(i j:Int):Prop:=0<=j/\j<=1000000/\i.natAbs<2^64
noncomputable def CMul(i j:Int):Prop:=(-(2^64)<i/\i<2^64)\/(-(2^64)<j/\j<2^64)
theorem CMul.ok(h:CMul i j):IntMulOk i j:=by
 rcases h with⟨l,u⟩|⟨l,u⟩
 .exact .of_left (intBits_le_64 l u)
 .exact .of_right (intBits_le_64 l u)
theorem _lJ:OpR X (binaryOp .Add) (rI0 λi j=>.int (i+j)):=opI0 λ_ _ _ _ _ _ _ q=>add_int q
theorem _lB:OpR X (binaryOp .Sub) (rI0 λi j=>.int (i - j)):=opI0 λ_ _ _ _ _ _ _ q=>sub_int q
theorem _lE:OpR X (binaryOp .Mult) (rI CMul λi j=>.int (i*j)):=opI λ_ _ _ _ _ _ _ l q=>mul_int q l.ok
theorem _lF:OpR X (binaryOp .Mod) (rI (λ_ j=>0<j) λi j=>.int (i%j)):=opI λi j _ _ _ _ _ l q=>by
 have u:(0:Int)<j:=l
 exact mod_int' (by lia) (by rw[Int.fmod_eq_emod_of_nonneg i (by lia)];exact q)
theorem _lD:OpR X (binaryOp .Pow) (rI CPow λi j=>.int (i^j.toNat)):=opI λ_ _ _ _ _ _ _ l q=>pow_int_small l.1 l.2.1 l.2.2 q
theorem _lC:OpR X (binaryOp .LShift) (rI CPow λi j=>.int (i*2^j.toNat)):=opI λ_ _ _ _ _ _ _ l q=>lshift_int_small l.1 l.2.1 l.2.2 q
theorem unI{f:Value->Sem Value}{g:Int->Int}
  (rule:∀(i:Int)(t:Tok)(s:Shared)(Q:Value->Shared->Prop)(E:Value->Shared->Prop),Q (.int (g i) s.toks) {s with toks:=s.toks+1}->wpAny (model X.prog X.w) X.A (f (.int i t)) Q E s):
  UnR X f (rU λi=>.int (g i)):=by
 intro l s u H x v Q I j h
 obtain⟨i,rfl,q⟩:=h
 obtain⟨t,rfl⟩:=j
 exact rule i t s _ _ ⟨.int (g i),H,I.tok _,⟨_,rfl⟩,q⟩
theorem _kF:UnR X (unaryOp .USub) (rU λi=>.int (-i)):=unI λ_ _ _ _ _ q=>neg_int q
end
noncomputable def scal:V->V->Bool
 |.non,.non=>true|.non,.int _=>true|.int _,.non=>true|.non,.bl _=>true|.bl _,.non=>true|.non,.str _=>true|.str _,.non=>true
 |.int _,.int _=>true|.bl _,.bl _=>true|.str _,.str _=>true|.byt _,.byt _=>true
 |.int _,.str _=>true|.str _,.int _=>true|.bl _,.str _=>true|.str _,.bl _=>true
 |_,_=>false
def rEq:R2:=λx y H Q=>scal x y=true/\Q (.bl (decide (x=y))) H
def rNe:R2:=λx y H Q=>scal x y=true/\Q (.bl (!decide (x=y))) H
theorem _gx:decide (V.int i=V.int j)=(i==j):=by
 rw[Y2q]
 simp
theorem _iD:decide (V.bl i=V.bl j)=(i==j):=by
 rw[Y2q]
 simp
theorem _gw:decide (V.str i=V.str j)=(i==j):=by
 rw[Y2q]
 simp
theorem _gy:decide (V.byt i=V.byt j)=(i.toList==j.toList):=by
 rw[Y2q]
 cases i
 cases j
 simp
section
variable{X:Cx}{a b c:Expr}{ta tb tc:TE}{pos:Pos}
theorem _0f{k:Bool}(I:Inv X pz σ H s)(q:Q (.bl k) H)(e:k=k'):EP X pz σ Q (.bool k') s:=by
 subst e
 exact⟨.bl k,H,I,rfl,q⟩
theorem _nM:OpR X (compareOp .Eq) rEq:=by
 intro g s d H x y v u Q I m l h
 obtain⟨z,q⟩:=h
 cases x with
 |non=>
  cases m
  cases y with
  |non=>cases l;exact PySem.EqNone.eq_none_none (_0f I q (by simp))
  |bl j=>cases l;exact PySem.EqNone.eq_none_bool (_0f I q (by simp))
  |int j=>obtain⟨w,rfl⟩:=l;exact PySem.EqNone.eq_none_int (_0f I q (by simp))
  |str j=>obtain⟨w,rfl⟩:=l;exact PySem.EqNone.eq_none_str (_0f I q (by simp))
  |_=>exact absurd (show false=true from z) Y05
 |bl i=>
  cases m
  cases y with
  |non=>cases l;exact PySem.EqNone.eq_bool_none (_0f I q (by simp))
  |bl j=>cases l;exact eq_bool (_0f I q _iD)
  |str j=>obtain⟨w,rfl⟩:=l;exact PySem.EqMixed.eq_bool_str (_0f I q (by simp))
  |_=>exact absurd (show false=true from z) Y05
 |int i=>
  obtain⟨t,rfl⟩:=m
  cases y with
  |non=>cases l;exact PySem.EqNone.eq_int_none (_0f I q (by simp))
  |int j=>obtain⟨w,rfl⟩:=l;exact eq_int (_0f I q _gx)
  |str j=>obtain⟨w,rfl⟩:=l;exact PySem.EqMixed.eq_int_str (_0f I q (by simp))
  |_=>exact absurd (show false=true from z) Y05
 |str i=>
  obtain⟨t,rfl⟩:=m
  cases y with
  |non=>cases l;exact PySem.EqNone.eq_str_none (_0f I q (by simp))
  |bl j=>cases l;exact PySem.EqMixed.eq_str_bool (_0f I q (by simp))
  |int j=>obtain⟨w,rfl⟩:=l;exact PySem.EqMixed.eq_str_int (_0f I q (by simp))
  |str j=>obtain⟨w,rfl⟩:=l;exact eq_str (_0f I q _gw)
  |_=>exact absurd (show false=true from z) Y05
 |byt i=>
  obtain⟨t,rfl⟩:=m
  cases y with
  |byt j=>obtain⟨w,rfl⟩:=l;exact PySem.W.eq_bytes (_0f I q _gy)
  |_=>exact absurd (show false=true from z) Y05
 |_=>cases y<;>exact absurd (show false=true from z) Y05
theorem _nH:OpR X (compareOp .NotEq) rNe:=by
 intro g s d H x y v u Q I m l h
 obtain⟨z,q⟩:=h
 cases x with
 |non=>
  cases m
  cases y with
  |non=>cases l;exact PySem.EqNone.ne_none_none (_0f I q (by simp))
  |bl j=>cases l;exact PySem.EqNone.ne_none_bool (_0f I q (by simp))
  |int j=>obtain⟨w,rfl⟩:=l;exact PySem.EqNone.ne_none_int (_0f I q (by simp))
  |str j=>obtain⟨w,rfl⟩:=l;exact PySem.EqNone.ne_none_str (_0f I q (by simp))
  |_=>exact absurd (show false=true from z) Y05
 |bl i=>
  cases m
  cases y with
  |non=>cases l;exact PySem.EqNone.ne_bool_none (_0f I q (by simp))
  |bl j=>cases l;exact ne_bool (_0f I q (congrArg not _iD))
  |str j=>obtain⟨w,rfl⟩:=l;exact PySem.EqMixed.ne_bool_str (_0f I q (by simp))
  |_=>exact absurd (show false=true from z) Y05
 |int i=>
  obtain⟨t,rfl⟩:=m
  cases y with
  |non=>cases l;exact PySem.EqNone.ne_int_none (_0f I q (by simp))
  |int j=>obtain⟨w,rfl⟩:=l;exact ne_int (_0f I q (congrArg not _gx))
  |str j=>obtain⟨w,rfl⟩:=l;exact PySem.EqMixed.ne_int_str (_0f I q (by simp))
  |_=>exact absurd (show false=true from z) Y05
 |str i=>
  obtain⟨t,rfl⟩:=m
  cases y with
  |non=>cases l;exact PySem.EqNone.ne_str_none (_0f I q (by simp))
  |bl j=>cases l;exact PySem.EqMixed.ne_str_bool (_0f I q (by simp))
  |int j=>obtain⟨w,rfl⟩:=l;exact PySem.EqMixed.ne_str_int (_0f I q (by simp))
  |str j=>obtain⟨w,rfl⟩:=l;exact ne_str (_0f I q (congrArg not _gw))
  |_=>exact absurd (show false=true from z) Y05
 |byt i=>
  obtain⟨t,rfl⟩:=m
  cases y with
  |byt j=>obtain⟨w,rfl⟩:=l;exact PySem.W.ne_bytes (_0f I q (congrArg not _gy))
  |_=>exact absurd (show false=true from z) Y05
 |_=>cases y<;>exact absurd (show false=true from z) Y05
theorem _nI:OpR X (compareOp .Lt) (rI0 λi j=>.bl (decide (i<j))):=opB0 λ_ _ _ _ _ _ _ q=>lt_int q
theorem _nJ:OpR X (compareOp .LtE) (rI0 λi j=>.bl (decide (i<=j))):=opB0 λ_ _ _ _ _ _ _ q=>le_int q
theorem _nK:OpR X (compareOp .Gt) (rI0 λi j=>.bl (decide (j<i))):=opB0 λ_ _ _ _ _ _ _ q=>gt_int q
theorem _nL:OpR X (compareOp .GtE) (rI0 λi j=>.bl (decide (j<=i))):=opB0 λ_ _ _ _ _ _ _ q=>ge_int q
theorem _lG:OpR X (compareOp .Is) (λx y H Q=>y=.non/\Q (.bl (decide (x=.non))) H):=by
 intro w s z H x y v u Q I j l h
 obtain⟨rfl,q⟩:=h
 cases l
 refine is_none_gen (_0f I q ?_)
 cases x<;>first
  |(cases j;rfl)
  |(obtain⟨t,rfl⟩:=j;rfl)
theorem _jm:OpR X (compareOp .IsNot) (λx y H Q=>y=.non/\Q (.bl (!decide (x=.non))) H):=by
 intro w s z H x y v u Q I j l h
 obtain⟨rfl,q⟩:=h
 cases l
 refine isnot_none_gen (_0f I q ?_)
 cases x<;>first
  |(cases j;rfl)
  |(obtain⟨t,rfl⟩:=j;rfl)
theorem _fG{op:CmpOp}{r:R2}(j:OpR X (compareOp op) r)(l:PE X a ta)(w:PE X b tb)(z:behindInMarks op b=false):PE X (.Compare a [op] [b] pos) (tOp r ta tb):=by
 intro m s g H Q I h
 exact wpAny_Compare1 (binT l w I h λv u d x y f p e L q=>j m d g f x y v u Q p e L q) z
noncomputable def ZkH(t:TE):TT:=λj H Q=>t j H λx l=>∃k,x=.bl k/\Q k l
theorem _fB{op:CmpOp}{r:R2}(w:OpR X (compareOp op) r)(m:PE X a ta)(g:PE X b tb)(d:behindInMarks op b=false):PT X (.Compare a [op] [b] pos) (ZkH (tOp r ta tb)):=by
 intro j s l H Q I h
 refine wpAny_isTrue_Compare1 (thn (m j s l H _ I h) λv f ⟨x,q,p,L,N⟩=>thn (g j f l q _ p N) λu O ⟨y,P,R,T,U⟩=>
  thn (w j O l P x y v u _ R L T U) λc B ⟨z,W,Y,Z,k,e,A⟩=>?_) d
 subst e
 cases Z
 exact wpAny_truthy_bool ⟨W,Y,A⟩
noncomputable def Zfc(r u:R2)(ta tb tc:TE):TE:=λj H Q=>ta j H λx w=>tb j w λy m=>r x y m λz l=>∃k,z=.bl k/\
 (if k=true then tc j l λg d=>u y g d Q else Q (.bl false) l)
theorem _hg{op j:CmpOp}{r g:R2}(N:OpR X (compareOp op) r)(m:OpR X (compareOp j) g)(O:PE X a ta)(P:PE X b tb)(R:PE X c tc)
  (T:lastMarks [op,j] [b,c]=false:=by with_unfolding_all rfl):PE X (.Compare a [op,j] [b,c] pos) (Zfc r g ta tb tc):=by
 intro l s w H Q I h
 refine Compare_chain (thn (O l s w H _ I h) λv U ⟨x,W,Y,Z,A⟩=>chain_link (thn (P l U w W _ Y A) λu B ⟨y,C,D,f,E⟩=>
  thn (N l B w C x y v u _ D Z f E) λd F ⟨z,q,p,G,k,e,L⟩=>?_)) T
 subst e
 cases G
 refine wpAny_truthy_bool ?_
 cases k with
 |false=>exact ite_ff ⟨.bl false,q,p,rfl,L⟩
 |true=>exact ite_tt (chain_last (thn (R l F w q _ p L) λJ M ⟨S,o,i,n,q4⟩=>m l M w o y S u J Q i f n q4))
theorem _h7{op j:CmpOp}{r g:R2}(N:OpR X (compareOp op) r)(m:OpR X (compareOp j) g)(O:PE X a ta)(P:PE X b tb)(R:PE X c tc)
  (T:lastMarks [op,j] [b,c]=false:=by with_unfolding_all rfl):PT X (.Compare a [op,j] [b,c] pos) (ZkH (Zfc r g ta tb tc)):=by
 intro l s w H Q I h
 refine isTrue_chain (thn (O l s w H _ I h) λv U ⟨x,W,Y,Z,A⟩=>test_link (thn (P l U w W _ Y A) λu B ⟨y,C,D,f,E⟩=>
  thn (N l B w C x y v u _ D Z f E) λd F ⟨z,q,p,G,k,e,L⟩=>?_)) T
 subst e
 cases G
 refine wpAny_truthy_bool ?_
 cases k with
 |false=>
  obtain⟨k',J,M⟩:=L
  cases J
  exact ite_ff ⟨q,p,M⟩
 |true=>
  refine ite_tt (test_last (thn (R l F w q _ p L) λS o ⟨i,n,I4,r4,q4⟩=>thn (m l o w n y i u S _ I4 f r4 q4) λd' s5 ⟨z2,H5,I5,r5,k2,e2,q5⟩=>?_))
  subst e2
  cases r5
  exact wpAny_truthy_bool ⟨H5,I5,q5⟩
theorem _cd:(sizeLine:Nat)<2^63:=by rw[sizeLine_eq];decide
theorem _ew:OpR X (binaryOp .Add) (λx y H Q=>∃i j,x=.str i/\y=.str j/\i.length+j.length<=sizeLine/\Q (.str (i++j)) H):=by
 intro g s d H x y v u Q I l w h
 obtain⟨i,j,rfl,rfl,z,q⟩:=h
 obtain⟨t,rfl⟩:=l
 obtain⟨m,rfl⟩:=w
 exact add_str (λm f=>⟨.str (i++j),H,I.tok _,⟨_,rfl⟩,q⟩) z
theorem _5U(r:Vals [x] us):∃u,us=[u]/\RelV x u:=by
 cases r with
 |cons j l=>cases l;exact⟨_,rfl,j⟩
theorem _f3(r:Vals [x,y] us):∃u j,us=[u,j]/\RelV x u/\RelV y j:=by
 cases r with
 |cons l w=>
  cases w with
  |cons z m=>cases m;exact⟨_,_,rfl,l,z⟩
theorem _gI(w:X.calm=true):Z4c X (.builtin "max") (fun l H Q=>∃i j,l=[.int i,.int j]/\Q (.int (if j>i then j else i)) H):=by
 intro y s z H l m Q I r h
 obtain⟨i,j,rfl,q⟩:=h
 obtain⟨u,g,rfl,⟨t,rfl⟩,⟨d,rfl⟩⟩:=_f3 r
 refine max_two_ints (I.ok.hd w) λf p k=>⟨_,H,I.kept k,?_,q⟩
 by_cases hj:j>i
 .rw[if_pos hj,if_pos hj];exact⟨_,rfl⟩
 .rw[if_neg hj,if_neg hj];exact⟨_,rfl⟩
theorem _gH(w:X.calm=true):Z4c X (.builtin "min") (fun l H Q=>∃i j,l=[.int i,.int j]/\Q (.int (if j<i then j else i)) H):=by
 intro y s z H l m Q I r h
 obtain⟨i,j,rfl,q⟩:=h
 obtain⟨u,g,rfl,⟨t,rfl⟩,⟨d,rfl⟩⟩:=_f3 r
 refine min_two_ints (I.ok.hd w) λf p k=>⟨_,H,I.kept k,?_,q⟩
 by_cases hj:j<i
 .rw[if_pos hj,if_pos hj];exact⟨_,rfl⟩
 .rw[if_neg hj,if_neg hj];exact⟨_,rfl⟩
theorem _cI:Z4c X (.type "str") (fun j H Q=>∃i,j=[.int i]/\i.natAbs.log2<1920/\Q (.str (toString i)) H):=by
 intro w s y H j z Q I r h
 obtain⟨i,rfl,l,q⟩:=h
 obtain⟨u,rfl,t,rfl⟩:=_5U r
 exact PySem.P.str_of_int l ⟨.str _,H,I.tok _,⟨_,rfl⟩,q⟩
end
end L2
namespace L2
open PySem PySem.Spec PyProof.Rows
structure ObjM (h:Heap)(x dx C:Addr)(mA:Str->Option Value):Prop where
 obj:h.get? x=some (Y3j C dx)
 ns:h.Ns1 dx mA
 ne:dx≠x
set_option tactic.hygienic true in
theorem _fV{h:Heap}{l:Addr}{u:Str->Option Value}(n:h.Ns1 l u):∃w,h.get? l=some w/\∀name,Y3y name w=some (u name):=by
 obtain⟨o,m,p,g,hd,d,_,c⟩:=n
 refine⟨o,g,λname=>?_⟩
 have e:=c name
 unfold nsFind findBy at e
 rw[<-Array.find?_toList]at e
 unfold Y3y
 rw[hd]
 dsimp only
 split
 .rename_i y q
  rw[q]at e
  exact congrArg some e
 .rename_i q
  rw[q]at e
  have a:m.toList.any (·.refKey)=false:=by
   rw[List.any_eq_false]
   intro y f
   obtain⟨z,t,j⟩:=d y (Array.mem_toList_iff.mp f)
   simp[DictEntry.refKey,j]
  have r:¬m.toList.any (·.refKey)=true:=by rw[a];exact Y05
  rw[if_neg r]
  exact congrArg some e
theorem ObjM.look(I:ObjM h x dx C mA):∃j,PySem.W.InstAt h x (Y3j C dx) C (some j)/\∀name,Y3y name j=some (mA name):=
 let⟨j,ho,hl⟩:=_fV I.ns
 ⟨j,⟨I.obj,rfl,rfl,ho⟩,hl⟩
section
variable{prog:Program}{w:World}{A:Around}{E:Value->Shared->Prop}{s:Shared}{K:Y00}{x dx C f:Addr}{mA:Str->Option Value}{name:Str}{v:Value}
end
theorem RelO.some_of(r:RelO (some v) o):∃u,o=some u/\RelV v u:=by
 cases o with
 |none=>exact(show False from r).elim
 |some u=>exact⟨u,rfl,r⟩
section
variable{P:Program}{w:World}{H H':Hp}{h h':Heap}{a C dx:Addr}{fs fs':List (Str×V)}
theorem _gj(l:HOk P w H h)(e:H a=some (.ins C dx fs)):∃j,ObjM h a dx C j/\(∀f,RelO (fs.lookup f) (j f))/\PySem.Within j (fs.map (·.1))/\fs.length<=1000/\H dx=some (.own a):=by
 obtain⟨d,z,u,y,j,n,r,q⟩:=(show ObjOk P w H h a (.ins C dx fs)from l a _ e)
 exact⟨j,⟨y,n,u⟩,r,q,z,d⟩
end
structure Cls (K:Y00)(C:Addr):Prop where
 pg:PySem.W.plainGet K C Y3M=true
 hd:PySem.W.hasDictIn K C=true
 po:PySem.W.plainOver K C=true
 sa:Y2e K (.ref C) "__setattr__"=some (some (.builtin "object.__setattr__"))
theorem Cls.get{K:Y00}(c:Cls K C)(f:Str):PySem.W.plainGet K C f=true:=c.pg
noncomputable def ZgU(K:Y00)(C:Addr)(f:Str):Prop:=Y2e K (.ref C) f=some none
structure Meth (K:Y00)(C:Addr)(m:Str)(f:Addr):Prop where
 at_:Y2e K (.ref C) m=some (some (.ref f))
 fn:PySem.W.isFn K (.ref f)=true
 kp:Y1j K (.ref f)=true
section
variable{X:Cx}{pz:List (Addr×Obj)}{σ:St}{H:Hp}{s:Shared}{a C dx:Addr}{fs:List (Str×V)}{f:Str}{v:V}{A:Around}{E:Value->Shared->Prop}
end
section
variable{X:Cx}{o e value:Expr}{f:Str}{pos pos' tpos:Pos}{ta tv:TE}
end
section
variable{X:Cx}{pz:List (Addr×Obj)}{σ:St}{H:Hp}{s:Shared}{A:Around}{E:Value->Shared->Prop}{Q:Value->Shared->Prop}{c:Value}{b:Bool}
inductive TyOf (K:Y00)(H:Hp):V->Value->Prop where
 |non:TyOf K H .non (.type "NoneType")
 |bl (x:Bool):TyOf K H (.bl x) (.type "bool")
 |int (i:Int):TyOf K H (.int i) (.type "int")
 |str (x:Str):TyOf K H (.str x) (.type "str")
 |flt (x:UInt64):TyOf K H (.flt x) (.type "float")
 |lst {a:Addr} {xs:List V} (e:H a=some (.lst xs)):TyOf K H (.ref a) (.type "list")
 |frz {a:Addr} {o:Obj} {xs:List V} (e:H a=some (.frz o (.lst xs))):TyOf K H (.ref a) (.type "list")
 |tup {a:Addr} {xs:List V} (e:H a=some (.tup xs)):TyOf K H (.ref a) (.type "tuple")
 |dK {a:Addr} {kvs:List (Key×V)} (e:H a=some (.dK kvs)):TyOf K H (.ref a) (.type "dict")
 |dT {a:Addr} {kvs:List (List Key×V)} (e:H a=some (.dT kvs)):TyOf K H (.ref a) (.type "dict")
 |ins {a C dx:Addr} {fs:List (Str×V)} (e:H a=some (.ins C dx fs))(cl:Cls K C)(ha:Y2e K (.ref C) "__class__"=some (some (.builtin "object.__class__")))
   (hn:PySem.W.specialIn K (.builtin "object.__class__") "__get__"=some (some (.builtin "getset_descriptor.__get__")))(htk:PySem.W.takesIn K (.builtin "object.__class__")=some true)
   (hm:PySem.W.mroIn K C (.type "object")=some true):TyOf K H (.ref a) (.ref C)
theorem _g3{t:Value}(I:Inv X pz σ H s)(j:RelV x u)(ty:TyOf X.K H x t)(e:Y1B X.K t c=some b)(h:∀L,Q (.bool b) {s with toks:=L}):
  wpAny (model X.prog X.w) A (call (.builtin "isinstance") [u,c]) Q E s:=by
 cases ty with
 |non=>cases(show u=Y2n from j);exact Y14 PySem.W.kitx_none I.kIn Y1q e (λz=>nomatch z) h
 |bl y=>cases(show u=Y2o y from j);exact Y14 PySem.W.kitx_bool I.kIn Y1q e (λz=>nomatch z) h
 |int i=>obtain⟨t,q⟩:=(show∃t,u=Y3J i t from j);cases q;exact Y14 PySem.W.kitx_int I.kIn Y1q e (λz=>nomatch z) h
 |str y=>obtain⟨t,q⟩:=(show∃t,u=Y1z y t from j);cases q;exact Y14 PySem.W.kitx_str I.kIn Y1q e (λz=>nomatch z) h
 |flt y=>obtain⟨t,q⟩:=(show∃t,u=Value.float y t from j);cases q;exact Y14 PySem.W.kitx_float I.kIn Y1q e (λz=>nomatch z) h
 | @lst a g l=>
  cases(show u=Y0O a from j)
  obtain⟨_,_,n,_,w⟩:=(show ObjOk X.prog X.w H s.heap a (.lst g)from I.hok a _ l)
  exact Y14 Y2a I.kIn ⟨_,w,rfl⟩ e (λz=>nomatch z) h
 | @frz a N g l=>
  cases(show u=Y0O a from j)
  obtain⟨_,_,_,n,_,w⟩:=(show ObjOk X.prog X.w H s.heap a (.frz N (.lst g))from I.hok a _ l)
  exact Y14 Y2a I.kIn ⟨_,w,rfl⟩ e (λz=>nomatch z) h
 | @tup a g l=>
  cases(show u=Y0O a from j)
  obtain⟨_,_,_,p⟩:=(show ObjOk X.prog X.w H s.heap a (.tup g)from I.hok a _ l)
  obtain⟨o,w,d,_⟩:=p.1
  exact Y14 PySem.W.kitx_tuple I.kIn ⟨o,w,d⟩ e (λz=>nomatch z) h
 | @dK a m l=>
  cases(show u=Y0O a from j)
  obtain⟨_,_,Y,_,p⟩:=(show ObjOk X.prog X.w H s.heap a (.dK m)from I.hok a _ l)
  obtain⟨o,P,R,w,d,_⟩:=p
  exact Y14 Y2b I.kIn ⟨o,w,d.1⟩ e (λz=>nomatch z) h
 | @dT a m l=>
  cases(show u=Y0O a from j)
  obtain⟨_,_,g,_,o,P,R,w,d,_⟩:=(show ObjOk X.prog X.w H s.heap a (.dT m)from I.hok a _ l)
  exact Y14 Y2b I.kIn ⟨o,w,d.1⟩ e (λz=>nomatch z) h
 | @ins a C Z fs l r T U f W=>
  cases(show u=Y0O a from j)
  obtain⟨B,O,_⟩:=_gj I.hok l
  obtain⟨D,J,_⟩:=O.look
  exact Y14 (PySem.W.kitx_own (r.get _) r.hd T U f W) I.kIn J e (λz=>nomatch z) h
end
end L2
namespace L2
open PySem PySem.Spec PyProof.Rows
structure Room (k:Nat)(A:Around):Prop where
 hd:A.handled=none
 dp:A.depth+3*k+5<recursionLimit
 un:A.units+16*k+200<cLine
theorem Room.mono{k:Nat}(r:Room k A)(h:j<=k):Room j A:=⟨r.hd,by have:=r.dp;lia,by have:=r.un;lia⟩
theorem Room.deeper{k:Nat}(r:Room (k+1) A)(j:Env):Room k (A.deeper j):=
 ⟨r.hd,by have:=r.dp;show A.depth+1+3*k+5<_;lia,by have:=r.un;show A.units+3+16*k+200<_;lia⟩
theorem Room.depth{k:Nat}(r:Room k A):A.depth<recursionLimit:=by have:=r.dp;lia
noncomputable def tNil:TA:=λ_ H Q=>Q [] H
noncomputable def Zfa(l:TE)(u:TA):TA:=λj H Q=>l j H λx w=>u j w λy z=>Q (x::y) z
section
variable{X:Cx}{e:Expr}{es:List Expr}{te:TE}{t:TA}{pos:Pos}
theorem pa_nil:PA X [] tNil:=λ_ _ _ _ H Q I h=>Y1P ⟨[],H,I,.nil,h⟩
theorem _8T(w:PE X e te)(y:PA X es t)(z:starEach (e::es) X.env=(false,eval e X.env)::starEach es X.env:=by rfl):PA X (e::es) (Zfa te t):=by
 intro pos j s l H Q I h
 rw[z]
 show wpAny _ _ (spliced ((false,eval e X.env)::backTo pos (starEach es X.env))) _ _ s
 refine Y1H (thn (w j s l H _ I h) λu m ⟨x,g,d,c,f⟩=>?_)
 exact thn (y pos j m l g _ d f) λO P ⟨q,r,p,L,N⟩=>⟨x::q,r,p,.cons c L,N⟩
def tTup(t:TA):TE:=λu H Q=>t u H λj l=>j.length<=sizeLine/\∀p,l p=none->Q (.ref p) (upd l p (.tup j))
def tLst(t:TA):TE:=λu H Q=>t u H λj l=>j.length<=sizeLine/\∀p,l p=none->Q (.ref p) (upd l p (.lst j))
theorem _lv{y}(h:PA X es t):PE X (.Tuple es y pos) (tTup t):=by
 intro m s g H Q I d
 refine wpAny_Tuple_spliced (thn (h pos m s g H _ I d) λc j ⟨f,l,w,r,z,q⟩=>⟨by rw[<-r.length];exact z,?_⟩)
 have p:l j.heap.objs.size=none:=w.hok.fresh (Y09 _)
 refine⟨.ref j.heap.objs.size,upd l j.heap.objs.size (.tup f),w.laid (t':=j.toks) (λb u e=>Y03 _ e) (Y09 _) ?_,rfl,q _ p⟩
 exact⟨z,c,r,⟨_,Y0d _ rfl,rfl,_,rfl⟩,_,Y0d _ rfl,rfl⟩
theorem _lx(h:PA X es t):PE X (.List es pos) (tLst t):=by
 intro y s m H Q I g
 refine wpAny_List_spliced (thn (h pos y s m H _ I g) λd j ⟨c,l,w,r,z,q⟩=>⟨by rw[<-r.length];exact z,?_⟩)
 have f:l j.heap.objs.size=none:=w.hok.fresh (Y09 _)
 refine⟨.ref j.heap.objs.size,upd l j.heap.objs.size (.lst c),w.laid (t':=j.toks) (λb u e=>Y03 _ e) (Y09 _) ?_,rfl,q _ f⟩
 exact⟨z,d,0,r,Y0d _ rfl⟩
end
abbrev Sp:=List V->Hp->VK->XK->Prop
abbrev CXT:=List Env->Hp->Shared->XK->Value->Shared->Prop
structure Env0 (P:Program)(w:World)(K:Y00)(mg:Str->Option Value)(base:Heap)(A:Around)(outer:List Env)(s:Shared)(H:Hp):Prop where
 frames:A.frames=some outer
 mod:Mod K mg base
 bs:∀b o,base.get? b=some o->s.heap.get? b=some o/\H b=none
 bsz:base.objs.size<=s.heap.objs.size
 funs:s.heap.FunFrames base outer
 frf:∀b∈frs outer,H b=none
 hok:HOk P w H s.heap
 bare:AllBare s.gens
def CE(j:List Env)(P:Program)(w:World)(H:Hp)(s:Shared)(Q:VK)(u:Value)(l:Shared):Prop:=
 ∃v y,l.os=s.os/\AllBare l.gens/\Un (frs j) [] H y s.heap l.heap/\HOk P w y l.heap/\RelV v u/\Q v y
def CR(y:CXT)(j:List Env)(P:Program)(w:World)(H:Hp)(s:Shared)(Q:VK)(E:XK)(r:Result)(l:Shared):Prop:=
 match r with
 |.ok (.ret u)=>CE j P w H s Q u l
 |.ok _=>False
 |.error e=>y j H s E e l
structure FnOk (P:Program)(w:World)(K:Y00)(mg:Str->Option Value)(base:Heap)(CX:CXT)(k:Nat)(f:Addr)(fd:FuncData)(ps:List Str)(sp:Sp):Prop where
 len:∀vs H Q E,sp vs H Q E->vs.length=ps.length
 run:∀(A:Around)(outer:List Env)(s:Shared)(H:Hp)(args:Args)(us:List Value)(vs:List V)(Q:VK)(E:XK),Room k A->Env0 P w K mg base A outer s H->BindsTo s fd args (ps.zip us)->Vals vs us->sp vs H Q E->
  codeAny (model P w) A (.call (.ref f) args) (CR CX outer P w H s Q E) s
theorem FnOk.mono{K:Y00}{k:Nat}(F:FnOk P w K mg base CX j f fd ps sp)(h:j<=k):
  FnOk P w K mg base CX k f fd ps sp:=⟨F.len,λA l s H u y z Q E m=>F.run A l s H u y z Q E (m.mono h)⟩
theorem FnOk.imp{K:Y00}{k:Nat}(F:FnOk P w K mg base CX k f fd ps sp)
  (h:∀l H Q E,sp' l H Q E->sp l H Q E):FnOk P w K mg base CX k f fd ps sp':=
 ⟨λl H Q E q=>F.len l H Q E (h _ _ _ _ q),λA j s H u y l Q E z m g d c=>F.run A j s H u y l Q E z m g d (h _ _ _ _ c)⟩
section
variable{X:Cx}{pz:List (Addr×Obj)}{σ:St}{H:Hp}{s s':Shared}
theorem Inv.env0(I:Inv X pz σ H s):Env0 X.prog X.w X.K X.mg X.base X.A X.stack s H:=
 ⟨I.ok.frames,I.ok.mod,I.bs,Y0S I.ok.bsz I.sz,I.stack,I.stkFree,I.hok,I.bare⟩
theorem Inv.after(I:Inv X pz σ H s)(h:CE X.stack X.prog X.w H s Q u s'):EP X pz σ Q u s':=by
 obtain⟨v,y,os,j,un,l,r,q⟩:=h
 obtain⟨m,g,d,t,w⟩:=s'
 obtain rfl:w=s.os:=os
 exact⟨v,y,I.call (h':=m) (L:=g) (P:=d) (O:=t) (y:=[]) un l j (λb z=>absurd z (by simp)),r,q⟩
end
noncomputable def ZmA(l:Sp)(j:List V)(E:XK)(t:TA):TE:=λu H Q=>t u H λw y=>l (w++j) y Q E
noncomputable def Binds(K:Y00)(w:FuncData)(l:List Str)(u:List Value):Prop:=
 ∀(s:Shared)(j:List Value),K.In s.heap->(j++u).length=l.length->BindsTo s w ⟨j,[]⟩ (l.zip (j++u))
theorem Binds.all{K:Y00}(h:∀j:List Value,j.length=ps.length->bindArgs fd ⟨j,[]⟩=pure (ps.zip j)):Binds K fd ps []:=λs j _ l=>by
 rw[Y18]at l ⊢
 exact .of_eq (h j l)
def ZgT(l:CXT)(X:Cx)(E:XK):Prop:=∀(u:List (Addr×Obj))(w:St)(H:Hp)(s:Shared)(e:Value)(j:Shared),Inv X u w H s->l X.stack H s E e j->X.xe e j
section
variable{X:Cx}{CX:CXT}{k:Nat}{f C:Addr}{fd:FuncData}{ps:List Str}{sp:Sp}{dvs:List V}{ds:List Value}{E:XK}{x m:Str}{p pos apos:Pos}{e o:Expr}{es:List Expr}{ta:TE}{t:TA}
theorem _kR(F:FnOk X.prog X.w X.K X.mg X.base CX k f fd ps sp)(w:Room k X.A)(y:Binds X.K fd ps ds)(hd:Vals dvs ds)(z:ZgT CX X E)
  (I:Inv X pz σ H s)(r:Vals vs us)(h:sp (vs++dvs) H Q E):wpAny (model X.prog X.w) X.A (call (.ref f) us) (EP X pz σ Q) X.xe s:=by
 have l:Vals (vs++dvs) (us++ds):=r.append hd
 have g:(us++ds).length=ps.length:=by rw[<-l.length];exact F.len _ _ _ _ h
 refine wpAny_call (codeAny_mono (F.run X.A X.stack s H ⟨us,[]⟩ (us++ds) (vs++dvs) Q E w I.env0 (y s us I.kIn g) l h) λr d j=>?_)
 cases r with
 |error e=>exact z pz σ H s e d I j
 |ok c=>
  cases c with
  |ret u=>exact I.after j
  |next=>exact Y0U j
  |brk=>exact Y0U j
  |cont=>exact Y0U j
theorem _jj(F:FnOk X.prog X.w X.K X.mg X.base CX k f fd ps sp)(w:Room k X.A)(y:Gl X x)(z:X.mg x=some (.ref f))(g:Y1j X.K (.ref f)=true)(d:Binds X.K fd ps ds)(hd:Vals dvs ds)(c:ZgT CX X E)
  (L:PA X (e::es) t)(j:(x==("__debug__":Str))=false:=by decide)(N:starEach (e::es) X.env=(false,eval e X.env)::starEach es X.env:=by rfl)(l:(backTo pos (starEach es X.env)).any (·.1)=false:=by rfl):
  PE X (.Call (.Name x p) (e::es) [] pos) (ZmA sp dvs E t):=by
 intro O s P H Q I h
 refine wpAny_Call_Name_kw (_dl I y z ?_ j)
 refine PySem.W.callWith_K (h₀:=X.base) I.ok.mod.kin g (thn (L pos O s P H _ I h) λR T ⟨U,W,u,r,q⟩=>⟨u.kIn,?_⟩) N l
 exact _kR F w d hd c u r q
structure Mk (K:Y00)(C f:Addr):Prop where
 makes:PySem.W.makesIn K C=true
 init:Y2e K (.ref C) "__init__"=some (some (.ref f))
 fn:PySem.W.isFn K (.ref f)=true
 kp:Y1j K (.ref C)=true
end
section
variable{X:Cx}{CX:CXT}{k:Nat}{f C:Addr}{fd:FuncData}{ps ks:List Str}{sp:Sp}{E:XK}{x m:Str}{p pos apos kpos:Pos}{e o:Expr}{es:List Expr}{kws:List Keyword}{te ta:TE}{t tk:TA}{nm:Option Str}
variable{g:List Value->List Value->List Value}{gV:List V->List V->List V}
end
structure FnScope (N P:List Str)(sc:Scope):Prop where
 kind:sc.kind=.function
 co:sc.isCoroutine=false
 gen:sc.isGenerator=false
 nd:N.Nodup
 pre:N.take P.length=P
 par:∀x∈P,sc.names.lookup x=some .local\/sc.names.lookup x=some .cell
 nofree:∀y∈sc.names,y.2≠.free
theorem _cN{kindOf:Str->Option NameKind}:∀{binds:List (Str×Value)} {m:Str->Option Value},(∀v,(x,v)∉binds)->bindL kindOf binds m x=m x
 |[],_,_=>rfl
 |(n,v)::r,m,h=>by
  unfold bindL
  rw[_cN λw j=>h w (Y04 _ j)]
  split
  .have:x≠n:=by rintro rfl;exact h v Y0c
   simp[this]
  .rfl
theorem _cP{kindOf:Str->Option NameKind}:∀{binds:List (Str×Value)} {m:Str->Option Value},(∀v,(x,v)∉binds)->bindC kindOf binds m x=m x
 |[],_,_=>rfl
 |(n,v)::r,m,h=>by
  unfold bindC
  rw[_cP λw j=>h w (Y04 _ j)]
  split
  .rfl
  .have:x≠n:=by rintro rfl;exact h v Y0c
   simp[this]
theorem _cO{kindOf:Str->Option NameKind}:∀{P:List Str} {j:List Value} {i:Nat} {m:Str->Option Value},P.Nodup->P[i]?=some x->j[i]?=some v->kindOf x=some .local->
  bindL kindOf (P.zip j) m x=some v
 |[],_,_,_,_,h,_,_=>by simp at h
 |_::_,[],_,_,_,_,h,_=>by simp at h
 |p::P,w::j,0,m,nd,h1,h2,hk=>by
  simp at h1 h2;subst h1;subst h2
  show bindL kindOf ((p,w)::P.zip j) m p=_
  unfold bindL
  rw[_cN λv l=>(Y15.mp nd).1 (Y3n l).1,if_pos hk]
  simp
 |p::P,w::j,i+1,m,nd,h1,h2,hk=>by
  show bindL kindOf ((p,w)::P.zip j) m x=_
  unfold bindL
  exact _cO (i:=i) (Y15.mp nd).2 (by simpa using h1) (by simpa using h2) hk
theorem _cQ{kindOf:Str->Option NameKind}:∀{P:List Str} {j:List Value} {i:Nat} {m:Str->Option Value},P.Nodup->P[i]?=some x->j[i]?=some v->kindOf x≠some .local->
  bindC kindOf (P.zip j) m x=some v
 |[],_,_,_,_,h,_,_=>by simp at h
 |_::_,[],_,_,_,_,h,_=>by simp at h
 |p::P,w::j,0,m,nd,h1,h2,hk=>by
  simp at h1 h2;subst h1;subst h2
  show bindC kindOf ((p,w)::P.zip j) m p=_
  unfold bindC
  rw[_cP λv l=>(Y15.mp nd).1 (Y3n l).1,if_neg hk]
  simp
 |p::P,w::j,i+1,m,nd,h1,h2,hk=>by
  show bindC kindOf ((p,w)::P.zip j) m x=_
  unfold bindC
  exact _cQ (i:=i) (Y15.mp nd).2 (by simpa using h1) (by simpa using h2) hk
noncomputable def Z9N(N:List Str)(j:List V):St:=j.map some++Y1C (N.length - j.length) none
noncomputable def cxOf(g:CXT)(P:Program)(w:World)(K:Y00)(d:Str->Option Value)(z:Heap)(N:List Str)(u:Str)(j:Scope)(f:Addr)(m:Value)(A:Around)(l:List Env)(s:Shared)(H:Hp)(E:XK):Cx where
 prog:=P
 w:=w
 K:=K
 mg:=d
 base:=z
 A:=A.deeper (envOfC u j s.heap.objs.size f m)
 N:=N
 s₀:=s
 H₀:=H
 env:=envOfC u j s.heap.objs.size f m
 outer:=l
 stack:=envOfC u j s.heap.objs.size f m::l
 ex:=[]
 calm:=true
 fn:=λ_=>true
 pn:=[]
 xe:=λe c=>wpAny (model P w) (A.deeper (envOfC u j s.heap.objs.size f m)) (leaving (envOfC u j s.heap.objs.size f m) e) (λ_ y=>g l H s E e y) (λq y=>g l H s E q y) c
theorem _eg{j:Scope}{n:Nat}{x:Str}(h:j.names.lookup x=some .cell):∃c,(cellsFrom n j.names []).lookup x=some c:=by
 have q:=Y3d j.names n [] (.inl h)
 exact Option.isSome_iff_exists.mp q
theorem _gf{G:CXT}{P:Program}{w:World}{K:Y00}{D:Str->Option Value}{d:Heap}{N O:List Str}{m:Str}{j:Scope}{f:Addr}{Z:Value}{A:Around}{l:List Env}{s I:Shared}{H:Hp}{E:XK}{F:List Value}{R:List V}
  (S:FnScope N O j)(hd:A.handled=none)(L:Env0 P w K D d A l s H)(hl:R.length=O.length)(r:Vals R F)
  (x:InCallC s s.heap.objs.size (bindL (envOfC m j s.heap.objs.size f Z).kindOf (O.zip F) λ_=>none) (cellsFrom (s.heap.objs.size+1) j.names []) (bindC (envOfC m j s.heap.objs.size f Z).kindOf (O.zip F) λ_=>none) I):
  Inv (cxOf G P w K D d N m j f Z A l s H E) [] (Z9N N R) H I:=by
 have Q:O.length<=N.length:=by have:=congrArg Y1I S.pre;rw[Y0s]at this;lia
 obtain⟨B,tk,rfl,J⟩:=x.done
 have T:∀b:Addr,b∉(cxOf G P w K D d N m j f Z A l s H E).ex:=λb z=>absurd (show b∈([]:List Addr)from z) (by simp)
 refine⟨⟨L.mod,S.kind,rfl,rfl,Y09 _,λy z c B g=>?_,λy U=>?_,λy c _ h=>?_,λ_=>hd,Around.frames_deeper L.frames,.inr ⟨rfl,rfl⟩,λb z=>absurd z (T b),L.bs,L.bsz,λb _ _=>T b,λb z=>absurd z (T b),L.funs,L.frf⟩,
  rfl,L.bare,Un.kept J,⟨_,x.toInCall.ns,λi y v B g h3=>?_⟩,λy c h=>⟨_,x.cell y c h⟩,L.hok.fresh (Y09 _),λy c h=>?_,λp W=>absurd (show p∈([]:List (Addr×Obj))from W) (by simp),L.hok.kept J,?_⟩
 .exact name_of_addr x.apart (Y1c B) (Y1c g)
 .have U:j.names.lookup y=some .cell\/j.names.lookup y=some .free:=U
  rcases U with U|U
  .exact _eg U
  .exact absurd rfl (S.nofree _ (Y1c U))
 .exact Y3l (x.above y c (Y1c h))
 .have C:i<R.length:=by
   unfold Z9N at g
   by_cases C:i<R.length
   .exact C
   .rw[Y0C (by simpa using C)]at g
    rw[Y30]at g
    split at g<;>cases g
  have X:R[i]?=some v:=by
   unfold Z9N at g
   rw[Y0H (by simpa using C),Y08]at g
   cases e:R[i]? with
   |none=>rw[e]at g;cases g
   |some a=>rw[e]at g;cases g;rfl
  obtain⟨u,M,o⟩:=r.get X
  have W:O[i]?=some y:=by
   rw[<-S.pre,Y2M (by lia)];exact B
  have Y:O.Nodup:=by rw[<-S.pre];exact S.nd.sublist (List.take_sublist _ _)
  refine⟨u,o,?_⟩
  rcases S.par y (Y0G W)with k|k
  .exact .inl ⟨k,_cO Y W M k⟩
  .obtain⟨c,e⟩:=_eg (n:=s.heap.objs.size+1) k
   refine .inr ⟨.inl k,c,e,?_⟩
   have q:=x.cell y c e
   rw[_cQ Y W M (by show j.names.lookup y≠_;rw[k];decide)]at q
   exact q
 .exact L.hok.fresh (Y3l (x.above y c (Y1c h)))
 .unfold Z9N
  show _=N.length
  rw[Y0i,Y01,Y2f]
  lia
theorem _nS{K:Y00}{k:Nat}{name:Str}{kV:Value}
    (D:K.lookup f=some ⟨oc,od,.func (Y1J name qual params body scope dV kV doc pm an cdv ct),osl⟩)(R:Y3z K cdv qual=true)(S:FnScope N ps scope)
  (len:∀l H Q E,sp l H Q E->l.length=ps.length)
  (g:∀(A:Around)(j:List Env)(s:Shared)(H:Hp)(l:List V)(Q:VK)(E:XK),Room k (A.deeper (envOfC qual scope s.heap.objs.size f cdv))->sp l H Q E->
   ∃t,PSs (cxOf CX P w K mg base N qual scope f cdv A j s H E) body t/\t {nx:=λ_ m=>Q .non m,rt:=Q} (Z9N N l) H):
  FnOk P w K mg base CX (k+1) f (Y1J name qual params body scope dV kV doc pm an cdv ct) ps sp:=by
 refine⟨len,λA j s H Z F l Q E T p G r L=>?_⟩
 have M:=len _ _ _ _ L
 have B:K.In s.heap:=p.mod.kin.keeps λb o e=>(p.bs b o e).1
 have U:s.heap.NoLimit:=p.mod.nolimit.keeps λb o e=>(p.bs b o e).1
 have d:∀y∈ps.zip F,scope.names.lookup y.1=some .local\/(scope.names.lookup y.1=some .cell/\((cellsFrom (s.heap.objs.size+1) scope.names []).lookup y.1).isSome=true):=fun⟨n,v⟩ X=>by
  rcases S.par n (Y3n X).1 with q|q
  .exact .inl q
  .exact .inr ⟨q,Y3d _ _ _ (.inl q)⟩
 refine codeAny_call_function T.depth (B _ _ D) rfl S.co S.gen rfl (PySem.W.codeRec_of B R) (G _ _ _ _ ?_)
 refine wpAny_newFunctionEnv_cells S.kind d λi h C x=>?_
 subst h
 refine⟨U.keeps x.toInCall.keep,codeAny_func ?_⟩
 obtain⟨t,a,hq⟩:=g A j s H l Q E (T.deeper _) L
 have I:Inv (cxOf CX P w K mg base N qual scope f cdv A j s H E) [] (Z9N N l) H C:=_gf S T.hd p M r x
 refine wpAny_mono (a [] C (Z9N N l) H _ I hq) (λfl W c=>?_) λe W c=>c
 have O:∀{z:St} {m:Hp} {v:V} {u:Value},Inv (cxOf CX P w K mg base N qual scope f cdv A j s H E) [] z m W->RelV v u->Q v m->CE j P w H s Q u W:=
  fun{z m v u} J Y q=>⟨v,m,J.os,J.bare,J.base,J.hok,Y,q⟩
 cases fl with
 |ret u=>
  obtain⟨v,z,m,J,Y,q⟩:=c
  exact O J Y q
 |next=>
  obtain⟨z,m,J,q⟩:=c
  exact O (v:=V.non) (u:=Y2n) J rfl q
 |brk=>
  obtain⟨_,_,_,q⟩:=c
  exact Y0U q
 |cont=>
  obtain⟨_,_,_,q⟩:=c
  exact Y0U q
end L2
namespace L2
open PySem PySem.Spec PyProof.Rows
section
variable{X:Cx}{x:Str}{p pos:Pos}{e:Expr}{es:List Expr}{t:TA}{id T:String}{r:List V->Hp->VK->Prop}
noncomputable def tCB(r:List V->Hp->VK->Prop)(t:TA):TE:=λj H Q=>t j H λl u=>r l u Q
theorem _hh(y:Z4c X (.builtin id) r)(z:Gl X x)(m:X.mg x=none)(g:bootBuiltins x=some (.builtin id))(d:PA X (e::es) t)(c:x≠"__name__":=by decide)(j:(x==("__debug__":Str))=false:=by decide)
  (f:starEach (e::es) X.env=(false,eval e X.env)::starEach es X.env:=by rfl)(l:(backTo pos (starEach es X.env)).any (·.1)=false:=by rfl):PE X (.Call (.Name x p) (e::es) [] pos) (tCB r t):=by
 intro u s w H Q I h
 refine wpAny_Call_Name_kw (_6q I z m g ?_ c j)
 exact Y2g (thn (d pos u s w H _ I h) λq L ⟨N,O,P,R,U⟩=>y u L w O N q Q P R U) f l
theorem _fH(y:Z4c X (.type T) r)(z:Gl X x)(m:X.mg x=none)(g:bootBuiltins x=some (.type T))(d:PA X (e::es) t)(c:x≠"__name__":=by decide)(j:(x==("__debug__":Str))=false:=by decide)
  (f:starEach (e::es) X.env=(false,eval e X.env)::starEach es X.env:=by rfl)(l:(backTo pos (starEach es X.env)).any (·.1)=false:=by rfl):PE X (.Call (.Name x p) (e::es) [] pos) (tCB r t):=by
 intro u s w H Q I h
 refine wpAny_Call_Name_kw (_6q I z m g ?_ c j)
 exact Y0Z (thn (d pos u s w H _ I h) λq L ⟨N,O,P,R,U⟩=>y u L w O N q Q P R U) f l
end
end L2
namespace HT
open PySem PyProof.Rows
section
open PySem.SeqAt
open PySem.AutoSeq1 (wpAny_loadPart')
open PySem.MeetsSeq PySem.MeetsSeq2 PySem.MeetsSeq3
end
section
variable{prog:Program}{w:World}{A:Around}{E:Value->Shared->Prop}{s:Shared}
theorem cat_tup{t:Addr}{ws:List Value}(L:IsTup s.heap t vs.toArray)(N:IsTup s.heap b ws.toArray)(g:vs≠ [])
  (h1:ws=[]->Q (.ref t) s)(h2:ws≠ []->Q (.ref s.heap.objs.size) {s with heap:=s.heap.push {cls:=.type "tuple",data:=.seq (vs++ws).toArray} })
  (m:vs.length+ws.length<=sizeLine):wpAny (model prog w) A (binaryOp .Add (.ref t) (.ref b)) Q E s:=by
 obtain⟨⟨O,d,c,f⟩,z,q,n,hd⟩:=id L
 obtain⟨⟨r,l,data2,u⟩,j,y,p,hd2⟩:=id N
 simp only at q hd y hd2
 subst q hd y hd2
 have e:vs.toArray++ws.toArray=(vs++ws).toArray:=by simp
 by_cases hw:ws=[]
 .exact concat_meets ⟨_,z,rfl⟩ ⟨_,j,rfl⟩ noFill_tuple_add seq_tuple_add Y3e Y31 (Y2N _ _)
   (tuple_addW1 t b vs.toArray ws.toArray n p d l f u (by simpa using g) (by simp[hw])) ⟨z,j,h1 hw⟩
 .refine concat_meets ⟨_,z,rfl⟩ ⟨_,j,rfl⟩ noFill_tuple_add seq_tuple_add Y3e Y31 (Y2N _ _)
   (tuple_addW2 t b vs.toArray ws.toArray n p d l f u (by simpa using g) (by simpa using hw) (by rw[Y0f,Y0f];exact m)) ⟨z,j,?_⟩
  rw[e]
  exact h2 hw
noncomputable def sIx(n d:Nat):Option Int->Nat
 |none=>d
 |some v=>if v<0 then(v+(n:Int)).toNat else min v.toNat n
theorem sIx_none(n d:Nat):sIx n d none=d:=rfl
theorem sIx_nat(n d k:Nat):sIx n d (some (k:Int))=min k n:=by
 show(if(k:Int)<0 then((k:Int)+(n:Int)).toNat else min (k:Int).toNat n)=min k n
 rw[if_neg (by lia),Y0V]
theorem _kQ(n d:Nat)(hd:d<=n)(o:Option Int):sIx n d o<=n:=by
 cases o with
 |none=>exact hd
 |some v=>
  show(if v<0 then(v+(n:Int)).toNat else min v.toNat n)<=n
  by_cases hv:v<0
  .rw[if_pos hv];lia
  .rw[if_neg hv];exact Nat.min_le_right _ _
theorem _gC(v:Int)(n d:Nat):(if v<0 then max (v+(n:Int)) 0 else min v (n:Int))=((sIx n d (some v):Nat):Int):=by
 show(if v<0 then max (v+(n:Int)) 0 else min v (n:Int))=(((if v<0 then(v+(n:Int)).toNat else min v.toNat n):Nat):Int)
 by_cases hv:v<0
 .simp only[if_pos hv];lia
 .simp only[if_neg hv];lia
theorem _eY(lo j:Option Int)(n:Nat):Y1T lo j 1 (n:Int)=(((sIx n 0 lo:Nat):Int),((sIx n n j:Nat):Int)):=by
 have l:¬((1:Int)<0):=by lia
 unfold Y1T
 simp only[l,if_false]
 refine Prod.ext ?_ ?_
 .cases lo with
  |none=>rfl
  |some v=>exact _gC v n 0
 .cases j with
  |none=>rfl
  |some v=>exact _gC v n n
theorem _ev(i j:Nat):Y1o (i:Int) (j:Int) 1=j - i:=by
 unfold Y1o
 have l:(1:Int)>0:=by lia
 simp only[l,if_true,Int.ediv_one]
 split<;>lia
theorem _aj(p:IsPart v o)(h:Q o s):wpAny (model prog w) A (Builtin.Slice.slicePartIndex v) Q E s:=by
 cases p with
 |none=>exact slicePart_none h
 |int i t=>exact slicePart_int h
theorem _3W{m:Addr}{y z:Value}{lo j:Option Int}{n:Nat}{Q:Int×Int×Nat->Shared->Prop}(g:s.heap.IsSliceOf m y z .none)(d:IsPart y lo)(c:IsPart z j)
  (h:Q (((sIx n 0 lo:Nat):Int),1,sIx n n j - sIx n 0 lo) s):wpAny (model prog w) A (Y2x (.ref m) (pure (n:Int))) Q E s:=by
 obtain⟨os,l,f,u⟩:=id g
 unfold Y2x Builtin.Slice.sliceFields
 refine wpAny_bind (wpAny_bind (wpAny_field l u (x:=y) rfl (wpAny_bind (wpAny_field l u (x:=z) rfl (wpAny_bind (wpAny_field l u (x:=.none) rfl (wpAny_pure ?_)))))))
 refine wpAny_bind (slicePart_none ?_)
 show wpAny _ _ (if((1:Int)==0)=true then _ else _) _ _ s
 rw[if_neg (by decide)]
 refine wpAny_bind (_aj d (wpAny_bind (_aj c (wpAny_bind (wpAny_pure ?_)))))
 show wpAny _ _ (match Y1T lo j 1 (n:Int)with|(lo,j)=>pure (lo,(1:Int),Y1o lo j 1)) _ _ s
 rw[_eY lo j n]
 show wpAny _ _ (pure (((sIx n 0 lo:Nat):Int),(1:Int),Y1o ((sIx n 0 lo:Nat):Int) ((sIx n n j:Nat):Int) 1)) _ _ s
 rw[_ev]
 exact wpAny_pure h
theorem _hc(j:Array Value)(i k:Nat):((Y0A k).filterMap fun(m:Nat)=>j[((i:Int)+(m:Int)*1).toNat]?).toArray=((j.toList.drop i).take k).toArray:=by
 have e:(fun(m:Nat)=>j[((i:Int)+(m:Int)*1).toNat]?)=λm=>j[i+m]?:=by
  funext m
  have:((i:Int)+(m:Int)*1).toNat=i+m:=by lia
  rw[this]
 rw[e]
 have:=pick_run j i k
 rw[List.filterMap_map]at this
 have l:((λx=>j[x]?)∘ λx=>i+x)=λm=>j[i+m]?:=rfl
 rw[l]at this
 rw[this]
theorem getItem_tuple_cut{t:Addr}{items:Array Value}{lo:Option Int}(l:IsTup s.heap t items)(d:s.heap.IsSliceOf sl vl vu .none)(c:IsPart vl lo)(f:IsPart vu hi)
  (hw:¬(sIx items.size 0 lo=0/\sIx items.size items.size hi=items.size))
  (h:Q (.ref s.heap.objs.size) {s with heap:=s.heap.push {cls:=.type "tuple",data:=.seq ((items.toList.drop (sIx items.size 0 lo)).take (sIx items.size items.size hi - sIx items.size 0 lo)).toArray} })
  (r:items.size<=sizeLine):wpAny (model prog w) A (getItem (.ref t) (.ref sl)) Q E s:=by
 have j:sizeOk (.seq ((items.toList.drop (sIx items.size 0 lo)).take (sIx items.size items.size hi - sIx items.size 0 lo)).toArray):=by
  show((items.toList.drop (sIx items.size 0 lo)).take (sIx items.size items.size hi - sIx items.size 0 lo)).toArray.size<=sizeLine
  rw[Y0f,Y0s,Y1a,Y0o]
  lia
 have e:sIx items.size items.size hi<=items.size:=_kQ _ _ (Y09 _) hi
 obtain⟨os,u,y,p⟩:=id d
 have z:s.TypeIs (.ref sl) "slice":=⟨os,u,y⟩
 unfold getItem
 try with_reducible refine wpAny_holding ?_
 first|refine wpAny_bind (wpAny_pure ?_)|skip
 refine wpAny_bind (wpAny_sequenceKey l.typeIs (by decide) ?_)
 refine wpAny_bind (wpAny_callSpecial?_slot (name:=Y1K "__getitem__") l.typeIs Y0Q
  (wpAny_call_entry Y0Q l.typeIs entry_tuple_getitem ?_ (args_tuple_getitem _ _)))
 show wpAny _ _ (Y2y (.ref t)>>= _) _ _ s
 refine wpAny_bind (tupleItemsOf_ l ?_)
 refine wpAny_bind (wpAny_typeOf z ?_)
 rw[if_pos (by decide)]
 refine wpAny_bind (_3W d c f ?_)
 have g:¬((((sIx items.size 0 lo:Nat):Int)==0&&(1:Int)==1&&(sIx items.size items.size hi - sIx items.size 0 lo)==items.size)=true):=by
  intro q
  rw[Y0r,Y0r]at q
  have L:((sIx items.size 0 lo:Nat):Int)=0:=eq_of_beq q.1.1
  have N:sIx items.size items.size hi - sIx items.size 0 lo=items.size:=eq_of_beq q.2
  exact hw ⟨by lia,by lia⟩
 show wpAny _ _ (if(((sIx items.size 0 lo:Nat):Int)==0&&(1:Int)==1&&(sIx items.size items.size hi - sIx items.size 0 lo)==items.size)=true then _ else _) _ _ s
 rw[if_neg g,_hc]
 first
  |exact wpAny_bind (m:=Y1r _) (wpAny_newObj_type (wpAny_pure ⟨_,rfl,wpAny_pure h⟩) j)
  |exact wpAny_bind (m:=Y1r _) (wpAny_newObj_type (wpAny_bind (wpAny_pure (wpAny_pure ⟨_,rfl,wpAny_pure h⟩))) j)
  |exact wpAny_bind (wpAny_bind (m:=Y1r _) (wpAny_newObj_type (wpAny_pure (wpAny_pure ⟨_,rfl,wpAny_pure h⟩)) j))
  |exact wpAny_bind (wpAny_bind (m:=Y1r _) (wpAny_newObj_type (wpAny_pure ⟨_,rfl,wpAny_pure h⟩) j))
end
end HT
namespace L2
open PySem PySem.Spec PyProof.Rows
abbrev TO:=St->Hp->(Option Int->Hp->Prop)->Prop
def PO(X:Cx)(e:Option Expr)(t:TO):Prop:=
 ∀(l:List (Addr×Obj))(s:Shared)(j:St)(H:Hp)(Q:Option Int->Hp->Prop),Inv X l j H s->t j H Q->
  wpAny (model X.prog X.w) X.A (evalPart e X.env) (λu y=>∃o w,Inv X l j w y/\IsPart u o/\Q o w) X.xe s
noncomputable def ZiO:TO:=λ_ H Q=>Q none H
noncomputable def Zmw(t:TE):TO:=λj H Q=>t j H λx l=>∃i,x=.int i/\Q (some i) l
section
variable{X:Cx}{e:Expr}{te:TE}{lo hi:Option Expr}{tl th:TO}{pos p2:Pos}
theorem _je:PO X none ZiO:=by
 intro j s l H Q I h
 rw[evalPart_none]
 exact wpAny_pure ⟨none,H,I,.none,h⟩
theorem _jd(h:PE X e te):PO X (some e) (Zmw te):=by
 intro j s l H Q I w
 rw[evalPart_some]
 refine thn (h j s l H _ I w) λu d ⟨x,y,z,m,g⟩=>?_
 obtain⟨i,rfl,q⟩:=g
 obtain⟨t,rfl⟩:=m
 exact⟨some i,y,z,.int i t,q⟩
def SlR(X:Cx)(r:V->Option Int->Option Int->Hp->VK->Prop):Prop:=
 ∀(j:List (Addr×Obj))(s:Shared)(l:St)(H:Hp)(x:V)(v u w:Value)(lo hi:Option Int)(y:Addr)(Q:VK),Inv X j l H s->RelV x v->s.heap.IsSliceOf y u w .none->IsPart u lo->IsPart w hi->r x lo hi H Q->
  ∃T id,typeLookup (.type T) "__getitem__"=pure (some (.builtin id))/\s.TypeIs v T/\wpAny (model X.prog X.w) X.A (getItem v (.ref y)) (EP X j l Q) X.xe s
noncomputable def tSl(r:V->Option Int->Option Int->Hp->VK->Prop)(te:TE)(tl th:TO):TE:=λj H Q=>te j H λx w=>tl j w λl y=>th j y λu z=>r x l u z Q
theorem _he{r:V->Option Int->Option Int->Hp->VK->Prop}(d:SlR X r)(c:PE X e te)(f:PO X lo tl)(p:PO X hi th):PE X (.Subscript e (.Slice lo hi none p2) pos) (tSl r te tl th):=by
 intro w s y H Q I h
 refine Subscript_ (thn (c w s y H _ I h) λv L ⟨x,N,O,P,R⟩=>?_)
 refine wpAny_Slice (thn (f w L y N _ O R) λz U ⟨l,W,Y,Z,A⟩=>thn (p w U y W _ Y A) λm j ⟨u,g,B,C,D⟩=>?_)
 rw[evalPart_none]
 refine wpAny_pure ?_
 have E:Inv X w y g {j with heap:=j.heap.push {cls:=.type "slice",data:=.fields #[z,m,.none]} }:=B.kept (t':=j.toks) fun b M q=>Y03 _ q
 obtain⟨T,id,F,G,J⟩:=d w {j with heap:=j.heap.push {cls:=.type "slice",data:=.fields #[z,m,.none]} } y g x v z m l u j.heap.objs.size Q E P (Heap.IsSliceOf.new ..) Z C D
 show wpAny (model X.prog X.w) X.A (subscriptTail e (.Slice lo hi none p2) v (.ref j.heap.objs.size)) (EP X w y Q) X.xe {j with heap:=j.heap.push {cls:=.type "slice",data:=.fields #[z,m,.none]} }
 exact tail_any (ops:=[.ref j.heap.objs.size,v]) G F J (by with_unfolding_all rfl)
noncomputable def cutV(j:List V)(lo hi:Option Int):List V:=(j.drop (HT.sIx j.length 0 lo)).take (HT.sIx j.length j.length hi - HT.sIx j.length 0 lo)
theorem _9x(j:List V)(lo hi:Option Int):(cutV j lo hi).length<=j.length:=by
 unfold cutV
 rw[Y0s,Y1a]
 lia
def rSlT(K:Y00):V->Option Int->Option Int->Hp->VK->Prop:=λx lo hi H Q=>∃a j,x=.ref a/\SqT K H a j/\
 ¬(HT.sIx j.length 0 lo=0/\HT.sIx j.length j.length hi=j.length)/\∀p,H p=none->Q (.ref p) (upd H p (.tup (cutV j lo hi)))
theorem _kK:SlR X (rSlT X.K):=by
 intro p s L H x v N O lo hi P Q I z m g d h
 obtain⟨a,l,rfl,c,f,q⟩:=h
 cases z
 obtain⟨u,r,w,y⟩:=I.tuple c
 have j:u.toArray.size=l.length:=by rw[Y0f];exact r.length.symm
 refine⟨"tuple",_,Y0Q.lookup,w.typeIs,?_⟩
 refine HT.getItem_tuple_cut w m g d (by rw[j];exact f) ?_ (by rw[j];exact y)
 rw[j]
 refine⟨.ref s.heap.objs.size,_,I.laid (t':=s.toks) (o:=.tup (cutV l lo hi)) (λb R q=>Y03 _ q) (Y09 _) ?_,rfl,q _ (I.hok.fresh (Y09 _))⟩
 exact⟨Y0S (_9x l lo hi) y,_,(r.drop (HT.sIx l.length 0 lo)).take (HT.sIx l.length l.length hi - HT.sIx l.length 0 lo),IsTup.new _ _,_,Y0d _ rfl,rfl⟩
def ZmK(K:Y00):R2:=λx y H Q=>∃a b l j,x=.ref a/\y=.ref b/\SqT K H a l/\SqT K H b j/\l≠ []/\l.length+j.length<=sizeLine/\
 (j=[]->Q (.ref a) H)/\(j≠ []->∀p,H p=none->Q (.ref p) (upd H p (.tup (l++j))))
theorem Vals.nil_iff(r:Vals xs us):us=[]↔xs=[]:=by
 cases r with
 |nil=>simp
 |cons _ _=>simp
theorem _jq:OpR X (binaryOp .Add) (ZmK X.K):=by
 intro U s W H x y v u Q I d c h
 obtain⟨a,b,f,r,rfl,rfl,p,L,N,m,O,P⟩:=h
 cases d
 cases c
 obtain⟨R,l,T,_⟩:=I.tuple p
 obtain⟨g,j,p2,_⟩:=I.tuple L
 refine HT.cat_tup T p2 (λz=>N (l.nil_iff.mp z)) (λz=>⟨.ref a,H,I,rfl,O (j.nil_iff.mp z)⟩) (λz=>?_) (by rw[<-l.length,<-j.length];exact m)
 refine⟨.ref s.heap.objs.size,_,I.laid (t':=s.toks) (o:=.tup (f++r)) (λb Y q=>Y03 _ q) (Y09 _) ?_,rfl,P (λw=>z (j.nil_iff.mpr w)) _ (I.hok.fresh (Y09 _))⟩
 exact⟨by rw[Y0i];exact m,_,l.append j,IsTup.new _ _,_,Y0d _ rfl,rfl⟩
end
end L2
namespace L2
open PySem PySem.Spec PyProof.Rows
noncomputable def ixN(n:Nat)(i:Int):Option Nat:=if 0<=i then(if i<n then some i.toNat else none)else if -(n:Int)<=i then some (i+n).toNat else none
def atI{α:Type}(xs:List α)(i:Int):Option α:=(ixN xs.length i).bind λj=>xs[j]?
theorem _jL(h:ixN n i=some j):seqIndex? i n=some j/\j<n/\ -(n:Int)<=i/\i<n:=by
 unfold ixN at h
 by_cases h0:0<=i
 .rw[if_pos h0]at h
  by_cases h1:i<n
  .rw[if_pos h1]at h
   have e:i.toNat=j:=Y0z h
   exact⟨by rw[seqIndex_of h0 h1,e],by lia,by lia,h1⟩
  .rw[if_neg h1]at h;cases h
 .rw[if_neg h0]at h
  by_cases h1:-(n:Int)<=i
  .rw[if_pos h1]at h
   have e:(i+n).toNat=j:=Y0z h
   exact⟨by rw[seqIndex_neg (by lia) h1,e],by lia,h1,by lia⟩
  .rw[if_neg h1]at h;cases h
theorem _dJ{u:Type}{l:List u}{i:Int}{v:u}(h:atI l i=some v):∃j,seqIndex? i l.length=some j/\l[j]?=some v/\j<l.length/\ -(l.length:Int)<=i/\i<l.length:=by
 unfold atI at h
 cases e:ixN l.length i with
 |none=>rw[e]at h;cases h
 |some j=>
  rw[e]at h
  obtain⟨w,y,z,m⟩:=_jL e
  exact⟨j,w,h,y,z,m⟩
theorem _0A{u:Type}{l:List u}{j:Nat}{v:u}(h:l[j]?=some v):atI l (j:Int)=some v:=by
 have w:j<l.length:=(Y0b.mp h).1
 have e:ixN l.length (j:Int)=some j:=by
  unfold ixN
  rw[if_pos (by lia),if_pos (by lia)];simp
 unfold atI;rw[e];exact h
noncomputable def ZgS(b:Expr):Prop:=∀o i,subscripted b false o i=operate [o,i] (getItem o i)
def IxR(X:Cx)(r:R2):Prop:=
 ∀(l j:Expr)(w:List (Addr×Obj))(s:Shared)(z:St)(H:Hp)(x y:V)(v u:Value)(Q:VK),Inv X w z H s->RelV x v->RelV y u->r x y H Q->
  subscripted j false v u=operate [v,u] (getItem v u)->wpAny (model X.prog X.w) X.A (subscriptTail l j v u) (EP X w z Q) X.xe s
def MtR(X:Cx)(id:String)(r:V->List V->Hp->VK->Prop):Prop:=
 ∀(j:List (Addr×Obj))(s:Shared)(l:St)(H:Hp)(x:V)(u:List V)(v:Value)(w:List Value)(Q:VK),Inv X j l H s->RelV x v->Vals u w->r x u H Q->
  wpAny (model X.prog X.w) X.A (call (.builtin id) (v::w)) (EP X j l Q) X.xe s
section
variable{X:Cx}{a b:Expr}{ta tb:TE}{pos:Pos}
theorem _nE{r:R2}(j:IxR X r)(l:PE X a ta)(w:PE X b tb)(z:ZgS b):PE X (.Subscript a b pos) (tOp r ta tb):=by
 intro m s g H Q I h
 exact Subscript_ (binT l w I h λv u d x y c f p e q=>j a b m d g c x y v u Q f p e q (z _ _))
def rIxL(K:Y00):R2:=λx y H Q=>∃p j i v,x=.ref p/\y=.int i/\SqL K H p j/\atI j i=some v/\Q v H
def rIxT(K:Y00):R2:=λx y H Q=>∃p j i v,x=.ref p/\y=.int i/\SqT K H p j/\atI j i=some v/\Q v H
def rIxS:R2:=λx y H Q=>∃z i c,x=.str z/\y=.int i/\z.length<=sizeLine/\atI z.cps.toList i=some c/\Q (.str ⟨#[c]⟩) H
theorem _g1:IxR X (rIxL X.K):=by
 intro g d N s O H x y v u Q I T U h P
 obtain⟨p,E,i,z,rfl,rfl,W,Y,q⟩:=h
 cases T
 obtain⟨t,rfl⟩:=U
 obtain⟨c,r,f,F⟩:=I.list W
 obtain⟨j,m,Z,G,A,B⟩:=_dJ Y
 obtain⟨w,R,e⟩:=r.get Z
 have C:=r.length
 have J:=_cd
 have l:EP X N O Q w s:=⟨z,H,I,e,q⟩
 by_cases h0:0<=i
 .have L:i.toNat=j:=by
   rw[seqIndex_of h0 B]at m
   exact Y0z m
  exact item_listR f.isList h0 (by lia) (by rw[L];simpa using R) l P
 .have L:(i+(c.toArray.size:Int)).toNat=j:=by
   rw[seqIndex_neg (by lia) A]at m
   rw[Y0f,<-C]
   exact Y0z m
  exact subscriptTail_builtinR (x:=w) f.isList.typeIs slot_list_getitem.lookup
   (wpAny_getItem_list_neg (Q:=λr D=>r=w/\EP X N O Q r D) f.isList (by lia) (by rw[Y0f]<;>lia) (by lia) (by rw[L];simpa using R) ⟨rfl,l⟩) P
theorem _lZ:IxR X (rIxT X.K):=by
 intro l m c s f H x y v u Q I L N h O
 obtain⟨p,B,i,z,rfl,rfl,P,R,q⟩:=h
 cases L
 obtain⟨t,rfl⟩:=N
 obtain⟨T,r,e,C⟩:=I.tuple P
 obtain⟨j,U,W,D,E,F⟩:=_dJ R
 obtain⟨w,Y,g⟩:=r.get W
 have Z:=r.length
 have G:=_cd
 have d:EP X c f Q w s:=⟨z,H,I,g,q⟩
 exact subscriptTail_builtinR (x:=w) e.typeIs slot_tuple_getitem.lookup
  (getItem_tuple (j:=j) (Q:=λr A=>r=w/\EP X c f Q r A) e (by lia) (by lia) (by rw[Y0f,<-Z];exact U) (by simpa using Y) ⟨rfl,d⟩) O
theorem _m0:IxR X rIxS:=by
 intro l w R s T H x y v u Q I g d h f
 obtain⟨z,i,c,rfl,rfl,U,r,q⟩:=h
 obtain⟨t,rfl⟩:=g
 obtain⟨W,rfl⟩:=d
 obtain⟨j,m,p,Y,e,L⟩:=_dJ r
 have N:z.cps.toList.length=z.length:=by simp[Y3S]
 rw[N]at m e L
 have Z:=_cd
 exact tail_any (typeIs_str s z t) slot_str_getitem.lookup (getItem_str (c:=c) (by
  have O:decide (i< -(2^63:Int))=false:=decide_eq_false (by lia)
  have P:decide (i >= 2^63)=false:=decide_eq_false (by lia)
  rw[O,P,Bool.or_false]) (by rw[m];simpa using p) ⟨.str ⟨#[c]⟩,H,I.tok _,⟨_,rfl⟩,q⟩) f
theorem _4d(lo j:Option Int)(n:Nat):(sliceBounds lo j none n).1=((HT.sIx n 0 lo:Nat):Int)/\(sliceBounds lo j none n).2.1=((HT.sIx n n j:Nat):Int)/\(sliceBounds lo j none n).2.2=1:=by
 refine⟨?_,?_,rfl⟩
 .cases lo with
  |none=>simp[sliceBounds,HT.sIx]
  |some i=>
   simp only[sliceBounds,HT.sIx,Option.getD_none,show(1:Int)>0 by decide,if_true]
   by_cases h:i<0
   .simp only[h,if_true]<;>lia
   .simp only[h,if_false]<;>lia
 .cases j with
  |none=>simp[sliceBounds,HT.sIx]
  |some i=>
   simp only[sliceBounds,HT.sIx,Option.getD_none,show(1:Int)>0 by decide,if_true]
   by_cases h:i<0
   .simp only[h,if_true]<;>lia
   .simp only[h,if_false]<;>lia
theorem _aZ(j:List Value)(lo l:Option Int):slicePick j.toArray lo l none=((j.drop (HT.sIx j.length 0 lo)).take (HT.sIx j.length j.length l - HT.sIx j.length 0 lo)).toArray:=by
 obtain⟨u,w,y⟩:=_4d lo l j.toArray.size
 unfold slicePick
 rw[u,w,y]
 simp only[sliceRange_one,pick_run,Y0f]<;>rfl
def rSlL(K:Y00):V->Option Int->Option Int->Hp->VK->Prop:=λx lo l H Q=>∃a j,x=.ref a/\SqL K H a j/\∀p,H p=none->Q (.ref p) (upd H p (.lst (cutV j lo l)))
theorem _iT:SlR X (rSlL X.K):=by
 intro p s e H x v L N lo u O Q I y z m g h
 obtain⟨a,j,rfl,d,q⟩:=h
 cases y
 obtain⟨c,r,w,f⟩:=I.list d
 have l:=r.length
 refine⟨"list",_,slot_list_getitem.lookup,w.isList.typeIs,?_⟩
 refine wpAny_getItem_list_slice w.isList z m g .none (by simp) ?_ (by rw[Y0f]<;>lia)
 rw[_aZ,<-l]
 refine⟨.ref s.heap.objs.size,_,I.laid (t':=s.toks) (o:=.lst (cutV j lo u)) (λb P q=>Y03 _ q) (Y09 _) ?_,rfl,q _ (I.hok.fresh (Y09 _))⟩
 exact⟨Y0S (_9x j lo u) f,_,0,(r.drop (HT.sIx j.length 0 lo)).take (HT.sIx j.length j.length u - HT.sIx j.length 0 lo),Y0d _ rfl⟩
noncomputable def Za8:V->Bool
 |.non=>true
 |.bl _=>true
 |.int _=>true
 |.str _=>true
 |_=>false
noncomputable def eqV:V->V->Bool
 |.non,.non=>true
 |.bl a,.bl b=>a==b
 |.bl a,.int b=>(if a then 1 else 0)==b
 |.int a,.bl b=>a==(if b then 1 else 0)
 |.int a,.int b=>a==b
 |.str a,.str b=>a==b
 |_,_=>false
theorem _iB(w:RelV y u)(j:RelV x v)(m:Za8 y=true)(z:Za8 x=true):SeqAt.EqAt A s u v (eqV y x):=by
 cases y with
 |non=>
  cases w
  cases x with
  |non=>cases j;exact SeqAt.EqAt.same _
  |bl b=>cases j;exact SeqAt.EqAt.none_bool b
  |int b=>obtain⟨t,rfl⟩:=j;exact SeqAt.EqAt.none_int b t
  |str b=>obtain⟨t,rfl⟩:=j;exact SeqAt.EqAt.none_str b t
  |_=>exact absurd (show false=true from z) Y05
 |bl a=>
  cases w
  cases x with
  |non=>cases j;exact SeqAt.EqAt.bool_none a
  |bl b=>cases j;exact SeqAt.EqAt.bool_bool a b
  |int b=>obtain⟨t,rfl⟩:=j;exact SeqAt.EqAt.bool_int a b t
  |str b=>obtain⟨t,rfl⟩:=j;exact SeqAt.EqAt.bool_str a b t
  |_=>exact absurd (show false=true from z) Y05
 |int a=>
  obtain⟨l,rfl⟩:=w
  cases x with
  |non=>cases j;exact SeqAt.EqAt.int_none a l
  |bl b=>cases j;exact SeqAt.EqAt.int_bool a l b
  |int b=>obtain⟨t,rfl⟩:=j;exact SeqAt.EqAt.int_int a l b t
  |str b=>obtain⟨t,rfl⟩:=j;exact Y3K a l b t
  |_=>exact absurd (show false=true from z) Y05
 |str a=>
  obtain⟨l,rfl⟩:=w
  cases x with
  |non=>cases j;exact SeqAt.EqAt.str_none a l
  |bl b=>cases j;exact SeqAt.EqAt.str_bool a l b
  |int b=>obtain⟨t,rfl⟩:=j;exact Y3L a l b t
  |str b=>obtain⟨t,rfl⟩:=j;exact SeqAt.EqAt.str_str a l b t
  |_=>exact absurd (show false=true from z) Y05
 |_=>exact absurd (show false=true from m) Y05
def eqU(x:V)(u:Value):Bool:=match u with
 |.none=>eqV .non x
 |.bool b=>eqV (.bl b) x
 |.int i _=>eqV (.int i) x
 |.str z _=>eqV (.str z) x
 |_=>false
theorem _iz(r:RelV y u)(f:Za8 y=true):eqU x u=eqV y x:=by
 cases y with
 |non=>cases r;rfl
 |bl b=>cases r;rfl
 |int i=>obtain⟨t,rfl⟩:=r;rfl
 |str z=>obtain⟨t,rfl⟩:=r;rfl
 |_=>exact absurd (show false=true from f) Y05
theorem _9D:∀{j:List V} {l:List Value},Vals j l->j.all Za8=true->l.any (eqU x)=j.any λy=>eqV y x
 |_,_,.nil,_=>rfl
 |y::j,u::l,.cons r t,f=>by
  rw[Y13,Y0r]at f
  rw[Y1l,Y1l,_iz r f.1,_9D t f.2]
theorem _6p(z:RelV x v)(m:Za8 x=true):∀{l:List V} {w:List Value},Vals l w->l.all Za8=true->∀u∈w,SeqAt.EqAt A s u v (eqU x u)
 |_,_,.nil,_=>λu j=>by cases j
 |y::l,u::w,.cons r t,f=>λg j=>by
  rw[Y13,Y0r]at f
  rcases Y06.mp j with rfl|j
  .rw[_iz r f.1];exact _iB r z f.1 m
  .exact _6p z m t f.2 g j
def inV(x:V)(j:List V):Bool:=j.any λy=>eqV y x
def rIn(K:Y00)(l:Bool):R2:=λx y H Q=>∃p j,y=.ref p/\(SqL K H p j\/SqT K H p j)/\Za8 x=true/\j.all Za8=true/\Q (.bl (if l then !inV x j else inV x j)) H
theorem _8U:OpR X (compareOp .In) (rIn X.K false):=by
 intro e s L H x y v u Q I g c h
 obtain⟨p,N,rfl,l,d,fs,q⟩:=h
 cases c
 rcases l with l|l
 .obtain⟨j,r,z,f⟩:=I.list l
  refine SeqAt.in_listAt (eqU x) z.isList (λw m=>_6p g d r fs w (by simpa using m)) ⟨.bl _,H,I,rfl,?_⟩
  rw[show j.toArray.any (eqU x)=j.any (eqU x) by simp,_9D r fs]
  exact q
 .obtain⟨j,r,z,f⟩:=I.tuple l
  refine SeqAt.in_tupleAt (eqU x) z (λw m=>_6p g d r fs w (by simpa using m)) ⟨.bl _,H,I,rfl,?_⟩
  rw[show j.toArray.any (eqU x)=j.any (eqU x) by simp,_9D r fs]
  exact q
theorem _4k:OpR X (compareOp .NotIn) (rIn X.K true):=by
 intro e s L H x y v u Q I g c h
 obtain⟨p,N,rfl,l,d,fs,q⟩:=h
 cases c
 rcases l with l|l
 .obtain⟨j,r,z,f⟩:=I.list l
  refine SeqAt.notIn_listAt (eqU x) z.isList (λw m=>_6p g d r fs w (by simpa using m)) ⟨.bl _,H,I,rfl,?_⟩
  rw[show j.toArray.any (eqU x)=j.any (eqU x) by simp,_9D r fs]
  exact q
 .obtain⟨j,r,z,f⟩:=I.tuple l
  refine SeqAt.notIn_tupleAt (eqU x) z (λw m=>_6p g d r fs w (by simpa using m)) ⟨.bl _,H,I,rfl,?_⟩
  rw[show j.toArray.any (eqU x)=j.any (eqU x) by simp,_9D r fs]
  exact q
theorem _51:Z4c X (.builtin "len") (fun g H Q=>∃p l,g=[.ref p]/\(SqL X.K H p l\/SqT X.K H p l)/\Q (.int l.length) H):=by
 intro f s e H g L Q I r h
 obtain⟨p,l,rfl,w,q⟩:=h
 obtain⟨u,rfl,d⟩:=_5U r
 cases d
 have N:=_cd
 rcases w with w|w
 .obtain⟨y,z,m,c⟩:=I.list w
  have j:=z.length
  exact Calls.call_len_list m.isList (by simp only[Y0f]<;>lia) ⟨.int l.length,H,I.tok _,⟨s.toks+1,by rw[Y0f,j]⟩,q⟩
 .obtain⟨y,z,m,c⟩:=I.tuple w
  have j:=z.length
  exact len_tuple m (by simp only[Y0f]<;>lia) ⟨.int l.length,H,I.tok _,⟨s.toks+1,by rw[Y0f,j]⟩,q⟩
theorem _cJ:Z4c X (.builtin "len") (fun j H Q=>∃z,j=[.str z]/\z.length<=sizeLine/\Q (.int z.length) H):=by
 intro l s w H j y Q I r h
 obtain⟨z,rfl,m,q⟩:=h
 obtain⟨u,rfl,t,rfl⟩:=_5U r
 have g:=_cd
 exact len_str (by lia) ⟨.int z.length,H,I.tok _,⟨_,rfl⟩,q⟩
theorem _8f:Z4c X (.type "list") (fun R H Q=>∃p y,R=[.ref p]/\(SqL X.K H p y\/SqT X.K H p y)/\∀l,H l=none->Q (.ref l) (upd H l (.lst y))):=by
 intro U s W H R Z Q I r h
 obtain⟨p,y,rfl,g,q⟩:=h
 obtain⟨u,rfl,Y⟩:=_5U r
 cases Y
 have d:∀(j:List Value),Vals y j->y.length<=sizeLine->∀(w:Heap)(z:Nat),(∀b T,s.heap.get? b=some T->w.get? b=some T)->
   w.get? s.heap.objs.size=some {cls:=.type "list",dict:=none,data:=.seq j.toArray z,slots:=#[]}->EP X U W Q (.ref s.heap.objs.size) {s with heap:=w}:=fun j m c w z f e=>
  ⟨.ref s.heap.objs.size,_,I.laid (t':=s.toks) f (Y09 _) (show ObjOk X.prog X.w _ w _ (.lst y)from⟨c,j,z,m,e⟩),rfl,q _ (I.hok.fresh (Y09 _))⟩
 rcases g with g|g
 .obtain⟨j,m,N,c⟩:=I.list g
  have L:=m.length
  obtain⟨o,O,P,n,hd⟩:=N.isList
  exact call_list_seq p (.inl rfl) O P hd (λw z f e=>d j m c w z f e) (by simp only[Y0f]<;>lia)
 .obtain⟨j,m,N,c⟩:=I.tuple g
  have L:=m.length
  obtain⟨o,O,P,n,hd⟩:=N
  exact call_list_seq p (.inr rfl) O P hd (λw z f e=>d j m c w z f e) (by simp only[Y0f]<;>lia)
theorem _bw:Z4c X (.type "tuple") (fun d H Q=>∃p w,d=[.ref p]/\((SqL X.K H p w/\∀l,H l=none->Q (.ref l) (upd H l (.tup w)))\/(SqT X.K H p w/\Q (.ref p) H))):=by
 intro c s f H d U Q I r h
 obtain⟨p,w,rfl,h⟩:=h
 obtain⟨u,rfl,P⟩:=_5U r
 cases P
 rcases h with⟨z,q⟩|⟨z,q⟩
 .obtain⟨j,m,g,L⟩:=I.list z
  have N:=m.length
  refine call_tuple_list g.isList (λy R=>?_) (by simp only[Y0f]<;>lia)
  have O:Inv X c f H {s with heap:=y}:=I.kept (t':=s.toks) R
  have T:Inv X c f (upd H y.objs.size (.tup w)) {s with heap:=y.push {cls:=.type "tuple",data:=.seq j.toArray} }:=
   O.laid (t':=s.toks) (λb o e=>Y03 _ e) (Y09 _) (show ObjOk X.prog X.w _ _ _ (.tup w)from⟨L,j,m,IsTup.new _ _,_,Y0d _ rfl,rfl⟩)
  exact⟨.ref y.objs.size,_,T,rfl,q _ (O.hok.fresh (Y09 _))⟩
 .obtain⟨j,m,g,L⟩:=I.tuple z
  exact call_tuple_same g ⟨.ref p,H,I,rfl,q⟩
def tyV(K:Y00)(T:String)(x:V)(H:Hp):Prop:=match x with
 |.str _=>T="str"
 |.int _=>T="int"
 |.ref p=>(T="list"/\∃l,SqL K H p l)\/(T="tuple"/\∃o,K.lookup p=some o/\o.cls=.type "tuple"/\o.dict=none)\/
   (T="dict"/\((∃j,H p=some (.dK j))\/∃j,H p=some (.dT j)))\/(T="set"/\∃S n,H p=some (.set S n))
 |_=>False
theorem _i0(I:Inv X pz σ H s)(r:RelV x v)(ty:tyV X.K T x H):
  s.TypeIs v T/\∀a,v=.ref a->∃y,s.heap.get? a=some y/\y.dict=none:=by
 cases x with
 |str z=>
  obtain⟨t,rfl⟩:=r
  cases(show T="str" from ty)
  exact⟨typeIs_str s z t,λ_ e=>nomatch e⟩
 |int i=>
  obtain⟨t,rfl⟩:=r
  cases(show T="int" from ty)
  exact⟨typeIs_int s i t,λ_ e=>nomatch e⟩
 |ref p=>
  cases r
  rcases ty with⟨rfl,q,g⟩|⟨rfl,o,j,d,hd⟩|⟨rfl,j⟩|⟨rfl,S,n,j⟩
  .obtain⟨f,_,m,_⟩:=I.list g
   refine⟨m.isList.typeIs,λa e=>?_⟩
   cases e
   obtain⟨o,n,e,c,hd,_⟩:=m
   exact⟨o,e,hd⟩
  .refine⟨⟨o,I.kIn p o j,d⟩,λa e=>?_⟩
   cases e
   exact⟨o,I.kIn _ o j,hd⟩
  .have z:∃o,s.heap.get? p=some o/\o.ExactDict:=by
    rcases j with⟨u,j⟩|⟨u,j⟩
    .obtain⟨_,_,_,_,o,_,_,e,l,_⟩:=I.hok p _ j
     exact⟨o,e,l⟩
    .obtain⟨_,_,_,_,o,_,_,e,l,_⟩:=I.hok p _ j
     exact⟨o,e,l⟩
   obtain⟨o,e,l⟩:=z
   refine⟨⟨o,e,l.1⟩,λa w=>?_⟩
   cases w
   exact⟨o,e,l.2.1⟩
  .obtain⟨o,_,_,_,e,l,_⟩:=I.hok p _ j
   refine⟨⟨o,e,l.1⟩,λa w=>?_⟩
   cases w
   exact⟨o,e,l.2.1⟩
 |_=>exact Y0U ty
def tBM0(K:Y00)(T:String)(r:V->List V->Hp->VK->Prop)(to:TE):TE:=λl H Q=>to l H λx j=>tyV K T x j/\r x [] j Q
def tBM(K:Y00)(T:String)(r:V->List V->Hp->VK->Prop)(to:TE)(t:TA):TE:=λj H Q=>to j H λx l=>tyV K T x l/\t j l λu w=>r x u w Q
variable{o e:Expr}{es:List Expr}{to:TE}{t:TA}{name:Str}{apos cpos:Pos}{T id:String}{r:V->List V->Hp->VK->Prop}
theorem _lz(d:PlainAttrs T)(u:Slot T name id)(w:typeOf (.builtin id)=pure (.type "method_descriptor"))(c:MtR X id r)(f:PE X o to)
  (j:attributeBase o name X.env (eval o X.env)=eval o X.env:=by rfl)(l:(apos.endLine==cpos.line)=true:=by rfl):PE X (.Call (.Attribute o name apos) [] [] cpos) (tBM0 X.K T r to):=by
 intro y s z H Q I h
 refine wpAny_Call_method0_late j l (thn (f y s z H _ I h) λv q ⟨x,p,m,g,ty,L⟩=>?_)
 obtain⟨N,O⟩:=_i0 m g ty
 exact⟨T,id,d,u,w,N,O,Y3f rfl (PySem.evalArgs_none (c y q z p x [] v [] Q m g .nil L))⟩
theorem _nF(q:PlainAttrs T)(w:Slot T name id)(z:typeOf (.builtin id)=pure (.type "method_descriptor"))(p:MtR X id r)(L:PE X o to)(N:PA X (e::es) t)
  (l:attributeBase o name X.env (eval o X.env)=eval o X.env:=by rfl)
  (y:((backTo cpos (starEach (e::es) X.env)).all (λx=>!x.1)&&(backToKw cpos (keywordEach [] X.env)).all (λx=>x.1.isSome)
   &&decide ((e::es).length+([]:List Keyword).length+(if([]:List Keyword).isEmpty then 0 else 1)<30))=true:=by rfl)
  (u:(apos.endLine==cpos.line)=true:=by rfl)(O:starEach (e::es) X.env=(false,eval e X.env)::starEach es X.env:=by rfl)(j:(backTo cpos (starEach es X.env)).any (·.1)=false:=by rfl):
  PE X (.Call (.Attribute o name apos) (e::es) [] cpos) (tBM X.K T r to t):=by
 intro m s g H Q I h
 refine wpAny_Call_method_late l y u rfl (thn (L m s g H _ I h) λv P ⟨x,R,d,c,ty,U⟩=>?_)
 obtain⟨W,Y⟩:=_i0 d c ty
 refine⟨T,id,q,w,z,W,Y,?_⟩
 have f:=N cpos m P g R _ d U
 rw[O]at f ⊢
 refine Y3f (by show(false||(backTo cpos (starEach es X.env)).any (·.1))=false;rw[j]<;>rfl) (Calls.evalArgs_plain ?_)
 exact thn f λZ A ⟨B,C,D,E,F⟩=>p m A g C x B v Z Q D c E F
/- xs.append(e),list.index on a module's tuple .. are MtR facts of 06m -/
end
end L2
namespace L2
open PySem PySem.Spec PyProof.Rows
def MtM(X:Cx)(id:String)(r:V->List V->Hp->VK->Prop):Prop:=
 ∀(j:List (Addr×Obj))(s:Shared)(l:St)(H:Hp)(x:V)(u:List V)(v:Value)(w:List Value)(Q:VK),Inv X j l H s->RelV x v->Vals u w->r x u H Q->
  wpAny (model X.prog X.w) X.A (call (.builtin id) (v::w)) (EP X j l Q) X.xe s
theorem Vals.one:∀{x:V} {j:List Value},Vals [x] j->∃u,j=[u]/\RelV x u
 |_,_,.cons r .nil=>⟨_,rfl,r⟩
theorem Vals.zero:∀{j:List Value},Vals [] j->j=[]
 |_,.nil=>rfl
theorem Vals.dropLast{xs:List V}{j:List Value}(h:Vals xs j):Vals xs.dropLast j.dropLast:=by
 induction h with
 |nil=>exact .nil
 |cons r t l=>
  cases t with
  |nil=>exact .nil
  |cons q u=>exact .cons r l
theorem _eM{j:Type}(l:List j):l.eraseIdx (l.length - 1)=l.dropLast:=by
 induction l with
 |nil=>rfl
 |cons a r u=>
  cases r with
  |nil=>rfl
  |cons b r=>
   have e:(a::b::r).length - 1=((b::r).length - 1)+1:=by
    have w:(a::b::r).length=r.length+2:=rfl
    have y:(b::r).length=r.length+1:=rfl
    lia
   rw[e,List.eraseIdx_cons_succ,u]
   all_goals rfl
section
variable{X:Cx}{pz:List (Addr×Obj)}{σ:St}{H:Hp}{s:Shared}{l b:Addr}{xs ys zs:List V}
theorem Inv.lset{w j:List Value}{n:Nat}{f:Array Value->Array Value}{y:Nat}(I:Inv X pz σ H s)(z:H l=some (.lst xs))
  (e:s.heap.get? l=some {cls:=.type "list",data:=.seq w.toArray n})(m:f w.toArray=j.toArray)(g:Vals ys j)(d:ys.length<=sizeLine):
  Inv X pz σ (upd H l (.lst ys)) {s with heap:=s.heap.update l (Y2O f),toks:=y}:=by
 have q:=PySem.IsL.update e f
 rw[m]at q
 refine I.write (x:=l) (e:=l) (by rw[z];exact trivial) (.inl rfl) (λp u c r=>(Y27 s.heap (Y2O f) (Y2Z c)).trans r) ⟨_,q⟩ ?_
 exact⟨d,j,_,g,q⟩
theorem Inv.lnew(I:Inv X pz σ H s)(j:Vals ys its)(u:ys.length<=sizeLine):
  Inv X pz σ (upd H s.heap.objs.size (.lst ys)) {s with heap:=s.heap.push {cls:=.type "list",data:=.seq its.toArray},toks:=t'}:=
 I.laid (λ_ _ q=>Y03 _ q) (Y09 _) ⟨u,its,0,j,Y0d _ rfl⟩
theorem Inv.fresh(I:Inv X pz σ H s):H s.heap.objs.size=none:=I.hok.fresh (Y09 _)
theorem Inv.lstM(I:Inv X pz σ H s)(u:H l=some (.lst xs)):xs.length<=sizeLine/\∃(j:List Value) (n:Nat),Vals xs j/\xs.length=j.length/\s.heap.get? l=some {cls:=.type "list",data:=.seq j.toArray n}:=by
 obtain⟨z,j,n,r,e⟩:=I.hok l _ u
 exact⟨z,j,n,r,r.length,e⟩
theorem _hn(h:n<=sizeLine):Y1Z n=false:=by
 unfold Y1Z
 exact decide_eq_false (by lia)
end
section
variable{X:Cx}
def Zj1:V->List V->Hp->VK->Prop:=λx u H Q=>∃l j y,x=.ref l/\u=[y]/\H l=some (.lst j)/\j.length<sizeLine/\Q .non (upd H l (.lst (j++[y])))
theorem _cb:MtM X "list.append" Zj1:=by
 intro c s f H x p v L Q I m g h
 obtain⟨l,N,y,rfl,rfl,w,O,q⟩:=h
 cases m
 obtain⟨u,rfl,d⟩:=g.one
 obtain⟨z,j,n,r,P,e⟩:=I.lstM w
 refine call_meets F.slot_list_append ⟨_,e,rfl⟩ F.entry_list_append (F.args_list_append_2 _ _) (PySem.list_append l j.toArray n u (by rw[Y0f];lia)) ⟨e,?_⟩
 refine⟨.non,_,I.lset (j:=j++[u]) w e (by simp) (r.append (.cons d .nil)) ?_,rfl,q⟩
 rw[Y0i,Y0T]
 lia
def Zj0:V->List V->Hp->VK->Prop:=λx w H Q=>∃l b j u,x=.ref l/\w=[.ref b]/\H l=some (.lst j)/\H b=some (.lst u)/\j.length+u.length<=sizeLine/\Q .non (upd H l (.lst (j++u)))
theorem _fQ:MtM X "list.extend" Zj0:=by
 intro R s T H x U v W Q I d c h
 obtain⟨l,b,Y,Z,rfl,rfl,g,f,A,q⟩:=h
 cases d
 obtain⟨u,rfl,p⟩:=c.one
 cases p
 obtain⟨z,w,n,r,B,e⟩:=I.lstM g
 obtain⟨C,j,L,N,O,P⟩:=I.lstM f
 have m:w.toArray.size+j.toArray.size<=sizeLine:=by rw[Y0f,Y0f];lia
 have y:¬(!w.toArray.isEmpty&&Y1Z (w.toArray.size+j.toArray.size))=true:=by
  rw[_hn m,Y3A]
  exact Y05
 refine call_meets F.slot_list_extend ⟨_,e,rfl⟩ F.entry_list_extend (F.args_list_extend_2 _ _)
  (AutoSeq1.list_extend_list_list_0 l w.toArray n b j.toArray L y (by rw[Y0f];lia) (by lia)) ⟨e,P,?_⟩
 refine⟨.non,_,I.lset (j:=w++j) g e (by simp) (r.append N) ?_,rfl,q⟩
 rw[Y0i]
 lia
def rPop:V->List V->Hp->VK->Prop:=λx u H Q=>∃l j y,x=.ref l/\u=[]/\H l=some (.lst j)/\j[j.length - 1]?=some y/\Q y (upd H l (.lst j.dropLast))
theorem _lP:MtM X "list.pop" rPop:=by
 intro O s P H x R v T Q I d c h
 obtain⟨l,U,y,rfl,rfl,g,f,q⟩:=h
 cases d
 have w:=c.zero
 subst w
 obtain⟨z,j,n,r,p,e⟩:=I.lstM g
 obtain⟨u,L,N⟩:=r.get f
 have m:j.toArray[j.toArray.size - 1]?=some u:=by
  show j.toArray[j.length - 1]?=some u
  rw[<-Y2h,<-p]
  exact L
 refine call_meets F.slot_list_pop ⟨_,e,rfl⟩ F.entry_list_pop (F.args_list_pop_1 _) (MeetsSeq.list_pop_last l j.toArray n u m (by rw[Y0f];lia)) ⟨e,?_⟩
 refine⟨y,_,I.lset (j:=j.dropLast) g e ?_ r.dropLast ?_,N,q⟩
 .show j.toArray.eraseIdxIfInBounds (j.toArray.size - 1)=j.dropLast.toArray
  rw[Y0f,List.eraseIdxIfInBounds_toArray,_eM]
 .rw[List.length_dropLast]
  lia
def rCat:R2:=λx y H Q=>∃l b j u,x=.ref l/\y=.ref b/\H l=some (.lst j)/\H b=some (.lst u)/\j.length+u.length<=sizeLine/\∀p,H p=none->Q (.ref p) (upd H p (.lst (j++u)))
theorem _lH:OpR X (binaryOp .Add) rCat:=by
 intro O s P H x y v u Q I m g h
 obtain⟨l,b,R,T,rfl,rfl,d,c,U,q⟩:=h
 cases m
 cases g
 obtain⟨z,w,n,r,W,e⟩:=I.lstM d
 obtain⟨Y,j,Z,f,p,L⟩:=I.lstM c
 refine PySem.P.add_list e L ?_ (by rw[Y0f,Y0f];lia)
 have N:w.toArray++j.toArray=(w++j).toArray:=by simp
 rw[N]
 exact⟨.ref _,_,I.lnew (t':=s.toks) (r.append f) (by rw[Y0i];lia),rfl,q _ I.fresh⟩
end
section
variable{prog:Program}{w:World}{A:Around}{E:Value->Shared->Prop}{s:Shared}
set_option maxRecDepth 100000 in
end
section
variable{X:Cx}
end
end L2
namespace L2
open PySem PySem.Spec PyProof.Rows
section
variable{κ:Type} [DecidableEq κ]
noncomputable def valV(j:List (κ×V))(k:κ):Option V:=(j.find? λl=>decide (l.1=k)).map (·.2)
noncomputable def putK(j:List (κ×V))(k:κ)(v:V):List (κ×V):=
 if(j.any λl=>decide (l.1=k))=true then j.map (λl=>if l.1=k then(l.1,v)else l)else j++[(k,v)]
theorem _aT{k:κ}(e:p.1=k):valV (p::r) k=some p.2:=by simp[valV,Y1s,e]
theorem _aU{k:κ}(e:¬p.1=k):valV (p::r) k=valV r k:=by simp[valV,Y1s,e]
theorem RelO.isSome_eq(r:RelO o u):o.isSome=u.isSome:=by
 cases o with
 |none=>cases u with
  |none=>rfl
  |some _=>exact(show False from r).elim
 |some _=>cases u with
  |none=>exact(show False from r).elim
  |some _=>rfl
theorem KV.val(r:KV kvs vs)(k:κ):RelO (valV kvs k) (valueAt vs k):=by
 unfold KV at r
 induction r with
 |nil=>exact Y1q
 | @cons p q m j h t w=>
  obtain⟨u,y⟩:=h
  by_cases e:p.1=k
  .have l:q.1=k:=u.symm.trans e
   have b:valueAt (q::j) k=some q.2:=by simp[valueAt,Y1s,l]
   rw[_aT e,b];exact y
  .have l:¬q.1=k:=λz=>e (u.trans z)
   have b:valueAt (q::j) k=valueAt j k:=by simp[valueAt,Y1s,l]
   rw[_aU e,b];exact w
theorem KV.any(r:KV kvs vs)(k:κ):(kvs.any λj=>decide (j.1=k))=vs.any λj=>decide (j.1=k):=by
 unfold KV at r
 induction r with
 |nil=>rfl
 |cons h t l=>rw[Y1l,Y1l,l,h.1]
theorem KV.repl(r:KV kvs vs)(k:κ)(w:RelV y u):
  KV (kvs.map λj=>if j.1=k then(j.1,y)else j) (vs.map λj=>if j.1=k then(j.1,u)else j):=by
 unfold KV at r ⊢
 induction r with
 |nil=>exact .nil
 | @cons p q d c h t m=>
  rw[Y0a,Y0a]
  refine .cons ?_ m
  obtain⟨l,g⟩:=h
  by_cases e:p.1=k
  .rw[if_pos e,if_pos (l.symm.trans e)];exact⟨l,w⟩
  .rw[if_neg e,if_neg (λz=>e (l.trans z))];exact⟨l,g⟩
theorem KV.put(r:KV kvs vs)(k:κ)(j:RelV y u):KV (putK kvs k y) (stored vs k u):=by
 unfold putK stored
 rw[r.any k]
 by_cases e:(vs.any λl=>decide (l.1=k))=true
 .rw[if_pos e,if_pos e];exact r.repl k j
 .rw[if_neg e,if_neg e];exact Paired.snoc r ⟨rfl,j⟩
theorem KV.length(r:KV kvs vs):kvs.length=vs.length:=Paired.length r
end
theorem _ce{k:Key}(r:RelV (kV k) u):(Z0M P w).is k u=true:=by
 cases k with
 |inl i=>obtain⟨t,e⟩:=(show∃t,u=Y3J i t from r);subst e;exact _dk P w i t
 |inr x=>obtain⟨t,e⟩:=(show∃t,u=Y1z x t from r);subst e;exact _dj P w x t
theorem _cj:∀{j:List Key} {l:List Value},Vals (j.map kV) l->ItemsAre (Z0M P w) j l
 |[],_,r=>by rw[Y0B]at r;cases r;exact .nil
 |k::j,_,r=>by
  rw[Y0a]at r
  cases r with
  |cons h t=>exact .cons (_ce h) (_cj t)
abbrev KT(H:Hp):List (List Key×V)->List (List Key×Addr×Value)->Prop:=Paired λp q=>p.1=q.1/\H q.2.1=some (.tup (p.1.map kV))/\RelV p.2 q.2.2
theorem KT.val(r:KT H kvs xs)(k:List Key):RelO (valV kvs k) ((atKey xs k).map (·.2)):=by
 induction r with
 |nil=>exact Y1q
 | @cons p q m j h t w=>
  obtain⟨u,_,y⟩:=h
  by_cases e:p.1=k
  .have l:q.1=k:=u.symm.trans e
   have b:atKey (q::j) k=some q.2:=by simp[atKey,Y1s,l]
   rw[_aT e,b];exact y
  .have l:¬q.1=k:=λz=>e (u.trans z)
   have b:atKey (q::j) k=atKey j k:=by simp[atKey,Y1s,l]
   rw[_aU e,b];exact w
section
variable{P:Program}{w:World}{H:Hp}{h:Heap}{a:Addr}
theorem _kS(ok:HOk P w H h)(e:Rd H a u):ObjOk P w H h a u:=e.ok ok
theorem _dy(ok:HOk P w H h)(e:Rd H a (.dK kvs)):kvs.length<=sizeLine/\(a==sysModules)=false/\∃j,KV kvs j/\h.DictOf (Z0M P w) a j:=
 show ObjOk P w H h a (.dK kvs)from _kS ok e
theorem _mi(ok:HOk P w H h)(e:H a=some (.dK kvs)):kvs.length<=sizeLine/\(a==sysModules)=false/\∃j,KV kvs j/\h.DictOf (Z0M P w) a j:=_dy ok (.inl e)
theorem _e4(ok:HOk P w H h)(e:H a=some (.tup (ks.map kV))):(tupleKind (Z0M P w)).is h ks a:=by
 obtain⟨_,j,r,⟨o,l,u,n,y⟩,_⟩:=(show ObjOk P w H h a (.tup (ks.map kV))from ok a _ e)
 exact⟨o,j.toArray,n,l,u,y,by simpa using _cj r⟩
theorem _hH(ok:HOk P w H h)(e:Rd H a (.dT kvs)):kvs.length<=sizeLine/\(a==sysModules)=false/\
  ∃u,KT H kvs u/\h.DictOfH (tupleKind (Z0M P w)) a u:=by
 obtain⟨z,y,u,r,o,d,c,f,L,N,O,R⟩:=(show ObjOk P w H h a (.dT kvs)from _kS ok e)
 refine⟨z,y,u,r,o,d,c,f,L,N,O,λx j=>?_,R⟩
 have all:∀{l:List (List Key×V)} {m:List (List Key×Addr×Value)},KT H l m->∀x∈m,(tupleKind (Z0M P w)).is h x.1 x.2.1:=by
  intro l m q
  induction q with
  |nil=>intro x j;exact nomatch j
  | @cons p q U W g t T=>
   intro x j
   rcases Y06.mp j with e|j
   .subst e
    exact _e4 ok (by rw[<-g.1];exact g.2.1)
   .exact T x j
 exact all r x j
end
def DGet(H:Hp)(a:Addr)(y:V)(r:Option V):Prop:=
 (∃j k,Rd H a (.dK j)/\y=kV k/\r=valV j k)\/∃j k b,Rd H a (.dT j)/\y=.ref b/\H b=some (.tup (k.map kV))/\r=valV j k
def DPut(H:Hp)(a:Addr)(y v:V)(l:Hp):Prop:=
 (∃j k,H a=some (.dK j)/\y=kV k/\j.length<sizeLine/\l=upd H a (.dK (putK j k v)))\/
 ∃j k b,H a=some (.dT j)/\y=.ref b/\H b=some (.tup (k.map kV))/\j.length<sizeLine/\l=upd H a (.dT (putK j k v))
theorem DGet.k{k:Key}(e:H a=some (.dK kvs)):DGet H a (kV k) (valV kvs k):=.inl ⟨kvs,k,.inl e,rfl,rfl⟩
section
variable{X:Cx}{pz:List (Addr×Obj)}{σ:St}{H:Hp}{s:Shared}{a:Addr}{y v:V}{u r:Value}{o:Option V}{A:Around}{E:Value->Shared->Prop}
theorem Inv.big(I:Inv X pz σ H s):sysModules<s.heap.objs.size:=by
 have h:mainGlobals<s.heap.objs.size:=(I.mod.glob.keeps I.bk).lt
 exact Y2B (by decide) h
theorem _gz(P:A.units+1<cLine)(I:Inv X pz σ H s)(g:DGet H a y (some v))(N:RelV y u)(h:∀m O,Inv X pz σ H O->RelV v m->Q m O):
  wpAny (model X.prog X.w) A (getItem (.ref a) u) Q E s:=by
 rcases g with⟨d,k,e,c,l⟩|⟨d,k,b,e,c,R,l⟩
 .subst c
  obtain⟨z,hd,T,j,f⟩:=_dy I.hok e
  obtain⟨m,q,w⟩:=RelO.some_of (v:=v) (o:=valueAt T k) (by rw[l];exact j.val k)
  exact wpAny_getItem_of (_ce N) f.mapOf q (h m _ (I.tok _) w)
 .subst c
  cases(show u=Y0O b from N)
  obtain⟨z,hd,U,j,f⟩:=_hH I.hok e
  obtain⟨m,q,w⟩:=RelO.some_of (v:=v) (o:=(atKey U k).map (·.2)) (by rw[l];exact j.val k)
  obtain⟨p,W,L⟩:=Y1G.mp q
  refine wpAny_getItem_heap (tupleKind_room_in1 P) (_e4 I.hok R) f W ?_
  rw[L]
  exact h m _ (I.tok _) w
theorem d_in(p:A.units+1<cLine)(I:Inv X pz σ H s)(g:DGet H a y o)(c:RelV y u)(h:∀f,Inv X pz σ H f->Q (.bool o.isSome) f):
  wpAny (model X.prog X.w) A (compareOp .In u (.ref a)) Q E s:=by
 rcases g with⟨w,k,e,m,l⟩|⟨w,k,b,e,m,L,l⟩
 .subst m
  obtain⟨z,hd,N,j,d⟩:=_dy I.hok e
  refine wpAny_in_of (_ce c) hd d.mapOf ?_
  rw[<-(j.val k).isSome_eq,<-l]
  exact h _ (I.tok _)
 .subst m
  cases(show u=Y0O b from c)
  obtain⟨z,hd,O,j,d⟩:=_hH I.hok e
  refine wpAny_in_heap (tupleKind_room_in1 p) (_e4 I.hok L) hd d ?_
  have q:=(j.val k).isSome_eq
  rw[Y2P]at q
  rw[<-q,<-l]
  exact h _ (I.tok _)
theorem _ke(p:A.units+1<cLine)(I:Inv X pz σ H s)(g:DGet H a y o)(c:RelV y u)(h:∀f,Inv X pz σ H f->Q (.bool (!o.isSome)) f):
  wpAny (model X.prog X.w) A (compareOp .NotIn u (.ref a)) Q E s:=by
 rcases g with⟨w,k,e,m,l⟩|⟨w,k,b,e,m,L,l⟩
 .subst m
  obtain⟨z,hd,N,j,d⟩:=_dy I.hok e
  refine wpAny_notIn_of (_ce c) hd d.mapOf ?_
  rw[<-(j.val k).isSome_eq,<-l]
  exact h _ (I.tok _)
 .subst m
  cases(show u=Y0O b from c)
  obtain⟨z,hd,O,j,d⟩:=_hH I.hok e
  refine wpAny_notIn_heap (tupleKind_room_in1 p) (_e4 I.hok L) hd d ?_
  have q:=(j.val k).isSome_eq
  rw[Y2P]at q
  rw[<-q,<-l]
  exact h _ (I.tok _)
theorem _iC(z:kvs.length<=sizeLine)(hd:(a==sysModules)=false)(j:KV kvs vs)(l:h'.DictOf (Z0M P w) a vs):
  ObjOk P w H' h' a (.dK kvs):=⟨z,hd,vs,j,l⟩
end
section
variable{X:Cx}{pz:List (Addr×Obj)}{σ:St}{H:Hp}{s:Shared}{a:Addr}{kvs:List (Key×V)}{k:Key}{u:Value}{A:Around}{E:Value->Shared->Prop}
theorem _o7(I:Inv X pz σ H s)(e:Rd H a (.dK kvs))(h:∀t l,Inv X pz σ H l->Q (.int kvs.length t) l):wpAny (model X.prog X.w) A (call (.builtin "len") [.ref a]) Q E s:=by
 obtain⟨z,hd,y,j,w⟩:=_dy I.hok e
 refine call_len_dict hd w (by rw[<-j.length];rw[sizeLine_eq]at z;lia) ?_
 rw[<-j.length]
 exact h _ _ (I.tok _)
end
noncomputable def NoSl(i:Expr):Prop:=∀j l,subscripted i false j l=operate [j,l] (getItem j l)
theorem _iQ{j:Program}{w:World}{A:Around}{E:Value->Shared->Prop}{s:Shared}{d:Env}{u l:Expr}{p:Pos}{T id:String}{Q:Value->Shared->Prop}
  (L:typeLookup (.type T) "__getitem__"=pure (some (.builtin id)))(N:NoSl l)
  (h:wpAny (model j w) A (eval u d) (λo m=>wpAny (model j w) A (eval l d) (λi y=>y.TypeIs o T/\wpAny (model j w) A (getItem o i) Q E y) E m) E s):
  wpAny (model j w) A (eval (.Subscript u l p) d) Q E s:=by
 refine Subscript_ (wpAny_mono h (λo m f=>wpAny_mono f (λi y z=>?_) λ_ _ x=>x) λ_ _ x=>x)
 obtain⟨e,z⟩:=z
 unfold subscriptTail
 refine wpAny_bind ?_
 rw[getitemInPython_of_ne e.not_modules]
 refine wpAny_bind (wpAny_specialOf e L ?_)
 have c:wpAny (model j w) A (subscripted l false o i) (λr g=>wpAny (model j w) A (letTemporaryGo u o r >>= λ_=>pure r) Q E g) E y:=by
  rw[N o i]
  exact wpAny_operating (wpAny_mono z (λr g q=>wpAny_bind (wpAny_letTemporaryGo (wpAny_pure q))) λ_ _ x=>x)
 first
  |exact wpAny_pure (wpAny_bind c)
  |exact wpAny_bind (wpAny_pure (wpAny_bind c))
  |exact wpAny_bind c
theorem _dA(I:Inv X pz σ H s)(g:DGet H a y o):s.TypeIs (.ref a) "dict":=by
 rcases g with⟨j,k,e,_,_⟩|⟨j,k,b,e,_,_,_⟩
 .obtain⟨_,_,u,_,l⟩:=_dy I.hok e
  exact l.typeIs
 .obtain⟨_,_,w,_,l⟩:=_hH I.hok e
  exact l.typeIs
section
variable{X:Cx}{o i e value:Expr}{pos pos' tpos:Pos}{td ty tv:TE}
end
section
variable{X:Cx}{pos:Pos}
end
def Zi2:List (TE×TE)->St->Hp->(List (V×V)->Hp->Prop)->Prop
 |[],_,H,Q=>Q [] H
 |(tk,tv)::r,σ,H,Q=>tk σ H λx j=>tv σ j λy l=>Zi2 r σ l λu w=>Q ((x,y)::u) w
abbrev VV:List (V×V)->List (Value×Value)->Prop:=Paired λp q=>RelV p.1 q.1/\RelV p.2 q.2
def PPs(X:Cx)(u:Pos)(l:List (Option Expr))(j:List Expr)(w:List (TE×TE)):Prop:=
 ∀(z:List (Addr×Obj))(s:Shared)(y:St)(H:Hp)(Q:List (V×V)->Hp->Prop),Inv X z y H s->Zi2 w y H Q->
  wpAny (model X.prog X.w) X.A (evalPairs (pairTrees l j X.env u)) (λd c=>∃m g,Inv X z y g c/\VV m d/\Q m g) X.xe s
theorem _jb:PPs X pos [] [] []:=λj s l H Q I h=>pairTrees_nil_walk ⟨[],H,I,.nil,h⟩
theorem _ha{X:Cx}{j:Pos}{k v:Expr}{g:List (Option Expr)}{d:List Expr}{c f:TE}{l:List (TE×TE)}(q:PE X k c)(r:PE X v f)(p:PPs X j g d l):
  PPs X j (some k::g) (v::d) ((c,f)::l):=λw s z H Q I h=>
 pairTrees_cons_walk (thn (q w s z H _ I h) λu e ⟨x,L,N,O,P⟩=>thn (r w e z L _ N P) λD R ⟨y,T,U,W,Y⟩=>
  thn (p w R z T _ U Y) λws E ⟨Z,A,B,m,C⟩=>⟨(x,y)::Z,A,B,.cons ⟨O,W⟩ m,C⟩)
structure M1 (X:Cx)(o:Expr)(m:Str)(apos:Pos)(e:Expr)(cpos:Pos):Prop where
 base:attributeBase o m X.env (eval o X.env)=eval o X.env
 few:((backTo cpos (starEach [e] X.env)).all (λx=>!x.1)&&(backToKw cpos (keywordEach [] X.env)).all (λx=>x.1.isSome)
  &&decide (([e]:List Expr).length+([]:List Keyword).length+(if([]:List Keyword).isEmpty then 0 else 1)<30))=true
 line:(apos.endLine==cpos.line)=true
 trees:backTo cpos (starEach [e] X.env)=[(false,eval e X.env)]
structure M2 (X:Cx)(o:Expr)(m:Str)(apos:Pos)(e f:Expr)(cpos:Pos):Prop where
 base:attributeBase o m X.env (eval o X.env)=eval o X.env
 few:((backTo cpos (starEach [e,f] X.env)).all (λx=>!x.1)&&(backToKw cpos (keywordEach [] X.env)).all (λx=>x.1.isSome)
  &&decide (([e,f]:List Expr).length+([]:List Keyword).length+(if([]:List Keyword).isEmpty then 0 else 1)<30))=true
 line:(apos.endLine==cpos.line)=true
 trees:backTo cpos (starEach [e,f] X.env)=[(false,eval e X.env),(false,eval f X.env)]
section
variable{X:Cx}{pz:List (Addr×Obj)}{σ:St}{H:Hp}{s:Shared}{a:Addr}{y d:V}{u r:Value}{o:Option V}{A:Around}{E:Value->Shared->Prop}
end
section
variable{X:Cx}{o e f:Expr}{apos cpos:Pos}{td ty tx:TE}
end
section
variable{X:Cx}{pz:List (Addr×Obj)}{σ:St}{H:Hp}{s:Shared}{a:Addr}{kvs:List (Key×V)}{A:Around}{E:Value->Shared->Prop}
theorem _hK(I:Inv X pz σ H s)(e:Rd H a (.dK kvs))(h:∀p u,H p=none->Inv X pz σ (upd H p (.dK kvs)) u->Q (.ref p) u):wpAny (model X.prog X.w) A (call (.type "dict") [.ref a]) Q E s:=by
 obtain⟨z,hd,g,j,y⟩:=_dy I.hok e
 refine kt_call_dict hd y (by rw[<-j.length];exact z) λd l m=>?_
 refine h _ _ (I.hok.fresh (Y09 _)) (I.laid (a:=s.heap.objs.size) (o:=.dK kvs) (t':=s.toks) (λb q w=>?_) (Y09 _) (_iC z (beq_eq_false_iff_ne.mpr (Y2Z (Y0p I.big))) j l))
 exact(m.2 b (Y0p (Y0g w))).trans (Y03 _ w)
end
section
variable{X:Cx}{pz:List (Addr×Obj)}{σ:St}{H:Hp}{s:Shared}{a:Addr}{y:V}{u:Value}{A:Around}{E:Value->Shared->Prop}
end
end L2
namespace Att
open PySem PySem.W PySem.Calls PyProof.Rows
theorem _9h:∀(j:List Int)(l:List Value),WellAll P h l (j.map WData.int)->IntsAre l j:=by
 intro j
 induction j with
 |nil=>
  intro l w
  rw[Y0B]at w
  cases w
  exact .nil
 |cons n j u=>
  intro l w
  rw[Y0a]at w
  cases w with
  |cons a b=>
   cases a
   exact .cons _ _ (u _ b)
theorem _fm{l:OpenLaw}{n:Nat}(N:l.most=some n){P:Params}{h:Heap}{j:List WData}{w:List Value}
  (y:l.row.toRowW.claim.pre j=true)(f:WellAll P h w j):
  ∃a e u,w=[Y0O a]/\j=[WData.list (u.map WData.int)]/\h.get? a=some {cls:=.type "list",data:=.seq e.toArray}/\IntsAre e u/\u.length<=n:=by
 have p:WShape.hasAll [] j [.list .int]=true:=(pre_splitW y).1
 have L:l.pre.holds [] {args:=j}=true:=(pre_splitW y).2
 obtain⟨d,r,rfl,O,R⟩:=hasAllW_cons p
 obtain rfl:=hasAllW_nil R
 obtain⟨A,rfl,T⟩:=hasW_list O
 obtain⟨u,rfl⟩:=items_int T
 have z:u.length<=n:=by
  unfold OpenLaw.pre at L
  have g:(WTm.not (.lt (.lit (.int (n:Int))) (.len (.arg 0)))).holds [] {args:=[.list (u.map .int)]}=true:=by
   have g:=(holds_andW L).1
   rw[N]at g
   exact g
  have c:=condW_of g (w_not (w_lt w_lit (w_len_list (w_arg rfl))))
  rw[Y01]at c
  refine Nat.le_of_not_lt λq=>?_
  have U:(n:Int)<((u.length:Nat):Int):=by lia
  first
   |(rw[decide_eq_true U]at c;exact absurd c (by decide))
   |(simp at c;lia)
 cases f with
 |cons W Y=>
  cases Y
  cases W with
  |list Z m=>exact⟨_,_,u,rfl,rfl,Z,_9h u _ m,z⟩
theorem _fC(l:OpenLaw)(j:List WData):l.row.toRowW.claim.post j (.bool true) j=true:=
 postW_of (r:=l.row.toRowW) (X:=(true==true))
  (show WShape.has [] (.bool true) .bool=true by first|rfl|decide|simp[WShape.has,WShape.arms,WShape.armsAll])
  (show(WTm.eq .res (.lit (.bool true))).value [] {args:=j,res:=some (.bool true),after:=j}=some (.bool (true==true))from w_eq_bool (w_res rfl) w_lit) rfl
theorem attach_call{l:OpenLaw}{n:Nat}{q:Program}{u:List Str}{C:(Str->Option Value)->Heap->Prop}{D:World->Heap->Prop}{d:DefRec}
  (M:l.most=some n)(T:d.params.defaults=[])
  (call:∀(w:World)(y j:Shared)(N U:Str->Option Value)(c:Addr)(o:Obj)(W O z:Value)(a:Addr)(g:List Value)(P:List Int),
   Ground q u [] C w y N U j.heap->D w j.heap->
   j.heap.get? c=some o->o.data=.func (docDef d.name d.params d.body d.scope W O z)->j.heap.CodeRec O d.name->N d.name=some (.ref c)->
   j.heap.get? a=some {cls:=.type "list",data:=.seq g.toArray}->IntsAre g P->P.length<=n->j.gens=#[]->
   codeAny (model l.prog w) callerA (.call (.ref c) ⟨[.ref a],[]⟩) (λr R=>r=.ok (.ret (.bool true))/\OldK j.heap R.heap/\R.os=j.os/\AllBare R.gens) j):
  WalkO q u C D l.row.toRowW d [] (λf g=>PySem.call f g):=by
 intro w y j N U G Y c o W O z Q kV S hd Z E A X F I as p J H B v
 obtain rfl:Q=.none:=Dflts.none E T
 obtain rfl:kV=.none:=Dflts.noKw E
 obtain⟨a,g,P,rfl,rfl,e,m,L⟩:=_fm M p B
 refine enter_call (codeAny_mono (call w y j N U c o W O z a g P G Y S (fd_plain hd) Z A e m L X) λr R s=>?_)
 obtain⟨rfl,i,x,h⟩:=s
 exact⟨.inl ⟨.bool true,.bool true,[],rfl,λ_=>rfl,.bool true,_fC l _,λ_=>⟨List.Pairwise.nil,λ_ b=>(nomatch b)⟩⟩,i,x,h⟩
section
variable{prog:Program}{w:World}{A:Around}{E:Value->Shared->Prop}{s:Shared}{K:Frag}
noncomputable def ledger(h:Heap)(L d:Addr):List (Addr×Obj):=(Y0A h.objs.size).filterMap λa=>if a=L\/a=d then none else(h.get? a).map λo=>(a,o)
end
end Att
namespace L2
open PySem PySem.Spec PyProof.Rows
theorem _bC:∀{j:List Value} {l:List Int},IntsAre j l->Vals (l.map V.int) j
 |_,_,.nil=>.nil
 |_,_,.cons n t h=>.cons ⟨t,rfl⟩ (_bC h)
noncomputable def Only(H:Hp):Prop:=∀b,H b=none\/∃o j,H b=some (.frz o (.lst j))
theorem _ht{K:Y00}{k:Nat}
  (M:K.In s₁.heap)(L:s₁.heap.Ns mainGlobals mg)(l:s₁.heap.Ns builtinsNs mb)(C:∀x:Str,x≠"__name__"->mb x=bootBuiltins x)(N:s₁.heap.NoLimit)(hg:s₁.gens=#[])
  (B:s₁.heap.get? a=some {cls:=.type "list",data:=.seq vs.toArray})(Q:IntsAre vs ns)(S:ns.length<=sizeLine)(hr:Room k callerA)
  (F:∀y:Heap,K.In y->y.Ns mainGlobals mg->FnOk P w K mg y CX k fa fd [x] sp)(p:∀(s:Shared)(u:Value),BindsTo s fd ⟨[u],[]⟩ [(x,u)])
  (D:∀H:Hp,Only H->SqL K H a (ns.map V.int)->sp [.ref a] H (λv _=>v=.bl true) λ_ _ _=>False)
  (E:∀H e g,CX [] H s₁ (λ_ _ _=>False) e g->False):
  codeAny (model P w) callerA (.call (.ref fa) ⟨[.ref a],[]⟩) (λr g=>r=.ok (.ret (.bool true))/\OldK s₁.heap g.heap/\g.os=s₁.os/\AllBare g.gens) s₁:=by
 have X:=_bC Q
 have O:=Q.length
 have f:∀H:Hp,Only H->SqL K H a (ns.map V.int)->HOk P w H s₁.heap->(∀b,H b≠none->b=a)->(H a≠none->K.lookup a=none)->
   codeAny (model P w) callerA (.call (.ref fa) ⟨[.ref a],[]⟩) (λr g=>r=.ok (.ret (.bool true))/\OldK s₁.heap g.heap/\g.os=s₁.os/\AllBare g.gens) s₁:=by
  intro H i hS R hA hK
  have j:∀{b:Addr} {o:Obj},s₁.heap.get? b=some o->H b=none->(hidT s₁.heap H).get? b=some o:=λe n=>_hD e n
  have G:∀{b:Addr} {o:Obj} {T:Array DictEntry} {U:Nat},s₁.heap.get? b=some o->o.data=.dict T U->H b=none:=fun{b o T U} e d=>by
   cases q:H b with
   |none=>rfl
   |some u=>
    have I:b=a:=hA b (by rw[q];simp)
    subst I
    rw[B]at e;cases e
    have d':Data.seq vs.toArray _=Data.dict T U:=d
    cases d'
  have c:∀{b:Addr} {m:Str->Option Value},s₁.heap.Ns b m->(hidT s₁.heap H).Ns b m:=fun{b m} ⟨o,T,U,e,d,r⟩=>⟨o,T,U,j e (G e d),d,r⟩
  have W:K.In (hidT s₁.heap H):=λb o e=>j (M b o e) (by
   cases q:H b with
   |none=>rfl
   |some u=>
    have I:b=a:=hA b (by rw[q];simp)
    subst I
    rw[hK (by rw[q];simp)]at e;cases e)
  have hM:Mod K mg (hidT s₁.heap H):=⟨W,c L,⟨mb,c l,C⟩,let⟨mc,h1,h2⟩:=N;⟨mc,c h1,h2⟩⟩
  have e0:Env0 P w K mg (hidT s₁.heap H) callerA [] s₁ H:=⟨rfl,hM,λb o e=>_ju e,Y1L (_gt _ _),trivial,λb l=>absurd (show b∈([]:List Addr)from l) (by simp),R,.of_eq hg⟩
  refine codeAny_mono ((F _ W (c L)).run callerA [] s₁ H ⟨[.ref a],[]⟩ [.ref a] [.ref a] _ _ hr e0 (p s₁ (.ref a)) (.cons rfl .nil) (D H i hS)) λr g h=>?_
  cases r with
  |error e=>exact(E H e g h).elim
  |ok fl=>
   cases fl with
   |next=>exact Y0U h
   |brk=>exact Y0U h
   |cont=>exact Y0U h
   |ret u=>
    obtain⟨v,H',os,Y,un,Z,r',q⟩:=h
    have q':v=.bl true:=q
    subst q'
    obtain rfl:u=Y2o true:=r'
    refine⟨rfl,OldK.of_keep λb o e=>?_,os,Y⟩
    cases q:H b with
    |none=>exact un.keep b o e q (by intro z;exact absurd (show b∈([]:List Addr)from z) (by simp)) (by simp)
    |some u=>
     rcases i b with z|⟨ob,xs,z⟩
     .rw[q]at z;cases z
     .have z2:=un.frzs b ob _ z
      obtain⟨e1,_⟩:=R b _ z
      obtain⟨e2,_⟩:=Z b _ z2
      rw[e]at e1;cases e1
      exact e2
 cases J:K.lookup a with
 |some o=>
  have e:=M a o J
  rw[B]at e
  cases e
  refine f (λ_=>none) (λ_=>.inl rfl) (.inr ⟨_,vs.toArray,_,J,rfl,rfl,rfl,by rw[Y0f,O];exact S,by simpa using X⟩) (λb u z=>by have A:(none:Option HO)=some u:=z;cases A) (λb z=>absurd rfl z) λz=>absurd rfl z
 |none=>
  refine f (fun b=>if b=a then some (.frz {cls:=.type "list",data:=.seq vs.toArray} (.lst (ns.map V.int)))else none) (fun b=>?_) (.inl (.inr ⟨{cls:=.type "list",data:=.seq vs.toArray},if_pos rfl⟩)) (fun b u z=>?_) (fun b z=>?_) fun _=>J
  .by_cases l:b=a
   .exact .inr ⟨_,_,if_pos l⟩
   .exact .inl (if_neg l)
  .by_cases l:b=a
   .have A:=(if_pos l).symm.trans z
    cases A
    subst l
    exact⟨B,by rw[Y01];exact S,vs,_,X,B⟩
   .have A:=(if_neg l).symm.trans z
    cases A
  .by_cases l:b=a
   .exact l
   .exact absurd (if_neg l) z
end L2
namespace L2
open PySem PySem.Spec PyProof.Rows
noncomputable abbrev KOf{K:Y00}{h:Heap}(_:K.In h):Y00:=K
theorem walk_of{l:Y3o}{n k:Nat}{q:Program}{z:List Str}{I:(Str->Option Value)->Heap->Prop}{Z:World->Heap->Prop}{d:DefRec}{K:Params->Y00}{A:World->CXT}{B:World->Sp}{x:Str}
  (J:l.most=some n)(N:n<=sizeLine)(O:d.params.defaults=[])(M:Room k callerA)
  (Q:∀(w:World)(h:Heap),Z w h->(K w.params).In h)
  (F:∀(w:World)(g:Str->Option Value)(p:Addr)(h:Heap),(K w.params).In h->h.Ns mainGlobals g->g d.name=some (.ref p)->
   ∃P:FuncData,(∀(s:Shared)(u:Value),BindsTo s P ⟨[u],[]⟩ [(x,u)])/\
    ∀j:Heap,(K w.params).In j->j.Ns mainGlobals g->FnOk l.prog w (K w.params) g j (A w) k p P [x] (B w))
  (R:∀(w:World)(H:Hp)(a:Addr)(L:List Int),L.length<=n->Only H->SqL (K w.params) H a (L.map V.int)->B w [.ref a] H (λv _=>v=.bl true) λ_ _ _=>False)
  (T:∀(w:World)(H:Hp)(s:Shared)(e:Value)(U:Shared),A w [] H s (λ_ _ _=>False) e U->False):
  PySem.W.WalkO q z I Z l.row.toRowW d [] (λf C=>PySem.call f C):=by
 refine Att.attach_call J O λw D c g mb p o pm cd S a C L G Y ho hd X W r m y i=>?_
 have E:=Q w _ Y
 obtain⟨P,b,hF⟩:=F w g p _ E G.T.g W
 exact _ht E G.T.g G.T.b G.T.builtins G.T.nolimit i r m (Y0S y N) M hF b (λH hO hS=>R w H a L y hO hS) λH e U=>T w H c e U
end L2
/- THE LAST THEOREM (shape;LID,My.*are yours):
  My.Adr:a structure of the addresses that your layer names (classes,functions);My.Txt K t:a structure(Prop) of the equations over K;
  My.txt_mk:{K} {implicit addresses ..} (e1:nsIn K mainGlobals "law"=some (some (.ref f))) (e2:K.lookup f=some ⟨oc,od,.func (fnOf "law" "law" params body scope dV kV doc pm an cdv ct),sl⟩) (e3:codeIn K cdv "law"=true) ..:∃t,My.Txt K t
set_option maxRecDepth 100000 in
set_option maxHeartbeats 0 in
theorem PySem.Challenge.cw_LID_holds : PySem.Challenge.rw_LID.Holds := by
 w_on;o_law;k_head;(case hw=>w_witness2)
 k_fill
 refine L2.walk_of (l:=PySem.Challenge.rw_LID) (n:=63) (k:=40) (x:="script") (CX:=fun w=>..) (sp:=fun _=>My.sp_law) rfl (by decide) rfl ⟨rfl,by decide,by decide⟩ (fun w h Y=>PySem.W.kIn_of Y) ?F ?S ?C
 case F=>
  intro w mg fa h KX G hmg
  have T:∃t,My.Txt (L2.KOf KX) t:=by
   dsimp only[L2.KOf] -- K must stand as «<heap const> w.params» for k_is
   refine' My.txt_mk ?e1 ?e2 ?e3 ..
   (case e1=>PySem.W.k_is) -- in the order:a name->its address->its object->its parts
   (case e2=>PySem.W.k_is)
   ..
  obtain⟨t,T⟩:=T
  have e0:=hmg.symm.trans (Y0X KX G T.law)
  cases e0 -- fa is the law's own address
  exact⟨_,λs u=>.of_eq rfl,λbase kb nb=>My.law_fn T kb nb⟩ -- if «.of_eq rfl» comes too early:refine' ⟨_,?b,λbase kb nb=>My.law_fn T kb nb⟩;exact λs u=>.of_eq rfl
 case S=>exact λw H a ns hl hO hS=>..
 case C=>exact ..
(the tactic k_is has no namespace:write k_is) -/
namespace L2
open PySem PySem.Spec PyProof.Rows
noncomputable def Z7g(s:Stmt):Arguments:=match s with
 |.FunctionDef _ a _ _ _ _ _ _ _ _=>a
 |_=>{posonlyargs:=[],args:=[],vararg:=none,kwonlyargs:=[],kw_defaults:=[],kwarg:=none,defaults:=[]}
noncomputable def Z04(s:Stmt):List Stmt:=match s with
 |.FunctionDef _ _ b _ _ _ _ _ _ _=>b
 |_=>[]
noncomputable def Z01(s:Stmt):Scope:=match s with
 |.FunctionDef _ _ _ _ _ _ sc _ _ _=>sc
 |_=>{kind:=.function,names:=[],isGenerator:=false,isCoroutine:=false}
noncomputable abbrev CX0:CXT:=λ_ _ _ _ _ _=>False
noncomputable abbrev E0:XK:=λ_ _ _=>False
theorem _nG{X:Cx}:ZgT CX0 X E0:=λ_ _ _ _ _ _ _ h=>h.elim
structure Fun (K:Y00)(x qual:Str)(st:Stmt)(f:Addr)(fd:FuncData):Prop where
 ex:∃(oc:Value) (od:Option Addr) (kV doc pm:Value) (an:Option Addr) (cdv ct:Value) (osl:Array (Option Value)),
  fd=Y1J x qual (Z7g st) (Z04 st) (Z01 st) .none kV doc pm an cdv ct/\K.lookup f=some ⟨oc,od,.func fd,osl⟩/\Y3z K cdv qual=true
 kp:Y1j K (.ref f)=true
section
variable{P:Program}{w:World}{K:Y00}{mg:Str->Option Value}{base:Heap}
theorem Fun.ok{st:Stmt}{k:Nat}(F:Fun K x qual st f fd)(S:FnScope N ps (Z01 st))(len:∀vs H Q E,sp vs H Q E->vs.length=ps.length)
  (u:∀(l:Value)(A:Around)(j:List Env)(s:Shared)(H:Hp)(vs:List V)(Q:VK)(E:XK),Room k (A.deeper (envOfC qual (Z01 st) s.heap.objs.size f l))->sp vs H Q E->
   ∃t,PSs (cxOf CX0 P w K mg base N qual (Z01 st) f l A j s H E).nox (Z04 st) t/\t {nx:=λ_ m=>Q .non m,rt:=Q} (Z9N N vs) H):FnOk P w K mg base CX0 (k+1) f fd ps sp:=by
 obtain⟨p,e,kV,g,L,O,l,R,d,rfl,c,y⟩:=F.ex
 refine _nS c y S len λA j s H vs Q E r z=>?_
 obtain⟨t,h,q⟩:=u l A j s H vs Q E r z
 exact⟨t,h.nox,q⟩
theorem Fun.binds{st:Stmt}(F:Fun K x qual st f fd)
  (h:∀(kV j u:Value)(y:Option Addr)(l z:Value)(m:List Value),m.length=ps.length->bindArgs (Y1J x qual (Z7g st) (Z04 st) (Z01 st) .none kV j u y l z) ⟨m,[]⟩=pure (ps.zip m)):Binds K fd ps []:=by
 obtain⟨c,q,kV,j,u,y,l,z,g,rfl,r,d⟩:=F.ex
 exact .all (h kV j u y l z)
theorem fun_mk{st:Stmt}{kV:Value}(l:K.lookup f=some ⟨oc,od,.func (Y1J x qual (Z7g st) (Z04 st) (Z01 st) .none kV doc pm an cdv ct),osl⟩)
  (c:Y3z K cdv qual=true)(k:Y1j K (.ref f)=true):Fun K x qual st f (Y1J x qual (Z7g st) (Z04 st) (Z01 st) .none kV doc pm an cdv ct):=⟨⟨oc,od,kV,doc,pm,an,cdv,ct,osl,rfl,l,c⟩,k⟩
end
section
variable{X:Cx}
theorem pv(i:Nat)(l:X.N[i]?=some x:=by rfl)(u:Vis X.env.scope x:=by first|exact Or.inl rfl|exact Or.inr (Or.inl rfl)|exact Or.inr (Or.inr rfl))(hd:(x==("__debug__":Str))=false:=by decide)
  (j:(x==("__classdict__":Str))=false:=by decide):PE X (.Name x pos) (tVar i):=_ic l u hd j
end
noncomputable def Same(H j:Hp):Prop:=∀b o,H b=some o->j b=some o
end L2
namespace L2
open PySem PySem.Spec PyProof.Rows
section
variable{X:Cx}
theorem _gK:Z4c X (.builtin "len") (fun l H Q=>∃a j,l=[V.ref a]/\H a=some (.dK j)/\Q (.int j.length) H):=by
 intro m s g H l d Q I r h
 obtain⟨a,j,rfl,w,q⟩:=h
 obtain⟨u,rfl,y⟩:=_5U r
 cases y
 exact _o7 I (.inl w) λt c z=>⟨.int j.length,H,z,⟨t,rfl⟩,q⟩
end
section
variable{κ:Type} [DecidableEq κ]
theorem _fO:∀{l:List κ} {k:κ},l.Nodup->¬k∈l->(l++[k]).Nodup
 |[],k,_,_=>by simp
 |a::r,k,h,hk=>by
  obtain⟨j,u⟩:=Y15.mp h
  show(a::(r++[k])).Nodup
  refine Y15.mpr ⟨λm=>?_,_fO u λm=>hk (Y06.mpr (Or.inr m))⟩
  rcases Y0m.mp m with q|q
  .exact j q
  .exact hk (Y06.mpr (Or.inl (Y0w.mp q).symm))
end
end L2
namespace L2
open PySem PySem.Spec PyProof.Rows
section
variable{X:Cx}
noncomputable def ZgW(i j:Int):Prop:=0<j/\j<2^256
theorem _eB(h:ZgW i j):j.natAbs.log2<9000:=by
 have u:(0:Int)<j:=h.1
 have w:j<2^256:=h.2
 have l:j.natAbs≠0:=by lia
 have:j.natAbs<2^256:=by lia
 have:=(Nat.log2_lt l).mpr this
 lia
theorem _hk:OpR X (binaryOp .FloorDiv) (rI ZgW λi j=>.int (i/j)):=opI λi j _ _ _ _ _ l q=>by
 have u:(0:Int)<j:=l.1
 exact floordiv_int (by lia) (by rw[Int.fdiv_eq_ediv_of_nonneg i (by lia)];exact q) (.inl (PyProof.noPylong_of_log2 (_eB l)))
theorem _dG:Z4c X (.builtin "isinstance") (fun l H Q=>∃x c t b,l=[x,.ty c]/\TyOf X.K H x t/\Y1B X.K t (.type c)=some b/\Q (.bl b) H):=by
 intro z s m H l g Q I r h
 obtain⟨x,c,t,b,rfl,ty,e,q⟩:=h
 obtain⟨u,d,rfl,w,j⟩:=_f3 r
 cases j
 exact _g3 I w ty e λy=>⟨.bl b,H,I.tok y,rfl,q⟩
end
section
variable{X:Cx}{pz:List (Addr×Obj)}{σ:St}{H:Hp}{s:Shared}
end
section
variable{X:Cx}
end
theorem _dI{j:List Int}{i:Nat}(h:i<j.length):atI (j.map V.int) (i:Int)=some (.int j[i]):=
 _0A (by rw[Y08,Y02 h];rfl)
end L2
namespace L2
end L2
namespace L2
open PySem PySem.Spec PyProof.Rows
noncomputable def clOf(j:List (Str×Addr)):List (Str×NameKind)->List (Str×Addr)->List (Str×Addr)
 |[],acc=>acc
 |(n,k)::r,acc=>if k=.free then(match j.lookup n with|some a=>clOf j r ((n,a)::acc)|none=>clOf j r acc)else clOf j r acc
theorem _4Z(j:List (Str×Addr)):∀(u:List (Str×NameKind))(l:List (Str×Addr))(x:Str)(c:Addr),(clOf j u l).lookup x=some c->l.lookup x=some c\/j.lookup x=some c
 |[],l,x,c,h=>.inl h
 |(n,k)::r,l,x,c,h=>by
  unfold clOf at h
  by_cases hk:k=.free
  .rw[if_pos hk]at h
   cases w:j.lookup n with
   |none=>rw[w]at h;exact _4Z j r l x c h
   |some a=>
    rw[w]at h
    rcases _4Z j r _ x c h with q|q
    .by_cases hx:x=n
     .subst hx
      simp at q
      subst q
      exact .inr w
     .have y:(x==n)=false:=beq_eq_false_iff_ne.mpr hx
      simp only[Y11,y]at q
      exact .inl q
    .exact .inr q
  .rw[if_neg hk]at h
   exact _4Z j r l x c h
theorem _6U(j:List (Str×Addr)):∀(u:List (Str×NameKind))(l:List (Str×Addr))(x:Str)(c:Addr),j.lookup x=some c->l.lookup x=some c->(clOf j u l).lookup x=some c
 |[],l,x,c,_,h=>h
 |(n,k)::r,l,x,c,h,ha=>by
  unfold clOf
  by_cases hk:k=.free
  .rw[if_pos hk]
   cases w:j.lookup n with
   |none=>exact _6U j r l x c h ha
   |some a=>
    refine _6U j r _ x c h ?_
    by_cases hx:x=n
    .subst hx
     rw[h]at w;cases w
     simp
    .have y:(x==n)=false:=beq_eq_false_iff_ne.mpr hx
     simp only[Y11,y]
     exact ha
  .rw[if_neg hk]
   exact _6U j r l x c h ha
theorem _6V(j:List (Str×Addr)):∀(l:List (Str×NameKind))(u:List (Str×Addr))(x:Str)(c:Addr),(x,Y0L)∈l->j.lookup x=some c->(clOf j l u).lookup x=some c
 |[],u,x,c,h,_=>by cases h
 |(n,k)::r,u,x,c,h,ha=>by
  unfold clOf
  rcases Y06.mp h with e|h
  .cases e
   rw[if_pos rfl,ha]
   exact _6U j r _ _ c ha (by simp)
  .by_cases hk:k=.free
   .rw[if_pos hk]
    cases w:j.lookup n with
    |none=>exact _6V j r u x c h ha
    |some a=>exact _6V j r _ x c h ha
   .rw[if_neg hk]
    exact _6V j r u x c h ha
theorem _4Y(f:Str×NameKind->List (Str×Addr)->Sem (ForInStep (List (Str×Addr))))
  (w:∀n k r,f (n,k) r=if(k==Y0L)=true then(cellOf env n >>= λa=>pure (Y2r ((n,a)::r)))else pure (Y2r r)):
  ∀(j:List (Str×NameKind))(l:List (Str×Addr)),(∀y∈j,y.2=.free->∃c,env.cells.lookup y.1=some c)->(forIn j l f:Sem (List (Str×Addr)))=pure (clOf env.cells j l)
 |[],l,_=>by rw[List.forIn_nil];rfl
 |(n,k)::r,l,h=>by
  rw[List.forIn_cons,w]
  have z:∀y∈r,y.2=.free->∃c,env.cells.lookup y.1=some c:=λy m=>h y (Y04 _ m)
  by_cases hk:k=.free
  .subst hk
   obtain⟨c,g⟩:=h (n,.free) Y0c rfl
   have u:env.cells.lookup n=some c:=g
   have e:cellOf env n=pure c:=by unfold cellOf;rw[u]
   rw[if_pos (by decide),e,pure_bind,pure_bind]
   show forIn r ((n,c)::l) f=_
   rw[_4Y f w r _ z]
   simp only[clOf,if_pos,u]
  .have d:(k==Y0L)=false:=by simpa using hk
   rw[d,if_neg Y05,pure_bind]
   show forIn r l f=_
   rw[_4Y f w r _ z]
   simp only[clOf,if_neg hk]
theorem _aL(h:∀y∈scope.names,y.2=.free->∃c,env.cells.lookup y.1=some c):closureFor scope env=pure (clOf env.cells scope.names []):=by
 unfold closureFor
 simp only[bind_pure]
 exact _4Y _ (λn k r=>by
  by_cases hk:(k==Y0L)=true
  .simp only[hk,if_true]
  .simp only[hk,if_false]) scope.names [] h
noncomputable def ZaK(l j:Scope)(N own:List Str)(u:List Nat):Bool:=
 decide (j.kind=.function)&&j.names.all (λy=>decide (y.2≠.cell))&&j.names.all (λy=>decide (y.2=.local->j.names.lookup y.1=some .local))&&
 j.names.all (λy=>decide (y.2=.free->l.names.lookup y.1=some .cell\/l.names.lookup y.1=some .free))&&
 u.all (λi=>match N[i]? with|some x=>decide ((x,Y0L)∈j.names/\j.names.lookup x=some .free/\(l.names.lookup x=some .cell\/l.names.lookup x=some .free))|none=>false)
structure CompOk (osc scope:Scope)(N:List Str)(fr:List Nat):Prop where
 kind:scope.kind=.function
 nocell:∀y∈scope.names,y.2≠.cell
 names:∀y∈scope.names,y.2=.local->scope.names.lookup y.1=some .local
 has:∀y∈scope.names,y.2=.free->osc.names.lookup y.1=some .cell\/osc.names.lookup y.1=some .free
 frees:∀i∈fr,∃x,N[i]?=some x/\(x,Y0L)∈scope.names/\scope.names.lookup x=some .free/\(osc.names.lookup x=some .cell\/osc.names.lookup x=some .free)
theorem _3A{l j:Scope}{N own:List Str}{u:List Nat}(h:ZaK l j N own u=true):CompOk l j N u:=by
 unfold ZaK at h
 simp only[Y0r,Y2l,decide_eq_true_eq]at h
 obtain⟨⟨⟨⟨w,y⟩,z⟩,m⟩,g⟩:=h
 refine⟨w,y,z,m,λi d=>?_⟩
 have q:=g i d
 cases e:N[i]? with
 |none=>rw[e]at q;simp at q
 |some x=>rw[e]at q;simp only[decide_eq_true_eq]at q;exact⟨x,rfl,q⟩
noncomputable def sC(own:List Str)(j:List Nat)(l:St):St:=own.map (λ_=>none)++j.map (λi=>l.getD i none)
noncomputable def nC(own:List Str)(j:List Nat)(N:List Str):List Str:=own++j.map (λi=>N.getD i Y3M)
def cxC(X:Cx)(j:Scope)(own:List Str)(w:List Nat)(C:Addr)(y:List Addr)(l:Shared)(u:Hp):Cx:=
 {X with N:=nC own w X.N,s₀:=l,H₀:=u,env:=compEnvC j (clOf X.env.cells j.names []) C X.env,outer:=X.stack,ex:=y,fn:=λ_=>false,xe:=λ_ _=>False}
noncomputable def Keep(l j:St):Prop:=l.length=j.length/\∀(i:Nat)(v:V),l[i]?=some (some v)->j[i]?=some (some v)
noncomputable def tAll:TT:=λ_ H Q=>Q true H
def PTs(X:Cx)(j:List Expr)(t:TT):Prop:=(j=[]/\t=tAll)\/∃c,j=[c]/\PT X c t
section
variable{prog:Program}{w:World}{A:Around}{R:Result->Shared->Prop}{s:Shared}
theorem _cv(I:Nat->Shared->Prop)
  (turn:∀n s,I n s->wpAny (model prog w) A (pyNext it) (λr j=>match r with
   |none=>R (.ok .next) j
   |some v=>wpAny (model prog w) A (letOwnedTupleGo target it v) (λ_ l=>wpAny (model prog w) A (assign target env v) (λ_ z=>
     wpAny (model prog w) A (forIn ifs true λc r=>if r=true then do let ok<- isTrue c env (eval c env);pure (Y2r ok)else pure (Y2r r)) (λok u=>
      if ok=true then wpAny (model prog w) A (eval elt env) (λx g=>
       wpAny (model prog w) A (call (.builtin "list.append") [acc,x]) (fun _ d=>∃m,m<n/\I m d) (fun _ _=>False) g) (fun _ _=>False) u
      else∃m,m<n/\I m u) (λ_ _=>False) z) (λ_ _=>False) l) (λ_ _=>False) j) (λ_ _=>False) s)
  (n:Nat)(h:I n s):
  codeAny (model prog w) A (.compLoop (.ListComp elt [⟨target,iter,ifs,0⟩] scope pos) 0 it acc env) R s:=by
 refine codeAny_loop rfl I (λn s O=>?_) n h
 show wpAny _ A ((compTurn (.ListComp elt [⟨target,iter,ifs,0⟩] scope pos) 0 it acc env).onRaise (λx=>do noteFrame x env;theTreesLotGoes x)) _ _ s
 refine wpAny_noted ?_
 rw[compTurn_list]
 refine wpAny_bind (wpAny_standAt (wpAny_bind (wpAny_mono (turn n s O) (λr j f=>?_) λ_ _ y=>y.elim)))
 cases r with
 |none=>exact wpAny_pure f
 |some v=>
  refine wpAny_bind (wpAny_mono f (λ_ l p=>?_) λ_ _ y=>y.elim)
  refine wpAny_bind (wpAny_mono p (λ_ z e=>wpAny_bind (wpAny_mono e (λok u q=>?_) λ_ _ y=>y.elim)) λ_ _ y=>y.elim)
  cases ok with
  |false=>exact wpAny_pure ⟨rfl,q⟩
  |true=>
   exact wpAny_bind (wpAny_bind (wpAny_mono q (λx g L=>wpAny_bind (wpAny_mono L (λ_ d N=>wpAny_pure (wpAny_pure ⟨rfl,N⟩)) λ_ _ y=>y.elim)) λ_ _ y=>y.elim))
end
theorem _mr(h:Q true H):tAll σ H Q:=h
section
variable{X:Cx}{pz:List (Addr×Obj)}{σ:St}{H1:Hp}{s2:Shared}{tg elt iter:Expr}{ifs:List Expr}{scope:Scope}{pos:Pos}{own:List Str}{fr:List Nat}{g:TG}{tt:TT}{te:TE}
theorem _7n{scope:Scope}{j:Env}{x:Str}:∀{l:List (Str×NameKind)},l.lookup x=some .free->
  (l.map fun(n,k)=>if(k==Y0L&&j.scope.kind==.function&&j.kindOf n==some .cell)then(n,Y23)else(n,k)).lookup x=some .cell\/
  (l.map fun(n,k)=>if(k==Y0L&&j.scope.kind==.function&&j.kindOf n==some .cell)then(n,Y23)else(n,k)).lookup x=some .free
 |[],h=>by simp at h
 |(n,k)::r,h=>by
  have w:=@_7n scope j x r
  show List.lookup x ((if(k==Y0L&&j.scope.kind==.function&&j.kindOf n==some .cell)=true then(n,Y23)else(n,k))::_)=_\/List.lookup x ((if(k==Y0L&&j.scope.kind==.function&&j.kindOf n==some .cell)=true then(n,Y23)else(n,k))::_)=_
  cases u:x==n with
  |true=>
   simp only[Y11,u]at h
   cases h
   by_cases hc:(Y0L==Y0L&&j.scope.kind==.function&&j.kindOf n==some .cell)=true
   .rw[if_pos hc];simp only[Y11,u];exact .inl trivial
   .rw[if_neg hc];simp only[Y11,u];exact .inr trivial
  |false=>
   simp only[Y11,u]at h
   by_cases hc:(k==Y0L&&j.scope.kind==.function&&j.kindOf n==some .cell)=true
   .rw[if_pos hc];simp only[Y11,u];exact w h
   .rw[if_neg hc];simp only[Y11,u];exact w h
theorem _7m{scope:Scope}{j:Env}(z:∀y∈scope.names,y.2≠.cell){x:Str}:∀{l:List (Str×NameKind)},(∀y∈l,y.2≠.cell)->
  ((l.map fun(n,k)=>if(k==Y0L&&j.scope.kind==.function&&j.kindOf n==some .cell)then(n,Y23)else(n,k)).lookup x=some .cell\/
  (l.map fun(n,k)=>if(k==Y0L&&j.scope.kind==.function&&j.kindOf n==some .cell)then(n,Y23)else(n,k)).lookup x=some .free)->(x,Y0L)∈l
 |[],_,h=>by simp at h
 |(n,k)::r,hnc,h=>by
  have w:=@_7m scope j z x r (λy m=>hnc y (Y04 _ m))
  have d:k≠.cell:=hnc (n,k) Y0c
  simp only[Y0a]at h
  cases u:x==n with
  |true=>
   have e:x=n:=eq_of_beq u
   subst e
   by_cases hc:(k==Y0L&&j.scope.kind==.function&&j.kindOf x==some .cell)=true
   .have:k=.free:=by
     simp only[Y0r,beq_iff_eq]at hc
     exact hc.1.1
    subst this
    exact Y0c
   .rw[if_neg hc]at h
    simp at h
    rcases h with h|h
    .exact absurd h d
    .subst h;exact Y0c
  |false=>
   by_cases hc:(k==Y0L&&j.scope.kind==.function&&j.kindOf n==some .cell)=true
   .rw[if_pos hc]at h
    simp only[Y11,u]at h
    exact Y04 _ (w h)
   .rw[if_neg hc]at h
    simp only[Y11,u]at h
    exact Y04 _ (w h)
theorem _eO(ok:CompOk X.env.scope scope X.N fr)(f:Inv X pz σ H3 s3)(R:C=s3.heap.objs.size)(T:∀b∈fp,FpOk X pz H3 b)(W:∀b∈fp,∃o,s3.heap.get? b=some o)
  (F:h4.Ns C m)(O:∀b o,s3.heap.get? b=some o->h4.get? b=some o):
  Inv (cxC X scope own fr C fp s3 H3) pz (sC own fr σ) H3 {s3 with heap:=h4,toks:=tk}:=by
 have l:∀x c,(clOf X.env.cells scope.names []).lookup x=some c->X.env.cells.lookup x=some c:=λx c h=>(_4Z _ _ _ _ _ h).elim (λz=>by simp at z) id
 have Y:∀x c,X.env.cells.lookup x=some c->c<s3.heap.objs.size:=λx c e=>let⟨v,q⟩:=f.cell x c e;q.lt
 have P:∀b∈fp,b<s3.heap.objs.size:=λb L=>let⟨o,e⟩:=W b L;Y0g e
 have r:∀x,(X.env.scope.names.lookup x=some .cell\/X.env.scope.names.lookup x=some .free)->∃c,X.env.cells.lookup x=some c:=λx h=>f.ok.has x h
 refine⟨⟨f.ok.mod,ok.kind,f.ok.glob,f.ok.blt,Y1L R.symm,λx y c G I=>f.ok.inj x y c (l x c G) (l y c I),λx J=>?_,λx c z=>?_,f.ok.hd,f.ok.frames,.inl rfl,λb L=>⟨?_,λx c e=>?_⟩,λb o e=>f.bs b o e,Y0S f.ok.bsz f.sz,λb o e L=>?_,λb L M=>?_,f.stack,λb L=>f.stkFree b L⟩,
  rfl,f.bare,Un.kept O,⟨m,F,λi x v Q S e3=>?_⟩,λx c e=>?_,?_,λx c e=>f.freeC x c (l x c e),λp H=>?_,f.hok.kept O,?_⟩
 . -- has
  have U:(x,Y0L)∈scope.names:=_7m (scope:=scope) (j:=X.env) ok.nocell ok.nocell J
  obtain⟨c,Z⟩:=r x (ok.has _ U rfl)
  exact⟨c,_6V _ _ _ _ _ U Z⟩
 .exact absurd z Y05
 .exact Y0p (by rw[R];exact P b L)
 .exact(T b L).2.2.2.2.1 x c (l x c e)
 .rcases(T b L).2.2.2.1 with z|z
  .exact f.ok.noex b o e z
  .exact absurd (Y0D (Y0g e) (Y0S f.ok.bsz z)) (Y22 _)
 .rcases Y06.mp (f.stkSub b M)with z|z
  .exact(T b L).2.1 z
  .exact(T b L).2.2.1 z
 . -- a free name's value
  have w:(own.map (λ_=>(none:Option V))++fr.map (λi=>σ.getD i none))[i]?=some (some v):=S
  have N:(own++fr.map (λi=>X.N.getD i Y3M))[i]?=some x:=Q
  by_cases hi:i<own.length
  .rw[Y0H (by simpa using hi),Y08]at w
   cases q:own[i]? with
   |none=>rw[q]at w;cases w
   |some z=>rw[q]at w;cases w
  .rw[Y0C (by simpa using hi)]at w
   rw[Y0C (by simpa using hi)]at N
   simp only[Y01]at w
   rw[Y08]at N w
   cases q:fr[i - own.length]? with
   |none=>rw[q]at w;cases w
   |some j=>
    rw[q]at N w
    obtain⟨y,E,U,s,A⟩:=ok.frees j (Y0G q)
    have a:x=y:=by
     have:X.N.getD j Y3M=y:=by rw[Y0N,E];rfl
     simp only[Option.map_some,this,Y2c]at N
     exact N.symm
    subst a
    have ev:σ[j]?=some (some v):=by
     simp only[Option.map_some,Y2c]at w
     rw[Y0N]at w
     cases z:σ[j]? with
     |none=>rw[z]at w;cases w
     |some o=>rw[z]at w;cases w;rfl
    obtain⟨m0,hn0,B⟩:=f.loc
    obtain⟨u,ru,lk⟩:=B j x v E ev (.inr A)
    refine⟨u,ru,.inr ⟨_7n (scope:=scope) s,?_⟩⟩
    rcases lk with⟨k1,_⟩|⟨_,c,Z,z⟩
    .have D:X.env.scope.names.lookup x=some .local:=k1
     rw[D]at A
     rcases A with z|z<;>cases z
    .exact⟨c,_6V _ _ _ _ _ U Z,z.keeps O⟩
 .obtain⟨v,z⟩:=f.cell x c (l x c e)
  exact⟨v,z.keeps O⟩
 .show H3 C=none
  exact f.hok.fresh (Y1L R.symm)
 .obtain⟨e,n,ne,nf,d⟩:=f.pin p H
  refine⟨O _ _ e,n,Y0p (by rw[R];exact Y0g e),λz=>?_,d⟩
  rcases Y06.mp (f.stkSub p.1 z)with z|z
  .exact ne z
  .exact nf z
 .show(own.map (λ_=>(none:Option V))++fr.map (λi=>σ.getD i none)).length=(own++fr.map (λi=>X.N.getD i Y3M)).length
  simp
end
end L2
namespace L2
open PySem PySem.Spec PyProof.Rows
section
variable{X:Cx}
end
end L2
namespace L2
open PySem PySem.Spec PyProof.Rows
section
variable{X:Cx}
end
end L2
namespace L2
open PySem PySem.Spec PyProof.Rows
section
variable{X:Cx}
theorem _dh(j:z.length<=16)(y:-1000<=i)(h1:i<=1000):MulOk z i:=by
 refine⟨?_,λl _=>?_,λl _=>?_⟩
 .rw[decide_eq_false (by lia),decide_eq_false (by lia)];rfl
 .have m:1<=i:=by lia
  have:(16:Int)<=(2^63 - 1)/i:=by
   rw[Int.le_ediv_iff_mul_le (by lia)]
   lia
  lia
 .have:z.length*i.toNat<=16*1000:=Nat.mul_le_mul j (by lia)
  have u:z.length*i.toNat<2^20:=by lia
  generalize z.length*i.toNat=n at u
  revert n
  intro n g
  have w:sizeLine=16777216:=by decide
  show decide (n>sizeLine)=false
  rw[w]
  exact decide_eq_false (by lia)
theorem _jn:OpR X (binaryOp .Mult) (λx y H Q=>∃z i,x=.str z/\y=.int i/\z.length<=16/\ -1000<=i/\i<=1000/\Q (.str (Txt.mul z i)) H):=by
 intro c s f H x y v u Q I j l h
 obtain⟨z,i,rfl,rfl,w,m,g,q⟩:=h
 obtain⟨t,rfl⟩:=j
 obtain⟨d,rfl⟩:=l
 exact SB.mul (_dh w m g) (λd k=>⟨.str (Txt.mul z i),H,I.tok _,⟨_,rfl⟩,q⟩)
theorem _hl(d:X.A.units<cLine):OpR X (compareOp .Eq) (λx y H Q=>∃a b z,x=.ref a/\y=.ref b/\SqL X.K H a z/\SqL X.K H b []/\Q (.bl z.isEmpty) H):=by
 intro W s Y H x y v u Q I L N h
 obtain⟨a,b,z,rfl,rfl,O,P,q⟩:=h
 cases L
 cases N
 obtain⟨l,c,f,Z⟩:=I.list O
 obtain⟨m,g,w,_⟩:=I.list P
 have R:m=[]:=Y17 g.length.symm
 subst R
 cases z with
 |nil=>
  have T:l=[]:=Y17 c.length.symm
  subst T
  exact SeqAt.eq_listAt (e:=λ_=>true) f.isList w.isList rfl d (λj U _=>absurd U (Nat.not_lt_zero j)) (_0f I q rfl)
 |cons x r=>
  have p:l.length=r.length+1:=by rw[<-c.length];rfl
  exact SeqAt.eq_list_lengthsAt f.isList w.isList (by simp;intro e;rw[e]at p;simp at p) d (_0f I q rfl)
theorem _hj(d:X.A.units<cLine):OpR X (compareOp .NotEq) (λx y H Q=>∃a b z,x=.ref a/\y=.ref b/\SqL X.K H a z/\SqL X.K H b []/\Q (.bl (!z.isEmpty)) H):=by
 intro W s Y H x y v u Q I L N h
 obtain⟨a,b,z,rfl,rfl,O,P,q⟩:=h
 cases L
 cases N
 obtain⟨l,c,f,Z⟩:=I.list O
 obtain⟨m,g,w,_⟩:=I.list P
 have R:m=[]:=Y17 g.length.symm
 subst R
 cases z with
 |nil=>
  have T:l=[]:=Y17 c.length.symm
  subst T
  exact SeqAt.RcNeAt.lists (e:=λ_=>true) f.isList w.isList rfl d (λj U _=>absurd U (Nat.not_lt_zero j)) X.prog X.w _ _ (_0f I q rfl)
 |cons x r=>
  have p:l.length=r.length+1:=by rw[<-c.length];rfl
  exact SeqAt.RcNeAt.lists_lengths f.isList w.isList (by simp;intro e;rw[e]at p;simp at p) d X.prog X.w _ _ (_0f I q rfl)
end
end L2
namespace L2
open PySem PySem.Spec PyProof.Rows
end L2
namespace L2
open PySem PySem.Spec PyProof.Rows
open AutoSeq1 (wpAny_loadPart')
open MeetsSeq MeetsSeq2 MeetsSeq3 SeqRoads2
noncomputable def AliP(P:Program)(w:World)(A:Around)(s:Shared)(y x:Value):Prop:=∀(E:Value->Shared->Prop)(Q:Bool->Shared->Prop),Q true s->wpAny (model P w) A (eqBool y x) Q E s
noncomputable def RcP(P:Program)(w:World)(A:Around)(s:Shared)(y x:Value):Prop:=∀(E Q:Value->Shared->Prop),Q (.bool true) s->wpAny (model P w) A (richCompare .Eq y x) Q E s
noncomputable def RnP(P:Program)(w:World)(A:Around)(s:Shared)(y x:Value):Prop:=∀(E Q:Value->Shared->Prop),Q (.bool false) s->wpAny (model P w) A (richCompare .NotEq y x) Q E s
section
variable{P:Program}{w:World}{A:Around}{s:Shared}{a b:Addr}{xs ys:Array Value}
theorem AliP.of_at(h:SeqAt.EqAt A s y x true):AliP P w A s y x:=λE Q q=>h P w E Q q
theorem AliP.refs(h:RcP P w A s (.ref a) (.ref b)):AliP P w A s (.ref a) (.ref b):=by
 intro E Q q
 by_cases e:a=b
 .subst e;exact SeqAt.EqAt.same _ P w E Q q
 .unfold eqBool
  refine wpAny_holding (wpAny_ite_split (λz=>absurd (by injection (eq_of_beq z)) e) λ_=>?_)
  exact wpAny_bind (h E _ (wpAny_truthy_bool q))
theorem _kT(T:s.heap.IsTuple a xs)(U:s.heap.IsTuple b ys)(W:xs.size=ys.size)(Y:A.units<cLine)(Z:∀p∈xs.toList.zip ys.toList,AliP P w A.in1 s p.1 p.2):RcP P w A s (.ref a) (.ref b):=by
 intro E Q q
 obtain⟨⟨D,G,I,J⟩,j,g,M,d⟩:=id T
 obtain⟨⟨S,X,H,v⟩,c,f,o,e⟩:=id U
 dsimp only at g d f e
 subst g d f e
 refine wpAny_richCompare_same_room (op:=.Eq) ⟨_,j,rfl⟩ ⟨_,c,rfl⟩ F.slot_tuple_eq (wpAny_call_entry F.slot_tuple_eq ⟨_,j,rfl⟩ F.entry_tuple_eq ?_ (F.args_tuple_eq_2 _ _)) Y
 obtain⟨L,N,O,R,os⟩:=s
 have i:=Y2Q
 wp_walk using wpAny_loadPart' j,wpAny_loadPart' c,wpAny_forIn_list _ (λrest r l=>r.1=none/\l=⟨L,N,O,R,os⟩/\∀p∈rest,AliP P w A.in1 ⟨L,N,O,R,os⟩ p.1 p.2) _
 case turn=>
  rintro⟨y,x⟩ rest r l ⟨u,rfl,m⟩
  refine wpAny_bind (m (y,x) Y0c _ _ ?_)
  wp_walk
  exact⟨rfl,rfl,λp B=>m p (Y04 _ B)⟩
 case fin=>
  rintro⟨n,r2⟩ l ⟨u,rfl,-⟩
  dsimp only at u
  subst u
  wp_walk
  have C:Y1d .Eq xs.size ys.size=.bool true:=by simp[Y1d,W]
  rw[C]
  exact⟨_,rfl,(λz=>nomatch z),q⟩
 case h=>exact⟨rfl,rfl,Z⟩
theorem _hF(z:xs.size=ys.size)
  (u:s.heap.get? a=some {cls:=.type "list",dict:=d1,data:=.seq xs n1,slots:=l1})(y:s.heap.get? b=some {cls:=.type "list",dict:=d2,data:=.seq ys n2,slots:=l2})
  (m:∀j (h1:j<xs.size)(h2:j<ys.size),AliP P w A.in1 s xs[j] ys[j])(q:R (.ok (.ret (.bool true))) s):∀k i:Nat,xs.size - i=k->
  wpAny (model P w) A.in1 (Builtin.«list.__eq__.loop» ⟨[.ref a,.ref b,rawInt i,rawInt 2],[]⟩) (λfin l=>match fin with|.done f=>R (.ok f) l|.again c'=>c'.quiet=true/\codeAny (model P w) A c' R l) (λe l=>R (.error e) l) s:=by
 obtain⟨c,r,p,L,os⟩:=s
 intro k
 induction k with
 |zero=>
  intro i g
  wp_walk using wpAny_loadPart' u,wpAny_loadPart' y
  rw[show xs[((i:Nat):Int).toNat]?=none by simp;lia,show ys[((i:Nat):Int).toNat]?=none by simp;lia]
  wp_walk using wpAny_loadPart' u,wpAny_loadPart' y
  show R (.ok (.ret (.bool (xs.size==ys.size)))) _
  simpa [z]using q
 |succ k d=>
  intro i g
  have h1:i<xs.size:=by lia
  have h2:i<ys.size:=by lia
  wp_walk using wpAny_loadPart' u,wpAny_loadPart' y
  rw[show xs[((i:Nat):Int).toNat]?=some xs[i] by simp[h1],show ys[((i:Nat):Int).toNat]?=some ys[i] by simp[h2]]
  refine wpAny_bind (m i h1 h2 _ _ ?_)
  wp_walk
  rw[show((i:Int)+1)=((i+1:Nat):Int) by push_cast;rfl]
  refine⟨plainId_quiet plain_eq_loop _,codeAny_builtin entry_eq_loop ?_⟩
  rw[Y0M plain_eq_loop _]
  exact d (i+1) (by lia)
theorem _kU(r:s.heap.IsList a xs)(p:s.heap.IsList b ys)(m:xs.size=ys.size)(e:A.units<cLine)(L:∀j (h1:j<xs.size)(h2:j<ys.size),AliP P w A.in1 s xs[j] ys[j]):RcP P w A s (.ref a) (.ref b):=by
 intro E Q q
 obtain⟨⟨O,T,l,U⟩,u,g,W,d⟩:=id r
 obtain⟨⟨Y,Z,B,C⟩,y,c,D,f⟩:=id p
 dsimp only at g d c f
 subst g d c f
 have l:s.TypeIs (.ref a) "list":=⟨_,u,rfl⟩
 refine wpAny_richCompare_same_room (op:=.Eq) l ⟨_,y,rfl⟩ Y3B (wpAny_call (codeAny_call_builtin Y3B.plain F.entry_list_eq (Y3B.check _ _ _ _ _ _ _ _ l (F.args_list_eq_2 _ _) ?_))) e
 obtain⟨G,I,J,M,os⟩:=s
 have S:=Y3g
 have X:¬(xs.size != ys.size)=true:=by simp[m]
 wp_walk using wpAny_loadPart' u,wpAny_loadPart' y
 refine⟨plainId_quiet plain_eq_loop _,codeAny_builtin entry_eq_loop ?_⟩
 rw[Y0M plain_eq_loop _]
 exact _hF (R:=wants (λv N=>v≠.notImplemented/\Q v N) E) m u y L (show Y2o true≠.notImplemented/\Q (.bool true) _ from⟨(λz=>nomatch z),q⟩) _ 0 rfl
theorem _jv(T:s.heap.IsTuple a xs)(U:s.heap.IsTuple b ys)(W:xs.size=ys.size)(Y:A.units<cLine)(Z:∀p∈xs.toList.zip ys.toList,AliP P w A.in1 s p.1 p.2):RnP P w A s (.ref a) (.ref b):=by
 intro E Q q
 obtain⟨⟨D,G,I,J⟩,j,g,M,d⟩:=id T
 obtain⟨⟨S,X,H,v⟩,c,f,o,e⟩:=id U
 dsimp only at g d f e
 subst g d f e
 refine wpAny_richCompare_same_room (op:=.NotEq) ⟨_,j,rfl⟩ ⟨_,c,rfl⟩ F.slot_tuple_ne (wpAny_call_entry F.slot_tuple_ne ⟨_,j,rfl⟩ F.entry_tuple_ne ?_ (F.args_tuple_ne_2 _ _)) Y
 obtain⟨L,N,O,R,os⟩:=s
 have i:=Y2Q
 wp_walk using wpAny_loadPart' j,wpAny_loadPart' c,wpAny_forIn_list _ (λrest r l=>r.1=none/\l=⟨L,N,O,R,os⟩/\∀p∈rest,AliP P w A.in1 ⟨L,N,O,R,os⟩ p.1 p.2) _
 case turn=>
  rintro⟨y,x⟩ rest r l ⟨u,rfl,m⟩
  refine wpAny_bind (m (y,x) Y0c _ _ ?_)
  wp_walk
  exact⟨rfl,rfl,λp B=>m p (Y04 _ B)⟩
 case fin=>
  rintro⟨n,r2⟩ l ⟨u,rfl,-⟩
  dsimp only at u
  subst u
  wp_walk
  have C:Y1d .NotEq xs.size ys.size=.bool false:=by simp[Y1d,W]
  rw[C]
  exact⟨_,rfl,(λz=>nomatch z),q⟩
 case h=>exact⟨rfl,rfl,Z⟩
theorem _hp(z:xs.size=ys.size)
  (u:s.heap.get? a=some {cls:=.type "list",dict:=d1,data:=.seq xs n1,slots:=l1})(y:s.heap.get? b=some {cls:=.type "list",dict:=d2,data:=.seq ys n2,slots:=l2})
  (m:∀j (h1:j<xs.size)(h2:j<ys.size),AliP P w A.in1 s xs[j] ys[j])(q:R (.ok (.ret (.bool false))) s):∀k i:Nat,xs.size - i=k->
  wpAny (model P w) A.in1 (Builtin.«list.__eq__.loop» ⟨[.ref a,.ref b,rawInt i,rawInt 3],[]⟩) (λfin l=>match fin with|.done f=>R (.ok f) l|.again c'=>c'.quiet=true/\codeAny (model P w) A c' R l) (λe l=>R (.error e) l) s:=by
 obtain⟨c,r,p,L,os⟩:=s
 intro k
 induction k with
 |zero=>
  intro i g
  wp_walk using wpAny_loadPart' u,wpAny_loadPart' y
  rw[show xs[((i:Nat):Int).toNat]?=none by simp;lia,show ys[((i:Nat):Int).toNat]?=none by simp;lia]
  wp_walk using wpAny_loadPart' u,wpAny_loadPart' y
  show R (.ok (.ret (.bool (xs.size != ys.size)))) _
  simpa [z]using q
 |succ k d=>
  intro i g
  have h1:i<xs.size:=by lia
  have h2:i<ys.size:=by lia
  wp_walk using wpAny_loadPart' u,wpAny_loadPart' y
  rw[show xs[((i:Nat):Int).toNat]?=some xs[i] by simp[h1],show ys[((i:Nat):Int).toNat]?=some ys[i] by simp[h2]]
  refine wpAny_bind (m i h1 h2 _ _ ?_)
  wp_walk
  rw[show((i:Int)+1)=((i+1:Nat):Int) by push_cast;rfl]
  refine⟨plainId_quiet plain_eq_loop _,codeAny_builtin entry_eq_loop ?_⟩
  rw[Y0M plain_eq_loop _]
  exact d (i+1) (by lia)
theorem _jw(r:s.heap.IsList a xs)(p:s.heap.IsList b ys)(m:xs.size=ys.size)(e:A.units<cLine)(L:∀j (h1:j<xs.size)(h2:j<ys.size),AliP P w A.in1 s xs[j] ys[j]):RnP P w A s (.ref a) (.ref b):=by
 intro E Q q
 obtain⟨⟨O,T,l,U⟩,u,g,W,d⟩:=id r
 obtain⟨⟨Y,Z,B,C⟩,y,c,D,f⟩:=id p
 dsimp only at g d c f
 subst g d c f
 have l:s.TypeIs (.ref a) "list":=⟨_,u,rfl⟩
 refine wpAny_richCompare_same_room (op:=.NotEq) l ⟨_,y,rfl⟩ Y3C (wpAny_call (codeAny_call_builtin Y3C.plain F.entry_list_ne (Y3C.check _ _ _ _ _ _ _ _ l (F.args_list_ne_2 _ _) ?_))) e
 obtain⟨G,I,J,M,os⟩:=s
 have S:=Y3g
 have X:¬(xs.size != ys.size)=true:=by simp[m]
 wp_walk using wpAny_loadPart' u,wpAny_loadPart' y
 refine⟨plainId_quiet plain_eq_loop _,codeAny_builtin entry_eq_loop ?_⟩
 rw[Y0M plain_eq_loop _]
 exact _hp (R:=wants (λv N=>v≠.notImplemented/\Q v N) E) m u y L (show Y2o false≠.notImplemented/\Q (.bool false) _ from⟨(λz=>nomatch z),q⟩) _ 0 rfl
theorem _8S{K:Type} [DecidableEq K] {u:KeyKind P w K}{nm:String}{d L:List (K×Value)}{E:Value->Shared->Prop}{Q:Bool->Shared->Prop}(I:(a==sysModules)=false)(J:(b==sysModules)=false)
  (M:s.heap.DictOf u a d)(S:s.heap.DictOf u b L)(B:d.length=L.length)(X:∀p∈d,∃y,valueAt L p.1=some y/\AliP P w A s p.2 y)(q:Q true s):
  wpAny (model P w) A (Y3h nm a b) Q E s:=by
 obtain⟨oa,c,pa,O,_,R,H,C,_⟩:=M
 obtain⟨ob,f,pb,T,_,U,D,W,_⟩:=S
 have za:d.length=c.size:=C.length.symm.trans Y0o
 have o:L.length=f.size:=W.length.symm.trans Y0o
 have n:∀k,findBy u.is f k=valueAt L k:=by
  intro k
  rw[<-W.find k]
  clear o W D U T
  obtain⟨l⟩:=f
  simp[findBy]
 have x:c.size=f.size:=by lia
 unfold Y3h Builtin.Dict.showsAll
 rw[I,J]
 refine wpAny_bind (wpAny_pure (wpAny_bind (wpAny_pure (wpAny_bind (wpAny_dictEntries O R ?_)))))
 dsimp only
 refine wpAny_bind (wpAny_dictEntries T U ?_)
 rw[if_neg (by simp[x])]
 refine wpAny_bind (wpAny_dictEpoch O R (wpAny_bind ?_))
 rw[Std.Legacy.Range.forIn_eq_forIn_range']
 simp only[Std.Legacy.Range.size,Y3p,Nat.add_sub_cancel,Nat.div_one]
 refine wpAny_forIn_list _ (λrest r Y=>Y=s/\r=(none,())/\∀i∈rest,i<c.size) _ ?_ ?_ _ _ ⟨rfl,rfl,λi h=>by simpa using h⟩
 .rintro i rest r Y ⟨rfl,rfl,m⟩
  have lt:i<c.size:=m i Y0c
  have lt':i<d.length:=by lia
  refine wpAny_bind (wpAny_dictEntries O R ?_)
  rw[Y0W lt]
  obtain⟨N,val⟩:=C.get? (i:=i) (e:=c[i]) (k:=d[i].1) (v:=d[i].2) (by rw[Y2h];exact Y0W lt) (Y02 lt')
  obtain⟨k',i',hh⟩:=H c[i] (Array.getElem_mem lt)
  obtain rfl:k'=d[i].1:=u.inj _ _ _ i' N
  obtain⟨y,fy,F⟩:=X d[i] (Y0j lt')
  show wpAny _ _ (holding [c[i].key,c[i].val] _ >>= _) _ _ _
  rw[hh]
  refine wpAny_bind (wpAny_holding (wpAny_bind (wpAny_dictFind_of N T U D ?_)))
  have g:=fy
  rw[<-n,findBy_of_findIdx?]at g
  cases Z:f.findIdx? λe=>u.is d[i].1 e.key with
  |none=>rw[Z]at g;cases g
  |some j=>
   rw[Z]at g
   obtain⟨G,_,_⟩:=Array.findIdx?_eq_some_iff_getElem.mp Z
   refine wpAny_bind (wpAny_dictEntries T U ?_)
   rw[Y0W G]
   have ey:f[j].val=y:=by simpa [Y0W G]using g
   rw[<-ey,<-val]at F
   refine wpAny_holding (F _ _ ?_)
   show wpAny _ _ (if(!true)=true then _ else _) _ _ _
   rw[if_neg (show¬(!true)=true from Y05)]
   refine wpAny_bind (wpAny_dictEpoch O R ?_)
   rw[if_neg (by simp)]
   exact wpAny_pure ⟨rfl,rfl,λz B=>m z (Y04 _ B)⟩
 .rintro r Y ⟨rfl,rfl,-⟩
  exact wpAny_pure q
theorem _kV{K:Type} [DecidableEq K] {j:KeyKind P w K}{u m:List (K×Value)}(d:(a==sysModules)=false)(c:(b==sysModules)=false)
  (l:s.heap.DictOf j a u)(g:s.heap.DictOf j b m)(f:A.units<cLine)(r:u.length=m.length)(e:∀p∈u,∃y,valueAt m p.1=some y/\AliP P w A.in1 s p.2 y):RcP P w A s (.ref a) (.ref b):=by
 intro E Q q
 refine wpAny_richCompare_same_room (op:=.Eq) l.typeIs g.typeIs Y3u (wpAny_call_entry Y3u l.typeIs PySem.F.entry_dict_eq ?_ (PySem.F.args_dict_eq_2 _ _)) f
 show wpAny _ _ (Y1p "__eq__" ⟨[.ref a,.ref b],[]⟩>>= _) _ _ s
 refine wpAny_bind ?_
 unfold Y1p
 refine wpAny_bind (wpAny_notOrdered_dict l.typeIs (wpAny_pure (wpAny_bind (wpAny_isInstance (T:="dict") g.typeIs Y3q ?_))))
 rw[if_neg (by decide)]
 refine wpAny_bind (wpAny_pure (wpAny_bind (wpAny_pure (wpAny_bind (_8S d c l g r e ?_)))))
 exact wpAny_pure ⟨_,rfl,(λz=>nomatch z),q⟩
theorem _jx{K:Type} [DecidableEq K] {j:KeyKind P w K}{u m:List (K×Value)}(d:(a==sysModules)=false)(c:(b==sysModules)=false)
  (l:s.heap.DictOf j a u)(g:s.heap.DictOf j b m)(f:A.units<cLine)(r:u.length=m.length)(e:∀p∈u,∃y,valueAt m p.1=some y/\AliP P w A.in1 s p.2 y):RnP P w A s (.ref a) (.ref b):=by
 intro E Q q
 refine wpAny_richCompare_same_room (op:=.NotEq) l.typeIs g.typeIs Y3v (wpAny_call_entry Y3v l.typeIs PySem.F.entry_dict_ne ?_ (PySem.F.args_dict_ne_2 _ _)) f
 show wpAny _ _ (Y1p "__ne__" ⟨[.ref a,.ref b],[]⟩>>= _) _ _ s
 refine wpAny_bind ?_
 unfold Y1p
 refine wpAny_bind (wpAny_notOrdered_dict l.typeIs (wpAny_pure (wpAny_bind (wpAny_isInstance (T:="dict") g.typeIs Y3q ?_))))
 rw[if_neg (by decide)]
 refine wpAny_bind (wpAny_pure (wpAny_bind (wpAny_pure (wpAny_bind (_8S d c l g r e ?_)))))
 exact wpAny_pure ⟨_,rfl,(λz=>nomatch z),q⟩
end
section
variable{X:Cx}
theorem _bH:∀{j:List Str} {u:List Value},Vals (j.map V.str) u->∃l:List (Str×Tok),u=strValues l/\l.map (·.1)=j
 |[],_,.nil=>⟨[],rfl,rfl⟩
 |x::j,_,.cons q r=>by
  obtain⟨l,e,w⟩:=_bH r
  obtain⟨t,rfl⟩:=(show∃t,_=Y1z x t from q)
  exact⟨(x,t)::l,by rw[e];rfl,by rw[Y0a,w]⟩
theorem _hr:MtR X "str.join" (fun x m H Q=>∃j b y,x=.str j/\m=[.ref b]/\SqL X.K H b (y.map V.str)/\y.toArray.foldl (fun n z=>n+z.length+j.length) 0<=sizeLine/\(Y0R j y).length<=sizeLine/\Q (.str (Y0R j y)) H):=by
 intro d s c H x m v A Q I f L h
 obtain⟨j,b,y,rfl,rfl,g,z,N,q⟩:=h
 obtain⟨t,rfl⟩:=f
 obtain⟨u,rfl,O⟩:=_5U L
 obtain rfl:u=Y0O b:=O
 obtain⟨P,r,⟨o,n,R,T,_,U⟩,_⟩:=I.list g
 obtain⟨l,rfl,e⟩:=_bH r
 have W:Y3F ((l.map (·.1)).toArray.foldl (λn z=>n+z.length+j.length) 0)=false:=by
  rw[e];unfold Y3F;exact decide_eq_false (by lia)
 refine call_meets Y3r (typeIs_str s j t) PySem.F.entry_str_join (PySem.F.args_str_join_2 _ _) (meets_str_join_list j t b l W) ⟨⟨o,R,T,n,U⟩,?_⟩
 have w:(Made.str (Y0R j (l.map (·.1)))).post (λv Y=>EP X d c Q v Y) s:=by
  rw[e]
  exact⟨N,.str _,H,I.tok _,⟨_,rfl⟩,q⟩
 match l,e,w with
 |[],_,w=>exact w
 |[p],e,w=>
  refine⟨.str p.1,H,I,⟨_,rfl⟩,?_⟩
  have Z:y=[p.1]:=e.symm
  rw[Z]at q
  exact q
 |_::_::_,_,w=>exact w
end
end L2
namespace L2
open PySem PySem.Spec PyProof.Rows
section
variable{X:Cx}
end
end L2
namespace L2
open PySem PySem.Spec PyProof.Rows
section
variable{X:Cx}{pz:List (Addr×Obj)}{σ:St}{H:Hp}{s:Shared}
def Thw(X:Cx)(H j:Hp):Prop:=j=H\/∃a o u,H a=some (.frz o u)/\Mut (some u)/\(∀l w,X.H₀ a≠some (.frz l w))/\j=upd H a u
theorem Inv.thaw(I:Inv X pz σ H s)(t:Thw X H H'):Inv X pz σ H' s:=by
 rcases t with rfl|⟨a,o,u,e,U,r,rfl⟩
 .exact I
 have j:∀{b:Addr} {y:HO},H b=some y->y≠.frz o u->b≠a:=fun{b y} q n z=>by subst z;rw[e]at q;cases q;exact n rfl
 have l:∀b,H b=none->b≠a:=λb n z=>by subst z;rw[e]at n;cases n
 have st:∀{c:Addr} {y:HO},ObjOk X.prog X.w H s.heap c y->ObjOk X.prog X.w (upd H a u) s.heap c y:=λx=>
  x.stay (λc v _ q=>q) (λc q=>by rw[_0B (j q (λz=>by cases z))];exact q) λc w q=>by rw[_0B (j q (λz=>by cases z))];exact q
 refine⟨I.ok,I.os,I.bare,⟨I.base.keep,I.base.slot,λb L q n N=>?_,I.base.there,λb w q=>?_,λb g d q=>?_,λb O q=>?_⟩,I.loc,I.cell,?_,λx c q=>?_,λp P=>?_,λb v q=>?_,I.len⟩
 .have:=I.base.free b L q n N
  rw[_0B (l b this)];exact this
 .have:=I.base.tups b w q
  rw[_0B (j this (λz=>by cases z))];exact this
 .rw[_0B (λz=>by subst z;exact r g d q)]
  exact I.base.frzs b g d q
 .obtain⟨m,h⟩:=I.base.tbls b O q
  exact⟨m,by rw[_0B (j h (λz=>by cases z))];exact h⟩
 .rw[_0B (l _ I.free)];exact I.free
 .rw[_0B (l _ (I.freeC x c q))];exact I.freeC x c q
 .obtain⟨R,f,T⟩:=I.pin p P
  exact⟨R,by rw[_0B (l _ f)];exact f,T⟩
 .by_cases hb:b=a
  .subst hb;rw[_2R]at q;cases q
   exact st (I.hok b _ e).2
  .rw[_0B hb]at q
   exact st (I.hok b v q)
def thwD(X:Cx)(D:Ends):Ends where
 nx:=λσ H=>∃j,Thw X H j/\D.nx σ j
 rt:=λv H=>∃j,Thw X H j/\D.rt v j
 bk:=λσ H=>∃j,Thw X H j/\D.bk σ j
 ct:=λσ H=>∃j,Thw X H j/\D.ct σ j
theorem PS.thaw{st:Stmt}{t:TS}(h:PS X st t):PS X st (λD σ H=>t (thwD X D) σ H):=by
 intro pz s σ H D I q
 refine thn (h pz s σ H _ I q) λf g z=>?_
 cases f with
 |next=>obtain⟨j,m,l,w,y,d⟩:=z;exact⟨j,w,l.thaw y,d⟩
 |brk=>obtain⟨j,m,l,w,y,d⟩:=z;exact⟨j,w,l.thaw y,d⟩
 |cont=>obtain⟨j,m,l,w,y,d⟩:=z;exact⟨j,w,l.thaw y,d⟩
 |ret u=>obtain⟨v,j,m,l,r,w,y,d⟩:=z;exact⟨v,j,w,l.thaw y,r,d⟩
theorem PE.thaw{e:Expr}{t:TE}(h:PE X e t):PE X e (λσ H Q=>t σ H λv l=>∃j,Thw X l j/\Q v j):=by
 intro pz s σ H Q I q
 refine thn (h pz s σ H _ I q) λu z ⟨v,l,w,r,j,y,d⟩=>⟨v,j,w.thaw y,r,d⟩
end
end L2
namespace L2
open PySem PySem.Spec PyProof.Rows
section
variable{prog:Program}{w:World}{A:Around}{E:Value->Shared->Prop}{s:Shared}{a₀:Array Keyed}
end
section
variable{X:Cx}
end
end L2
namespace L2
open PySem PySem.Spec PyProof.Rows
structure Mrk (t t':SetTable):Prop where
 led:t'.led=t.led
 plain:t.plain=false->t'.plain=false
theorem Mrk.refl(t:SetTable):Mrk t t:=⟨rfl,id⟩
theorem Mrk.trans(x:Mrk a b)(y:Mrk b c):Mrk a c:=⟨y.led.trans x.led,λh=>y.plain (x.plain h)⟩
theorem Mrk.standIn(t:SetTable)(n:Nat):Mrk t (t.standIn n):=⟨rfl,λ_=>rfl⟩
theorem Mrk.orStandIn(t:SetTable)(n:Nat):Mrk t (t.orStandIn n):=by
 unfold SetTable.orStandIn
 split
 .exact .refl t
 .exact .standIn t n
theorem Mrk.lay(t:SetTable)(j:Array (Int×Value))(k:Int)(x:Value):Mrk t (layNew t j k x).2.1:=by
 unfold layNew
 split
 .exact Mrk.trans (b:=(t.put _).1) ⟨rfl,id⟩ (.orStandIn _ _)
 .exact .standIn t _
theorem Mrk.relaid{t:SetTable}(h:t.relaid hs n=some (t',od)):Mrk t t':=by
 unfold SetTable.relaid SetTable.laid at h
 cases j:SetTable.layClean (SetTable.sizeAbove n - 1) hs with
 |none=>rw[j]at h;simp at h
 |some l=>
  rw[j]at h
  simp only[Option.bind_eq_bind,Option.bind_some,Option.pure_def,Y2c,Prod.mk.injEq]at h
  obtain⟨rfl,_⟩:=h
  exact⟨rfl,id⟩
set_option tactic.hygienic true in
theorem Mrk.relay(t:SetTable)(j:Array (Int×Value))(n:Nat):Mrk t (relayAll t j n).2.1:=by
 unfold relayAll
 split
 .rename_i l
  dsimp only
  split
  .exact .relaid l
  .exact .standIn t _
 .exact .standIn t _
noncomputable def txt:Value->Str
 |.str x _=>x
 |_=>⟨#[]⟩
noncomputable def met1(j:List Str)(x:Str):List Str:=if x∈j then j else j++[x]
def met(f:Nat->Str):Nat->List Str
 |0=>[]
 |i+1=>met1 (met f i) (f i)
set_option tactic.hygienic true in
theorem _eA(h:zs.Nodup)(x:Str):(met1 zs x).Nodup:=by
 unfold met1
 split
 .exact h
 .rename_i n
  rw[Y1t]
  exact⟨h,by simp,λa l b j=>by rw[Y0w]at j;subst j;exact λe=>n (e▸l)⟩
theorem _cc(f:Nat->Str):∀i,(met f i).Nodup
 |0=>.nil
 |i+1=>_eA (_cc f i) _
set_option tactic.hygienic true in
theorem _hs:y∈met1 zs x↔y∈zs\/y=x:=by
 unfold met1
 split
 .rename_i h
  exact⟨.inl,λz=>z.elim id λe=>e▸h⟩
 .simp
theorem _fT:∀i,y∈met f i↔∃j,j<i/\f j=y
 |0=>by simp[met]
 |i+1=>by
  unfold met
  rw[_hs,_fT i]
  constructor
  .rintro(⟨j,l,e⟩|e)
   .exact⟨j,by lia,e⟩
   .exact⟨i,by lia,e.symm⟩
  .rintro⟨j,l,e⟩
   by_cases z:j=i
   .subst z;exact .inr e.symm
   .exact .inl ⟨j,by lia,e⟩
theorem _fU(f:Nat->Str):∀i,(met f i).length<=i
 |0=>Y09 _
 |i+1=>by
  have:=_fU f i
  unfold met met1
  split
  .lia
  .rw[Y0i];simp;lia
section
variable{prog:Program}{w:World}{A:Around}{E:Value->Shared->Prop}{s:Shared}
def WSet(prog:Program)(w:World)(o:Obj)(l:List Str):Prop:=
 o.ExactSet/\∃j u t,o.data=.set j u t/\ElemsOf (strKind prog w) j.toList/\(j.toList.map λe=>txt e.2).Perm l/\j.size<scanBound/\t.fits j.size=true
  /\t.led=(!w.params.followText "set-order")/\(l≠ []->t.plain=false)
theorem WSet.fresh:WSet prog w {cls:=.type "set",dict:=none,data:=.set #[] 0 (.fresh 0 0 (!w.params.followText "set-order"))} []:=
 ⟨⟨rfl,rfl,rfl⟩,#[],0,_,rfl,λe j=>by simp at j,by simp,by decide,by rfl,rfl,λh=>absurd rfl h⟩
theorem isT{k:Str}:(strKind prog w).is k v=true↔∃t,v=.str k t:=by
 constructor
 .exact λh=>Value.isStrOf_shape h
 .rintro⟨t,rfl⟩
  exact strKind_is prog w k t
theorem WSet.mem{es:Array (Int×Value)}{zs:List Str}(u:ElemsOf (strKind prog w) es.toList)(y:(es.toList.map λe=>txt e.2).Perm zs)(k:Str):
  k∈zs↔∃e∈es.toList,(strKind prog w).is k e.2=true:=by
 rw[<-y.mem_iff,Y0h]
 constructor
 .rintro⟨e,j,q⟩
  refine⟨e,j,isT.mpr ?_⟩
  obtain⟨⟨m,z,_⟩,_⟩:=u e j
  obtain⟨t,l⟩:=isT.mp z
  rw[l]at q ⊢
  exact⟨t,by rw[<-q];rfl⟩
 .rintro⟨e,j,q⟩
  obtain⟨t,l⟩:=isT.mp q
  exact⟨e,j,by rw[l];rfl⟩
theorem _ah{h:Heap}{a:Addr}{o:Obj}{y:Array (Int×Value)}{u:Nat}{t:SetTable}(m:h.get? a=some o)(hd:o.data=.set y u t)(j:Array (Int×Value))(l:SetTable):
  (h.update a (Obj.putSet j l)).get? a=some {o with data:=.set j (u+1) l}:=by
 have z:=Y1M (Obj.putSet j l) m (by rw[putSet_of j l hd];rfl)
 rwa [putSet_of j l hd]at z
theorem _bE{g:Bool->Sem Unit}(B:∀(b:Bool)(y:Shared)(O:Unit->Shared->Prop),O () y->wpAny (model prog w) A (g b) O E y)
  {a:Addr} {o:Obj} {C:Array (Int×Value)} {D:Nat} {t:SetTable} (P:s.heap.get? a=some o)(f:o.ExactSet)(hd:o.data=.set C D t)
  {j:Array (Int×Value)} {l:SetTable} {T:List Str} (q:ElemsOf (strKind prog w) j.toList)(U:(j.toList.map λe=>txt e.2).Perm T)(W:j.size<scanBound)
  (F:l.fits j.size=true)(z:l.led=(!w.params.followText "set-order"))(r:l.plain=false){L:Bool} {R:Option Bool->Shared->Prop}
  (h:∀N Y,Y1Y a s.heap N->N.get? a=some Y->WSet prog w Y T->R (some true) {s with heap:=N}):
  wpAny (model prog w) A (do
    storeSet a j l
    if(!L&&l.tooFull)=true then do
      g (relayAll l j (Y1D j.size)).2.2
      storeSet a (relayAll l j (Y1D j.size)).1 (relayAll l j (Y1D j.size)).2.1
      pure (some true)
     else pure (some true)) R E s:=by
 refine wpAny_bind (wpAny_storeSet_of P hd ?_ (fits_of_scanBound W))
 have m:=_ah P hd j l
 split
 .have u:=relayAll_perm l j (Y1D j.size)
  have d:=relayAll_fits l j (Y1D j.size)
  have p:=Mrk.relay l j (Y1D j.size)
  generalize relayAll l j (Y1D j.size)=Rl at u d p ⊢
  obtain⟨c,Z,G⟩:=Rl
  dsimp only at u d p ⊢
  have I:c.size=j.size:=by rw[<-Y0o,u.length_eq,Y0o]
  refine wpAny_bind (B _ _ _ ?_)
  refine wpAny_bind (wpAny_storeSet_of m rfl ?_ (fits_of_scanBound (by lia)))
  exact wpAny_pure (h _ _ ((Y10 _ a _).trans (Y10 _ a _)) (_ah m rfl c Z)
   ⟨f,c,_,Z,rfl,q.perm u,(u.map _).trans U,by lia,d,p.led.trans z,λ_=>p.plain r⟩)
 .exact wpAny_pure (h _ _ (Y10 _ a _) m ⟨f,j,_,l,rfl,q,U,W,F,z,λ_=>r⟩)
set_option tactic.hygienic true in
theorem _gZ{a:Addr}{o:Obj}{m:List Str}{x:Str}{g:Tok}{Q:Bool->Shared->Prop}(T:s.heap.get? a=some o)(H:WSet prog w o m)(G:m.length+1<scanBound)
  (h:∀b l u,Y1Y a s.heap l->l.get? a=some u->WSet prog w u (met1 m x)->Q b {s with heap:=l}):
  wpAny (model prog w) A (setAddHashed a (.str x g) ((strKind prog w).hash x)) Q E s:=by
 obtain⟨U,P,ep,t,hd,d,I,hb,v,f,hpl⟩:=id H
 have r:(strKind prog w).is x (.str x g)=true:=strKind_is prog w x g
 have i:P.size=m.length:=by rw[<-I.length_eq,Y01,Y0o]
 unfold setAddHashed setAddHashedIn
 refine wpAny_holding (wpAny_bind (wpAny_setState_of T hd v ?_))
 dsimp only
 rw[byScan_of (x:=.str x g) rfl hb d]
 simp only[↓reduceIte]
 unfold setAddByScan
 refine wpAny_bind (wpAny_bind (wpAny_rule (wpAny_bind (wpAny_setScan_of r T hd v d ?_))))
 have p:=WSet.mem d I x
 cases n:List.findIdx? (λe=>(strKind prog w).is x e.2) P.toList with
 |some j=>
  dsimp only
  obtain⟨hj,J,_⟩:=List.findIdx?_eq_some_iff_getElem.mp n
  have M:x∈m:=p.mpr ⟨_,Y0j hj,J⟩
  refine wpAny_pure (wpAny_pure ?_)
  have:=h false s.heap o (Heap.SameBut.refl a s.heap) T (by unfold met1;rw[if_pos M];exact H)
  cases s
  exact this
 |none=>
  dsimp only
  have M:x∉m:=λz=>by
   obtain⟨e,he,q⟩:=p.mp z
   have:=List.findIdx?_eq_none_iff.mp n e he
   rw[q]at this
   exact Bool.noConfusion this
  have hz:met1 m x=m++[x]:=by unfold met1;rw[if_neg M]
  have R:=layNew_perm t P ((strKind prog w).hash x) (.str x g)
  have c:=layNew_fits t P ((strKind prog w).hash x) (.str x g)
  have F:=Mrk.lay t P ((strKind prog w).hash x) (.str x g)
  generalize layNew t P ((strKind prog w).hash x) (.str x g)=L at R c F ⊢
  obtain⟨O,t1,was,gave⟩:=L
  dsimp only at R c F ⊢
  rw[Array.toList_push]at R
  have N:ElemsOf (strKind prog w) O.toList:=(d.push r rfl).perm R
  have W:(O.toList.map λe=>txt e.2).Perm (met1 m x):=by
   rw[hz]
   refine(R.map _).trans ?_
   rw[Y07]
   exact I.append (.refl _)
  have Y:O.size<scanBound:=by rw[<-Y0o,R.length_eq,Y0i,Y0o];simp;lia
  have S:∀(b:Bool)(y:Shared)(X:Unit->Shared->Prop),X () y->wpAny (model prog w) A (match b with|true=>rule "set.scan.the-table-gave-way"|false=>pure ()) X E y:=
   λb y X hq=>by cases b<;>first|exact wpAny_pure hq|exact wpAny_rule hq
  refine wpAny_bind (S _ _ _ ?_)
  have Z:∀l u,Y1Y a s.heap l->l.get? a=some u->WSet prog w u (met1 m x)->Q true {s with heap:=l}:=λl u B C D=>h true l u B C D
  split
  .rw[hashByValue_scannable 8 (x:=.str x g) rfl]
   refine wpAny_bind (wpAny_pure ?_)
   refine _bE S T U hd N W Y (l:={t1 with plain:=false}) (SetTable.fits_plain_off c) (F.led.trans f) rfl ?_
   intro l u B C D
   exact wpAny_pure (Z l u B C D)
  .rename_i np
   refine wpAny_bind (wpAny_pure ?_)
   simp only[↓reduceIte]
   refine _bE S T U hd N W Y c (F.led.trans f) (by simpa using np) ?_
   intro l u B C D
   exact wpAny_pure (Z l u B C D)
theorem _f7{St:Nat->Shared->Prop}
  (W:WalksS prog w A.in1 I fp wr G n P St)(S:Addr)(m:S∉fp)(f:Nat->Str)(g:∀i v,P i v->∃t,v=.str (f i) t)(y:n+1<scanBound):
  ∀(k i:Nat)(s:Shared)(o:Obj),n - i=k->i<=n->St i s->s.heap.get? S=some o->WSet prog w o (met f i)->
   (∀j T,Moved (S::wr) G s j->j.heap.get? S=some T->WSet prog w T (met f n)->R (.ok (.ret .none)) j)->
   codeAny (model prog w) A (.builtin "set.update.loop" ⟨[.ref S,.ref I],[]⟩) R s:=by
 have d:S∉wr:=λh=>m (W.sub _ h)
 have l:∀b∈wr,b∈S::wr:=λb y=>Y04 _ y
 intro k
 induction k with
 |zero=>
  intro i s o X H u U Y Z
  have B:i=n:=by lia
  subst B
  refine codeAny_builtin F.entry_set_update_loop ?_
  rw[Y0M F.plain_set_update_loop _]
  show wpAny _ A.in1 (pyNext (.ref I)>>= _) _ _ s
  refine wpAny_bind (W.done s _ _ u λj c=>?_)
  exact wpAny_pure (Z j o (c.mono l) (c.heap S _ d U) Y)
 |succ k x=>
  intro i s o X H u U Y Z
  have q:i<n:=by lia
  refine codeAny_builtin F.entry_set_update_loop ?_
  rw[Y0M F.plain_set_update_loop _]
  show wpAny _ A.in1 (pyNext (.ref I)>>= _) _ _ s
  refine wpAny_bind (W.item i s _ _ q u λv j a r c=>?_)
  obtain⟨t,rfl⟩:=g i v a
  have C:=c.heap S _ d U
  show wpAny _ A.in1 (holding [Y1z (f i) t] (setAdd S (.str (f i) t))>>= _) _ _ j
  refine wpAny_bind (wpAny_holding ?_)
  unfold setAdd
  refine wpAny_holding (wpAny_bind ((strKind prog w).pyHash (k:=f i) (strKind_is prog w _ _) ?_))
  refine _gZ (s:={j with toks:=j.toks+1}) C Y (by have:=_fU f i;lia) λb h' T p D J=>?_
  refine wpAny_pure ⟨plainId_quiet F.plain_set_update_loop _,x (i+1) _ T (by lia) q (W.frame _ j _ _ r (Y3G _) λb y o e=>?_) D J λM Q L N O=>?_⟩
  .rw[p.2 b (λz:b=S=>m (by rw[<-z];exact y))];exact e
  .refine Z M Q (Moved.trans W.gtrans ((c.mono l).then_heap (Y3G _) λb o y e=>?_) L) N O
   rw[p.2 b (λz:b=S=>y (by rw[z];exact Y0c))];exact e
noncomputable def Z19(w:World):Obj:={cls:=.type "set",dict:=none,data:=.set #[] 0 (.fresh 0 0 (!w.params.followText "set-order"))}
theorem _gY(a:Value)(h:Q₁ (.ref s.heap.objs.size) {s with heap:=s.heap.push (Z19 w)}):
  codeAny (model prog w) A (.call (.builtin "set.__new__") ⟨[.type "set",a],[]⟩) (wants Q₁ E) s:=by
 refine codeAny_of_tree ?_
 show wpAny _ A.in1 (do checkBuiltinCall "set.__new__" ⟨[.type "set",a],[]⟩;again (.builtin "set.__new__" ⟨[.type "set",a],[]⟩)) _ _ s
 refine wpAny_bind (wpAny_of_eq (F.newCall_set_1 a) (wpAny_pure ⟨plainId_quiet F.plain_set_new _,codeAny_builtin F.entry_set_new ?_⟩))
 rw[Y0M F.plain_set_new _]
 unfold Builtin.«set.__new__» Builtin.Frozenset.newClass
 have j:=sub_set_self
 obtain⟨l,g,d,u,os⟩:=s
 dsimp only
 wp_walk
 refine wpAny_askSetting (wpAny_pure ?_)
 dsimp only
 simp only[newObj]
 refine wpAny_bind (wpAny_alloc (wpAny_pure ?_))
 exact wpAny_pure h
theorem _gG{items:Array Value}
  (hh:A.handled=none)(hl:s.heap.IsList l items)(hi:∀(i:Nat)(v:Value),items[i]?=some v->∃t,v=Y1z (f i) t)(B:items.size+1<scanBound)
  (h:∀(u:Heap)(C:Nat)(o:Obj),u.get? s.heap.objs.size=some o->WSet prog w o (met f items.size)->
   (∀b o,b<s.heap.objs.size->s.heap.get? b=some o->u.get? b=some o)->Q (.ref s.heap.objs.size) {s with heap:=u,toks:=C}):
  wpAny (model prog w) A (call (.type "set") [.ref l]) Q E s:=by
 obtain⟨c,tl,n⟩:=Y1N.mro
 have G:=Y1N.made
 have x:=Y1N.sub
 refine wpAny_call (codeAny_of_tree ?_)
 show wpAny _ _ (callAny (.type "set") _) _ _ _
 refine wpAny_pure ⟨Code.quiet_builtin _ (by decide+kernel),codeAny_builtin F.entry_type_call ?_⟩
 rw[Around.under_plain (weight_type_call_type "set" [.ref l] []) rfl]
 have h1:=Y1N.notType
 have h2:=Y1N.canCreate
 have hct:=F.typeCall_set_1 (.ref l)
 repeat (any_goals (first|assumption|wp_step))
 refine codeAny_mono (_gY (.ref l) (E:=E) (Q₁:=λL z=>L=.ref s.heap.objs.size/\z={s with heap:=s.heap.push (Z19 w)}) ⟨rfl,rfl⟩) λr z I=>?_
 cases r with
 |error e=>exact I
 |ok fl=>
  cases fl with
  |ret L=>
   obtain⟨rfl,rfl⟩:=I
   have a:(s.heap.push (Z19 w)).get? s.heap.objs.size=some (Z19 w):=Y0d _ rfl
   have hT:Y32 {s with heap:=s.heap.push (Z19 w)} (.ref s.heap.objs.size) "set":=⟨_,a,rfl⟩
   have hli:=Y1N.init.lookup
   have hbi:=Y1N.init.bind (.ref s.heap.objs.size)
   repeat (any_goals (first|assumption|wp_step))
   refine codeAny_mono (codeAny_call_builtin (R:=wants (λr m=>r=.none/\∃u C o,m={s with heap:=u,toks:=C}/\
     u.get? s.heap.objs.size=some o/\WSet prog w o (met f items.size)/\
     (∀b o,b<s.heap.objs.size->s.heap.get? b=some o->u.get? b=some o)) E) Y1N.init.plain F.entry_set_init (check_set_init_1 hT ?_)) λN m j=>?_
   .obtain⟨ol,O,P,nl,T⟩:=hl
    obtain⟨ocls,g,J,y⟩:=ol
    simp only at P T
    subst P;subst T
    have U:(s.heap.push (Z19 w)).get? l=some {cls:=.type "list",dict:=g,data:=.seq items nl,slots:=y}:=Y03 _ O
    have hsls:=F.sub_list_set
    have hslf:=F.sub_list_frozenset
    have hne:(Y1X "list"==Y1X "dict")=false:=by decide
    have W:(s.heap.push (Z19 w)).IsList l items:=⟨_,U,rfl,nl,rfl⟩
    unfold Builtin.«set.__init__» noKeywords Builtin.Frozenset.updateFrom
    generalize hPI:pyIter=PI
    wp_walk
    subst hPI
    refine wpAny_pyIter_list W ?_
    refine wpAny_bind (wpAny_runValue ?_)
    have Y:l<s.heap.objs.size:=Y0g O
    have Z:l≠(s.heap.push (Z19 w)).objs.size:=by
     rw[Y1E];exact Y0p (Y1Q Y)
    have M:s.heap.objs.size∉ [(s.heap.push (Z19 w)).objs.size,l]:=by
     rw[Y1E]
     simp only[Y06,Y0k,or_false,not_or]
     exact⟨Y0p (Nat.lt_succ_self _),Y3m Y⟩
    refine _f7 ((Walks.list (A:=A.in1.in1.in1) (by simp[hh]) _ l Z items).toS) s.heap.objs.size
     M f hi B (items.size - 0) 0 _ (Z19 w) (by lia) (Y1e _)
     ⟨⟨_,Y0d _ rfl,rfl,rfl⟩,(W.push _)⟩ (Y03 _ a) WSet.fresh ?_
    intro s' o' D d q
    obtain⟨u,g',d',S,X⟩:=s'
    have eg:g'=s.gens:=D.gens
    have ed:d'=s.drawn:=D.drawn
    have eo:X=s.os:=D.os
    subst eg;subst ed;subst eo
    refine wpAny_pure (wpAny_pure ⟨rfl,u,S,o',rfl,d,q,λb o B e=>?_⟩)
    refine D.heap b o ?_ (Y03 _ (Y03 _ e))
    simp only[Y06,Y0k,or_false,not_or]
    exact⟨Y0p B,by rw[Y1E];exact Y0p (Y1Q B)⟩
   .cases N with
    |error e=>exact j
    |ok p=>
     cases p with
     |ret r=>
      obtain⟨rfl,u,C,o',rfl,d,q,H⟩:=j
      repeat (any_goals (first|assumption|wp_step))
      exact h _ _ _ d q H
     |_=>exact j.elim
  |_=>exact I.elim
end
end L2
namespace L2
open PySem PySem.Spec PyProof.Rows
theorem slot_setiter_next:Slot "set_iterator" "__next__" "set_iterator.__next__":=
 .of (owner:="set_iterator") (n:="__next__") (by rw[typeLookup_type,builtinLookup_eq_fast];kernel_rfl) (by decide+kernel) (by decide+kernel) (by decide+kernel)
  (by first|exact .inl (by decide+kernel)|exact .inr (by decide+kernel)) (by rw[isSubtype_type];kernel_rfl)
theorem _3f:Slot "set_iterator" "__iter__" "set_iterator.__iter__":=
 .of (owner:="set_iterator") (n:="__iter__") (by rw[typeLookup_type,builtinLookup_eq_fast];kernel_rfl) (by decide+kernel) (by decide+kernel) (by decide+kernel)
  (by first|exact .inl (by decide+kernel)|exact .inr (by decide+kernel)) (by rw[isSubtype_type];kernel_rfl)
theorem _2Y:entryFor table "set_iterator.__next__"=some Builtin.«set_iterator.__next__»:=entryFor_of_fast (by kernel_rfl)
theorem _6T:entryFor table "set_iterator.__iter__"=some Builtin.«dict_keyiterator.__iter__»:=
 entryFor_alias (id':="dict_keyiterator.__iter__") (by kernel_rfl) rfl (by decide+kernel) (by kernel_rfl)
theorem _a9:entryFor table "set.__iter__"=some Builtin.«frozenset.__iter__»:=
 entryFor_alias (id':="frozenset.__iter__") (by kernel_rfl) rfl (by decide+kernel) (by kernel_rfl)
theorem _3C(a:Value):argsOk "set_iterator.__next__" ⟨[a],[]⟩:=by unfold argsOk;kernel_rfl
theorem _7j(a:Value):argsOk "set_iterator.__iter__" ⟨[a],[]⟩:=by unfold argsOk;kernel_rfl
theorem ers{j:Type}:∀(l:List j)(i:Nat)(h:i<l.length),(l[i]::l.eraseIdx i).Perm l
 |[],_,h=>absurd h (by simp)
 |x::xs,0,_=>.refl _
 |x::xs,i+1,h=>(List.Perm.swap x _ _).trans ((ers xs i (by simpa using h)).cons x)
section
variable{prog:Program}{w:World}{A:Around}{E:Value->Shared->Prop}{s:Shared}
theorem _kA(j:n≠0)(h:∀i d,i<n->Q i {s with drawn:=d}):wpAny M A (choose src n) Q E s:=λu p l=>by
 unfold choose
 rw[Sem.wp_choose]
 exact⟨j,by rw[Sem.wp_pure];exact h _ _ (Nat.mod_lt _ (Nat.pos_of_ne_zero j))⟩
theorem _iN{z:Type}:∀(n:Nat)(j:List z)(s:Shared)(Q:List z->Shared->Prop),j.length=n->(∀l d,l.Perm j->Q l {s with drawn:=d})->wpAny M A (drawOrder n j) Q E s:=by
 intro n
 induction n with
 |zero=>
  intro j s Q u h
  unfold drawOrder
  have:j=[]:=Y24.mp u
  subst this
  exact wpAny_pure (h [] s.drawn (.refl _))
 |succ n m=>
  intro j s Q u h
  cases j with
  |nil=>simp at u
  |cons x j=>
   unfold drawOrder
   refine wpAny_bind (_kA (by simp) λi d y=>?_)
   rw[Y02 y]
   dsimp only
   refine wpAny_bind (m _ _ _ (by rw[Y2z y];lia) λl g c=>wpAny_pure ?_)
   have:(((x::j)[i])::l).Perm (x::j):=((List.Perm.cons _ c).trans (ers _ _ y))
   exact h _ g this
theorem _jf{u:Type}(next:Nat->Nat):∀(n k:Nat)(j:List u)(out:Array u),j.length=n->(pickOrder.go next n k j out).toList.Perm (out.toList++j):=by
 intro n
 induction n with
 |zero=>
  intro k j out y
  have:j=[]:=Y24.mp y
  subst this
  unfold pickOrder.go
  simp
 |succ n z=>
  intro k j out y
  unfold pickOrder.go
  have l:next k%j.length<j.length:=Nat.mod_lt _ (by lia)
  rw[Y02 l]
  dsimp only
  refine(z _ _ _ (by rw[Y2z l];lia)).trans ?_
  rw[Array.toList_push,Y0x]
  exact(List.Perm.refl _).append (by simpa using ers _ _ l)
theorem _fD{l:Type}(next:Nat->Nat)(j:Array l):(pickOrder next j).toList.Perm j.toList:=by
 unfold pickOrder
 simpa using _jf next j.size 0 j.toList #[] (by simp)
end
end L2
namespace L2
open PySem PySem.Spec PyProof.Rows
section
variable{prog:Program}{w:World}{A:Around}{E:Value->Shared->Prop}{s:Shared}
noncomputable def SIt(h:Heap)(l S:Addr)(j:Value)(i n u:Nat):Prop:=
 ∃o,h.get? l=some o/\o.cls=.type "set_iterator"/\o.data=.fields #[j,.int i 0,.ref S,.int n 0,.int u 0]
theorem SIt.typeIs(x:SIt s.heap it S first i n ep):s.TypeIs (.ref it) "set_iterator":=let⟨o,ho,hc,_⟩:=x;⟨o,ho,hc⟩
theorem _bm{h:Heap}{l:Addr}{o:Obj}{y:Array Value}(z:h.get? l=some o)(hd:o.data=.fields y)(j:Nat)(v:Value):
  ∃u,(h.update l (Obj.mapFields (·.setIfInBounds j v))).get? l=some u/\u.cls=o.cls/\u.data=.fields (y.setIfInBounds j v):=
 ⟨_,Y1M _ z (Obj.isFreed_of_fields (Obj.data_mapFields hd _)),Obj.cls_mapFields ..,Obj.data_mapFields hd _⟩
noncomputable def Nx(w:World)(S:Addr)(u:Array (Int×Value))(y:Nat)(t:SetTable)(l i:Nat):Option (Value×Nat):=
 if w.params.followText "set-order"=true then(pickOrder (w.params.setOrder S y) u)[i]?.map fun e=>(e.2,l)
 else match u[Y2G t.place l]?,t.place[Y2G t.place l]? with
  |some (_,x),some j=>some (x,j+1)
  |_,_=>none
theorem _h4{t:SetTable}
  (j:s.heap.get? S=some o)(l:o.data=.set es ep t)(y:t.fits es.size=true)(hw:w.params.followText "set-order"=true\/(es.size<=1/\t.led=true))
  (h:Q (Nx w S es ep t slot i) s):wpAny (model prog w) A (setNext S slot i ep) Q E s:=by
 unfold setNext
 refine wpAny_bind (wpAny_setState_of j l y ?_)
 refine wpAny_bind (m:=setsByText) (wpAny_bind (wpAny_askSetting (wpAny_pure ?_)))
 show wpAny _ _ (if w.params.followText "set-order"=true then _ else _) _ _ _
 unfold Nx at h
 by_cases hb:w.params.followText "set-order"=true
 .rw[if_pos hb]
  rw[if_pos hb]at h
  simp only[bne_self_eq_false,Y0J,if_false]
  refine wpAny_bind ?_
  unfold setWalk
  refine wpAny_bind (wpAny_setState_of j l y ?_)
  refine wpAny_bind (m:=setsByText) (wpAny_bind (wpAny_askSetting (wpAny_pure ?_)))
  show wpAny _ _ (if w.params.followText "set-order"=true then _ else _) _ _ _
  rw[if_pos hb]
  refine wpAny_bind (wpAny_askSetting (wpAny_pure (wpAny_pure ?_)))
  exact h
 .rw[if_neg hb]
  rw[if_neg hb]at h
  obtain⟨g,z⟩:=hw.resolve_left hb
  have u:(!t.plain&&decide (es.size>1))=false:=by
   rw[decide_eq_false (by lia),Y3A]
  show wpAny _ _ (if(!t.plain&&decide (es.size>1))=true then _ else _) _ _ _
  rw[u,if_neg Y05]
  refine wpAny_bind ?_
  show wpAny _ _ (if(!t.led&& !es.isEmpty)=true then _ else _) _ _ _
  rw[z]
  simp only[Y3N,Y3x,Y0J,if_false]
  exact wpAny_pure (wpAny_pure h)
theorem _dQ(u:A.handled=none)(y:Y3H it s.heap h₁)
  (z:∀l,Y3H it s.heap l->Q none {s with heap:=l}):
  wpAny (model prog w) A.in1 (do let x<- newExc (.type "StopIteration") [];(raiseNew x:Sem Fin)) (fun fin j=>∃v,fin=Fin.done (Flow.ret v)/\wpAny (model prog w) A (pure (some v)) Q E j)
   (fun e j=>wpAny (model prog w) A (do let b<- isInstance e (.type "StopIteration");if b=true then pure none else throw e) Q E j) {s with heap:=h₁}:=by
 refine wpAny_bind ?_
 simp only[newExc,newTuple]
 refine wpAny_bind (wpAny_newObj_type ?_ (by size_fits))
 refine wpAny_bind (m:=firstArgMember _ _) (wpAny_of_eq (a:=Y2n) (by first|rfl|(simp only[firstArgMember];rfl)) ?_)
 refine wpAny_newObj_type ?_ (by size_fits)
 simp only[raiseNew]
 refine wpAny_bind (wpAny_handled ?_)
 rw[show A.in1.handled=none from u]
 refine wpAny_bind (wpAny_pure (wpAny_throw ?_))
 refine wpAny_bind (wpAny_isInstance (T:="StopIteration") (b:=true) ⟨_,Y0d _ rfl,rfl⟩ isSubtype_stop ?_)
 exact wpAny_pure (z _ ((y.push _).push _))
theorem _fl{g S:Addr}{i n d j:Nat}{o:Obj}{y:Array (Int×Value)}{t:SetTable}{Q:Option Value->Shared->Prop}(U:A.handled=none)
  (z:SIt s.heap g S (.int j 0) i n d)(f:s.heap.get? S=some o)(q:o.data=.set y d t)(R:t.fits y.size=true)(W:y.size=n)
  (hw:w.params.followText "set-order"=true\/(y.size<=1/\t.led=true))
  (h1:∀x r,Nx w S y d t j i=some (x,r)->∀c,SIt c g S (.int r 0) (i+1) n d->Y1Y g s.heap c->Q (some x) {s with heap:=c})
  (h2:Nx w S y d t j i=none->∀c,Y3H g s.heap c->Q none {s with heap:=c}):
  wpAny (model prog w) A (pyNext (.ref g)) Q E s:=by
 obtain⟨Z,l,L,u⟩:=id z
 unfold pyNext
 refine wpAny_bind (wpAny_attempt (wpAny_callSpecial?_slot (name:=Y1K "__next__") z.typeIs slot_setiter_next
  (wpAny_call_entry slot_setiter_next z.typeIs _2Y ?_ (_3C _))))
 show wpAny _ _ (fieldsOf (.ref g)>>= _) _ _ s
 refine wpAny_bind (wpAny_fieldsOf l u ?_)
 show wpAny _ _ (setEntries S >>= _) _ _ s
 refine wpAny_bind (wpAny_setEntries_of f q R ?_)
 simp only[W,bne_self_eq_false,Y0J,if_false]
 refine wpAny_bind (m:=setNext _ _ _ _) ?_
 simp only[Y0V]
 refine _h4 f q R hw ?_
 cases T:Nx w S y d t j i with
 |none=>
  dsimp only
  refine wpAny_bind (wpAny_setField l u (by simp) ?_)
  exact _dQ U (Y10 ..).extBut (h2 T)
 |some p=>
  obtain⟨x,r⟩:=p
  dsimp only
  obtain⟨B,e,N,hd1⟩:=_bm l u 0 (rawInt r)
  refine wpAny_bind (wpAny_setField l u (by simp) ?_)
  refine wpAny_bind (wpAny_setField e hd1 (by simp) ?_)
  obtain⟨Y,O,P,hd2⟩:=_bm e hd1 1 (rawInt ((i:Int)+1))
  refine wpAny_pure ⟨x,rfl,wpAny_pure (h1 x r T _ ⟨Y,O,P.trans (N.trans L),?_⟩ ((Y10 ..).trans (Y10 ..)))⟩
  rw[hd2]
  simp[rawInt]
theorem _fk{u S P:Addr}{i n L:Nat}{o op:Obj}{q:Array (Int×Value)}{t:SetTable}{r:Array Value}{Y:Nat}{Q:Option Value->Shared->Prop}(Z:A.handled=none)
  (y:SIt s.heap u S (.ref P) i n L)(d:s.heap.get? S=some o)(c:o.data=.set q L t)(T:t.fits q.size=true)(B:q.size=n)
  (N:s.heap.get? P=some op)(O:op.data=.seq r Y)
  (h1:∀v,r[i]?=some v->∃(p:Nat) (e:Int×Value),v=.int p 0/\q[p]?=some e/\∀g,SIt g u S (.ref P) (i+1) n L->Y1Y u s.heap g->Q (some e.2) {s with heap:=g})
  (h2:r[i]?=none->∀g,Y3H u s.heap g->Q none {s with heap:=g}):
  wpAny (model prog w) A (pyNext (.ref u)) Q E s:=by
 obtain⟨F,j,R,l⟩:=id y
 unfold pyNext
 refine wpAny_bind (wpAny_attempt (wpAny_callSpecial?_slot (name:=Y1K "__next__") y.typeIs slot_setiter_next
  (wpAny_call_entry slot_setiter_next y.typeIs _2Y ?_ (_3C _))))
 show wpAny _ _ (fieldsOf (.ref u)>>= _) _ _ s
 refine wpAny_bind (wpAny_fieldsOf j l ?_)
 show wpAny _ _ (setEntries S >>= _) _ _ s
 refine wpAny_bind (wpAny_setEntries_of d c T ?_)
 simp only[B,bne_self_eq_false,Y0J,if_false]
 refine wpAny_bind (m:=seqItems? _) (wpAny_seqItems N O ?_)
 simp only[Y0V]
 cases U:r[i]? with
 |none=>
  dsimp only
  obtain⟨W,z,f,hd1⟩:=_bm j l 0 (rawInt 0)
  refine wpAny_bind (wpAny_setField j l (by simp) ?_)
  refine wpAny_bind (wpAny_setField z hd1 (by simp) ?_)
  refine _dQ (s:=s) (it:=u) Z ?_ (h2 U)
  exact Heap.SameBut.extBut (Heap.SameBut.trans (Y10 _ _ _) (Y10 _ _ _))
 |some v=>
  obtain⟨p,e,rfl,C,D⟩:=h1 v U
  dsimp only
  refine wpAny_bind ?_
  unfold setNextDrawn
  refine wpAny_bind (wpAny_setState_of d c T ?_)
  simp only[Y0V,bne_self_eq_false,Y0J,if_false,C]
  obtain⟨k,x⟩:=e
  refine wpAny_pure ?_
  obtain⟨W,z,f,hd1⟩:=_bm j l 1 (rawInt ((i:Int)+1))
  refine wpAny_bind (wpAny_setField j l (by simp) ?_)
  refine wpAny_pure ⟨x,rfl,wpAny_pure (D _ ⟨W,z,f.trans R,?_⟩ (Y10 ..))⟩
  rw[hd1]
  simp[rawInt]
end
end L2
namespace L2
open PySem PySem.Spec PyProof.Rows
section
variable{prog:Program}{w:World}{A:Around}{E:Value->Shared->Prop}{s:Shared}
theorem _dR(j:SIt s.heap it S first i n ep)(h:Q (.ref it) s):
  wpAny (model prog w) A (pyIter (.ref it)) Q E s:=by
 refine wpAny_pyIter_slot j.typeIs _3f (wpAny_call_entry _3f j.typeIs _6T ?_ (_7j _))
 show wpAny _ _ (ret (.ref it)) _ _ s
 exact wpAny_pure ⟨_,rfl,"set_iterator",_,j.typeIs,slot_setiter_next.lookup,h⟩
theorem SIt.at(x:SIt h it S first i n ep)(e:∀o,h.get? it=some o->h'.get? it=some o):SIt h' it S first i n ep:=
 let⟨o,ho,r⟩:=x;⟨o,e _ ho,r⟩
theorem _kC(R:A.handled=none){I S:Addr}{n f:Nat}{o:Obj}{y:Array (Int×Value)}{t:SetTable}{T:List Value}{Good:Nat->Nat->Prop}(L:S≠I)
  (d:o.data=.set y f t)(U:t.fits y.size=true)(W:y.size=n)(hw:w.params.followText "set-order"=true\/(y.size<=1/\t.led=true))
  (Y:∀i u,Good i u->(i<n->∃x N,Nx w S y f t u i=some (x,N)/\T[i]?=some x/\Good (i+1) N)/\(i=n->Nx w S y f t u i=none)):
  Walks prog w A I [I,S] [I] n (λi v=>T[i]?=some v) (λi h=>∃u,Good i u/\SIt h I S (.int (u:Nat) 0) i n f/\h.get? S=some o)where
 sub:=λb m=>by simp at m;simp[m]
 frame:=λ_ _ _ st Z=>let⟨u,g,j,l⟩:=st;⟨u,g,j.at λo e=>Z I (by simp) o e,Z S (by simp) _ l⟩
 item:=λi s Q E C st c=>by
  obtain⟨u,g,j,l⟩:=st
  obtain⟨x,N,r,D,F⟩:=(Y i u g).1 C
  refine _fl R j l d U W hw (λG O q p B P=>?_) (λq=>by rw[r]at q;simp at q)
  rw[r]at q
  simp only[Y2c,Prod.mk.injEq]at q
  obtain⟨rfl,rfl⟩:=q
  exact c _ p s.toks D ⟨_,F,B,(P.2 S L).trans l⟩ λb o m e=>(P.2 b (λz=>m (by simp[z]))).trans e
 done:=λs Q E st c=>by
  obtain⟨u,g,j,l⟩:=st
  have r:=(Y n u g).2 rfl
  refine _fl R j l d U W hw (λG O q p B P=>by rw[r]at q;simp at q) (λ_ p a=>c p s.toks λb o m e=>a b o (λz=>m (by simp[z])) e)
 self:=λ_ _ _ _ st c=>let⟨_,_,j,_⟩:=st;_dR j c
theorem _kB(R:A.handled=none){I S P:Addr}{n T Z:Nat}{o op:Obj}{c:Array (Int×Value)}{t:SetTable}{f:List Nat}{U:List Value}(r:S≠I)(p:P≠I)
  (m:o.data=.set c T t)(W:t.fits c.size=true)(Y:c.size=n)(g:op.data=.seq (f.map λi:Nat=>rawInt i).toArray Z)
  (F:f.length=n)(B:∀(i:Nat)(j:Nat),f[i]?=some j->∃e,c[j]?=some e/\U[i]?=some e.2):
  Walks prog w A I [I,S,P] [I] n (λi v=>U[i]?=some v) (λi h=>SIt h I S (.ref P) i n T/\h.get? S=some o/\h.get? P=some op)where
 sub:=λb y=>by simp at y;simp[y]
 frame:=λ_ _ _ st L=>⟨st.1.at λo e=>L I (by simp) o e,L S (by simp) _ st.2.1,L P (by simp) _ st.2.2⟩
 item:=λi s Q E G st d=>by
  refine _fk R st.1 st.2.1 m W Y st.2.2 g (λv u=>?_) (λq=>?_)
  .simp only[Y2i,Y08,Y1G]at u
   obtain⟨j,l,rfl⟩:=u
   obtain⟨e,C,u⟩:=B i j l
   exact⟨j,e,rfl,C,λN D O=>d _ N s.toks u ⟨D,(O.2 S r).trans st.2.1,(O.2 P p).trans st.2.2⟩ λb o y e=>(O.2 b (λz=>y (by simp[z]))).trans e⟩
  .simp at q
   lia
 done:=λs Q E st d=>by
  refine _fk R st.1 st.2.1 m W Y st.2.2 g (λv u=>?_) (λ_ N a=>d N s.toks λb o y e=>a b o (λz=>y (by simp[z])) e)
  simp only[Y2i,Y08,Y1G]at u
  obtain⟨j,l,rfl⟩:=u
  rw[Y1m (by lia)]at l
  simp at l
 self:=λ_ _ _ _ st d=>_dR st.1 d
theorem _gM{d:Type}(l:Array d){u:List Nat}(m:u.Perm (Y0A l.size)):
  ∃g:List d,g.Perm l.toList/\g.length=u.length/\∀(i:Nat)(j:Nat),u[i]?=some j->∃e,l[j]?=some e/\g[i]?=some e:=by
 have y:∀j∈u,j<l.size:=λj z=>Y1i.mp (m.mem_iff.mp z)
 refine⟨u.filterMap λj=>l[j]?,(m.filterMap _).trans (by rw[filterMap_getElem?_range]),?_⟩
 clear m
 induction u with
 |nil=>exact⟨rfl,λi j h=>by simp at h⟩
 |cons j u c=>
  have z:=y j Y0c
  obtain⟨f,q⟩:=c λk r=>y k (Y04 _ r)
  rw[List.filterMap_cons_some (b:=l[j]) (by simp[z])]
  refine⟨by simp[f],λi k h=>?_⟩
  cases i with
  |zero=>
   simp at h
   subst h
   exact⟨l[j],by simp[z],rfl⟩
  |succ i=>
   simp at h
   obtain⟨e,p,L⟩:=q i k h
   exact⟨e,p,by simpa using L⟩
def Zob(prog:Program)(w:World)(z:List Str)(j:Heap)(S I:Addr)(m:Heap):Prop:=
 ∃(u:List Addr) (n:Nat) (l:List Value) (St:Nat->Heap->Prop),
  (∀y:Around,y.handled=none->Walks prog w y I u [I] n (λi v=>l[i]?=some v) St)/\St 0 m/\l.length=n/\(l.map txt).Perm z/\(∀v∈l,∃t,v=Y1z (txt v) t)/\
  (∀b∈u,b=S\/j.objs.size<=b)/\j.objs.size<=I
theorem _cR(h:p.size=1)(j:Nat):Y2G p j=if p[0]'(by lia)<j then 1 else 0:=by
 obtain⟨l⟩:=p
 match l,h with
 |[a],_=>
  show(if 0<1 then(if(#[a]:Array Nat).getD ((0+1)/2) j<j then Y3T #[a] j 0 ((0+1)/2+1) 1 else Y3T #[a] j 0 0 ((0+1)/2))else 0)=if a<j then 1 else 0
  rw[if_pos (by lia)]
  rfl
theorem _f8{S:Addr}{o:Obj}{C:List Str}{Q:Value->Shared->Prop}(p:s.heap.get? S=some o)(hS:WSet prog w o C)
  (hQ:∀(I:Addr)(h':Heap)d,Zob prog w C s.heap S I h'->(∀b o,s.heap.get? b=some o->h'.get? b=some o)->Q (.ref I) {s with heap:=h',drawn:=d}):
  wpAny (model prog w) A (pyIter (.ref S)) Q E s:=by
 obtain⟨hex,u,W,t,hd,hel,hp,Y,N,D,hpl⟩:=id hS
 have hT:s.TypeIs (.ref S) "set":=⟨o,p,hex.1⟩
 have G:S<s.heap.objs.size:=Y0g p
 have hsz:u.size=C.length:=by rw[<-hp.length_eq,Y01,Y0o]
 have O:∀e∈u.toList,∃t,e.2=Y1z (txt e.2) t:=λe c=>by
  obtain⟨⟨k,hk,_⟩,_⟩:=hel e c
  obtain⟨t,ht⟩:=isT.mp hk
  exact⟨t,by rw[ht];rfl⟩
 have hsl:sizeLine=16777216:=by decide
 have hsb:scanBound=4096:=rfl
 refine wpAny_pyIter_slot hT F.slot_set_iter (wpAny_call_entry F.slot_set_iter hT _a9 ?_ (F.args_set_iter_1 _))
 show wpAny _ _ (Y2R S >>= _) _ _ s
 refine wpAny_bind (m:=Y2R S) (wpAny_bind (wpAny_setEntries_of p hd N (wpAny_pure ?_)))
 refine wpAny_bind (m:=setDrawn S) ?_
 unfold setDrawn
 refine wpAny_bind (wpAny_setState_of p hd N ?_)
 refine wpAny_bind (m:=setsByText) (wpAny_bind (wpAny_askSetting (wpAny_pure (wpAny_pure ?_))))
 show wpAny _ _ (if(!w.params.followText "set-order"&&(!t.plain&&decide (u.size>1)))=true then _ else _) _ _ _
 have rest:∀(y:Value)(l:Shared)(R:Fin->Shared->Prop),l.heap.get? S=some o->
   R (.done (.ret (.ref l.heap.objs.size))) {l with heap:=l.heap.push {cls:=.type "set_iterator",data:=.fields #[y,.int 0 0,.ref S,.int (u.size:Nat) 0,.int W 0]} }->
   wpAny (model prog w) A.in1 (do let e<- setEpoch S;let v<- newFields "set_iterator" [y,rawInt 0,.ref S,rawInt (u.size:Nat),rawInt e];ret v) R E l:=by
  intro y l R T h
  refine wpAny_bind (wpAny_setEpoch_of T hd N ?_)
  exact wpAny_bind (wpAny_newObj_type (wpAny_pure h))
 have g:∀(Good:Nat->Nat->Prop)(Z:List Value),Good 0 0->Z.length=u.size->(Z.map txt).Perm C->(∀v∈Z,∃t,v=Y1z (txt v) t)->
   (w.params.followText "set-order"=true\/(u.size<=1/\t.led=true))->
   (∀i f,Good i f->(i<u.size->∃x nx,Nx w S u W t f i=some (x,nx)/\Z[i]?=some x/\Good (i+1) nx)/\(i=u.size->Nx w S u W t f i=none))->
   ∀(l:Shared),l=s->wpAny (model prog w) A.in1 (do let e<- setEpoch S;let v<- newFields "set_iterator" [rawInt 0,rawInt 0,.ref S,rawInt (u.size:Nat),rawInt e];ret v)
    (fun fin s'=>∃v,fin=Fin.done (Flow.ret v)/\∃T' r,s'.TypeIs v T'/\typeLookup (.type T') "__next__"=pure (some r)/\Q v s') E l:=by
  intro Good Z g0 hlv hpv hsv hw hg l J
  subst J
  refine rest _ _ _ p ⟨_,rfl,"set_iterator",_,⟨_,Y0d _ rfl,rfl⟩,slot_setiter_next.lookup,?_⟩
  refine hQ _ _ l.drawn ⟨[l.heap.objs.size,S],u.size,Z,_,λA' hh=>_kC hh (Y0p G) hd N rfl hw hg,⟨0,g0,⟨_,Y0d _ rfl,rfl,rfl⟩,Y03 _ p⟩,hlv,hpv,hsv,λb Y=>?_,Y09 _⟩ λb o e=>Y03 _ e
  simp only[Y06,Y0k,or_false]at Y
  rcases Y with rfl|rfl
  .exact .inr (Y09 _)
  .exact .inl rfl
 by_cases hbt:w.params.followText "set-order"=true
 .rw[hbt]
  simp only[Y3N,Y3x,Y0J,if_false]
  refine wpAny_bind (wpAny_pure ?_)
  have q:=_fD (w.params.setOrder S W) u
  refine g (λ_ _=>True) ((pickOrder (w.params.setOrder S W) u).toList.map (·.2)) trivial ?_ ?_ ?_ (.inl hbt) ?_ s rfl
  .rw[Y01,q.length_eq,Y0o]
  .rw[Y0E]
   exact(q.map _).trans hp
  .intro v M
   obtain⟨e,c,rfl⟩:=Y0h.mp M
   exact O e (q.mem_iff.mp c)
  .intro i f _
   have hps:(pickOrder (w.params.setOrder S W) u).size=u.size:=by rw[<-Y0o,q.length_eq,Y0o]
   unfold Nx
   rw[if_pos hbt]
   refine⟨λhi=>?_,λhi=>?_⟩
   .rw[Y0W (by lia)]
    exact⟨_,_,rfl,by simp[hps,hi],trivial⟩
   .rw[Y28 (by lia)]
    rfl
 .have X:w.params.followText "set-order"=false:=by simpa using hbt
  have hlt:t.led=true:=by rw[D,X];rfl
  rw[X]
  simp only[Y3D,Y3O]
  by_cases h1:u.size>1
  .have hz:C≠ []:=λz=>by rw[z,Y1O]at hsz;lia
   rw[hpl hz,decide_eq_true h1]
   simp only[Y3D,Bool.and_self,if_true]
   refine wpAny_bind (_iN _ _ _ _ (by simp) λB d hj=>?_)
   obtain⟨ys,H,hy2,hy3⟩:=_gM u hj
   have n:B.length=u.size:=by rw[hj.length_eq,Y1f]
   refine wpAny_bind (wpAny_newTuple ?_ (by rw[Y01];lia))
   refine rest _ _ _ (Y03 _ p) ⟨_,rfl,"set_iterator",_,⟨_,Y0d _ rfl,rfl⟩,slot_setiter_next.lookup,?_⟩
   have a:s.heap.objs.size≠(s.heap.push {cls:=.type "tuple",data:=.seq (B.map fun i:Nat=>rawInt i).toArray}).objs.size:=by rw[Y1E];lia
   have hSne:S≠(s.heap.push {cls:=.type "tuple",data:=.seq (B.map fun i:Nat=>rawInt i).toArray}).objs.size:=by rw[Y1E];exact Y0p (Y1Q G)
   have L:s.heap.objs.size<=(s.heap.push {cls:=.type "tuple",data:=.seq (B.map fun i:Nat=>rawInt i).toArray}).objs.size:=by rw[Y1E];lia
   refine hQ _ _ d ⟨[_,S,s.heap.objs.size],u.size,ys.map (·.2),_,λA' hh=>_kB hh (S:=S) (P:=s.heap.objs.size) (o:=o) (f:=B)
    (op:={cls:=.type "tuple",data:=.seq (B.map fun i:Nat=>rawInt i).toArray}) hSne a hd N rfl rfl n ?_,
    ⟨⟨_,Y0d _ rfl,rfl,rfl⟩,Y03 _ (Y03 _ p),Y03 _ (Y0d _ rfl)⟩,?_,?_,?_,λb Y=>?_,?_⟩
    λb o e=>Y03 _ (Y03 _ e)
   .intro i j hij
    obtain⟨e,c,hy⟩:=hy3 i j hij
    exact⟨e,c,by rw[Y08,hy];rfl⟩
   .rw[Y01,hy2,n]
   .rw[Y0E]
    exact(H.map _).trans hp
   .intro v M
    obtain⟨e,c,rfl⟩:=Y0h.mp M
    exact O e (H.mem_iff.mp c)
   .simp only[Y06,Y0k,or_false]at Y
    rcases Y with rfl|rfl|rfl
    .exact .inr L
    .exact .inl rfl
    .exact .inr (Y09 _)
   .exact L
  .rw[decide_eq_false h1]
   simp only[Y3A,Y0J,if_false]
   refine wpAny_bind (wpAny_pure ?_)
   have hfp:t.place.size=u.size:=by
    simp only[SetTable.fits,Y0r,beq_iff_eq,decide_eq_true_eq]at N
    exact N.1
   refine g (λi f=>(i=0->f=0)/\(i=1->∃h:0<t.place.size,f=t.place[0]+1)) (u.toList.map (·.2)) ⟨λ_=>rfl,λz=>absurd z (by lia)⟩ (by simp) ?_ ?_ (.inr ⟨by lia,hlt⟩) ?_ s rfl
   .rw[Y0E]
    exact hp
   .intro v M
    obtain⟨e,c,rfl⟩:=Y0h.mp M
    exact O e c
   .intro i f ⟨g0,g1⟩
    unfold Nx
    rw[if_neg hbt]
    refine⟨λhi=>?_,λhi=>?_⟩
    .have hs1:u.size=1:=by lia
     have hi0:i=0:=by lia
     subst hi0
     have hpz:t.place.size=1:=by lia
     rw[g0 rfl,_cR hpz,if_neg (by lia),Y0W (by lia),Y0W (by lia)]
     refine⟨_,_,rfl,?_,λz=>absurd z (by lia),λ_=>⟨by lia,rfl⟩⟩
     simp[hs1]
    .have U:u[Y2G t.place f]?=none:=by
      by_cases h0:u.size=0
      .exact Y28 (by lia)
      .have hs1:u.size=1:=by lia
       obtain⟨hq,e⟩:=g1 (by lia)
       rw[e,_cR (by lia),if_pos (by lia)]
       exact Y28 (by lia)
     rw[U]
end
end L2
namespace L2
open PySem PySem.Spec PyProof.Rows
section
variable{prog:Program}{w:World}{A:Around}{E:Value->Shared->Prop}{s:Shared}
theorem _cw(hh:A.handled=none)(ho:s.heap.get? S=some o)(hS:WSet prog w o zs)
  (hQ:∀(R:List Value)(T:Heap)(d:Drawn)(g:Array GenState)tk,(R.map txt).Perm zs->(∀v∈R,∃t,v=Y1z (txt v) t)->(∀b o,s.heap.get? b=some o->T.get? b=some o)->g=s.gens->s.heap.objs.size<=T.objs.size->
   Q R {s with heap:=T,drawn:=d,gens:=g,toks:=tk}):wpAny (model prog w) A (collect (.ref S)) Q E s:=by
 obtain⟨U,es,ep,t,hd,hel,hp,Y,hf,hled,hpl⟩:=id hS
 have X:S<s.heap.objs.size:=Y0g ho
 have hsl:sizeLine=16777216:=by decide
 have hsb:scanBound=4096:=rfl
 have hsz:es.size=zs.length:=by rw[<-hp.length_eq,Y01,Y0o]
 unfold collect
 refine wpAny_bind (wpAny_runValue (codeAny_builtin F.entry_proto_collect ?_))
 rw[Y0M F.plain_proto_collect _]
 show wpAny _ A.in1 (newList [] >>= fun l=>again (.builtin "list.__iadd__" ⟨[l,.ref S],[]⟩)) _ _ s
 refine wpAny_bind (wpAny_newObj_type ?_)
 refine wpAny_pure ⟨plainId_quiet F.plain_list_iadd _,codeAny_builtin F.entry_list_iadd ?_⟩
 rw[Y0M F.plain_list_iadd _]
 show wpAny _ A.in1 (Y2s (.ref s.heap.objs.size) (.ref S) (.ref s.heap.objs.size)) _ _ _
 have Z:s.heap.objs.size≠S:=(Y0p X).symm
 generalize hL:s.heap.objs.size=L at*
 have H:(s.heap.push {cls:=.type "list",data:=.seq ([]:List Value).toArray}).get? L=some {cls:=.type "list",data:=.seq ([]:List Value).toArray}:=by
  rw[<-hL];exact Y0d _ rfl
 have r:(s.heap.push {cls:=.type "list",data:=.seq ([]:List Value).toArray}).get? S=some o:=Y03 _ ho
 have f:(s.heap.push {cls:=.type "list",data:=.seq ([]:List Value).toArray}).objs.size=L+1:=by rw[Y1E,hL]
 have B:∀b u,s.heap.get? b=some u->b≠L/\(s.heap.push {cls:=.type "list",data:=.seq ([]:List Value).toArray}).get? b=some u:=fun b u e=>
  ⟨by rw[<-hL];exact Y0p (Y0g e),Y03 _ e⟩
 generalize s.heap.push {cls:=.type "list",data:=.seq ([]:List Value).toArray}=h₁ at*
 have hT:Y32 {s with heap:=h₁} (.ref S) "set":=⟨o,r,U.1⟩
 unfold Y2s
 refine wpAny_bind (wpAny_typeOf hT ?_)
 have e1:Y2S (.ref L) (.ref S)=false:=by simp[Y2S,Z]
 have e2:(Y1X "set"==Y1X "list")=false:=by decide
 have e3:(Y1X "set"==Y1X "tuple")=false:=by decide
 simp only[e1,e2,e3,Bool.or_false,Y0J,if_false]
 refine wpAny_bind (_f8 (s:={s with heap:=h₁}) r hS λI j d hW hk=>?_)
 obtain⟨fp,n,R,St,x,h,a,C,hvs,hfp,hI⟩:=hW
 have p:∀b u,h₁.get? b=some u->j.get? b=some u:=hk
 have N:Y32 {s with heap:=j,drawn:=d} (.ref S) "set":=⟨o,p _ _ r,U.1⟩
 refine wpAny_bind (wpAny_holding ?_)
 unfold Builtin.List.listLengthHint
 refine wpAny_bind (wpAny_specialOf N F.slot_set_len.lookup ?_)
 have hsp:splitId "set.__len__"=some ("set","__len__"):=by decide+kernel
 extract_lets j1 j2
 dsimp -zeta only
 rw[hsp]
 dsimp -zeta only
 refine wpAny_bind (wpAny_isInstance N sub_set_self ?_)
 simp only[Y3N,Y0J,if_false]
 show wpAny _ _ (ite (_=true) _ _) _ _ _
 split
 case isFalse hs=>exact absurd (by rfl) hs
 refine wpAny_bind (wpAny_typeOf N ?_)
 refine wpAny_pure ?_
 split
 case isFalse hs=>exact absurd (by rfl) hs
 refine wpAny_bind (wpAny_rule ?_)
 refine wpAny_bind ?_
 have m:j.get? L=some {cls:=.type "list",data:=.seq ([]:List Value).toArray}:=p _ _ H
 show wpAny _ A.in1 (updateSeq L (·.push .none)>>= λ_=>updateSeq L (·.pop)) _ _ _
 refine wpAny_bind (wpAny_updateSeq m rfl ?_)
 have c:=Y1M (Y2O (·.push Y2n)) m rfl
 refine wpAny_updateSeq c rfl ?_
 have O:=Y1M (Y2O (·.pop)) c rfl
 have D:∀b o,b≠L->j.get? b=some o->((j.update L (Y2O (·.push Y2n))).update L (Y2O (·.pop))).get? b=some o:=
  λb o Y e=>(Y27 _ _ (Y2Z Y)).trans ((Y27 _ _ (Y2Z Y)).trans e)
 have G:L∉fp:=λz=>by
  rcases hfp L z with e|e
  .exact Z e
  .have:L+1<=L:=f▸e
   lia
 have hin:A.in1.handled=none:=by simp[hh]
 have W:=(x A.in1 hin).toS
 have hn:n<=sizeLine:=by
  have:n=zs.length:=by rw[<-a,<-C.length_eq,Y01]
  lia
 refine wpAny_pure ⟨plainId_quiet F.plain_extend_loop _,codeAny_extend_loopS W hn L G _ n 0 _ _ _ rfl (Y1e _)
  (W.frame 0 ({s with heap:=j,drawn:=d}:Shared) _ s.toks h (Y09 _) λb Y o e=>D b o (λz=>G (z▸Y)) e) O (ItemsOf.nil _) λs' y c' M J q=>?_⟩
 show wpAny _ A (load L >>= _) _ _ s'
 refine wpAny_bind (wpAny_load J ?_)
 have hav:y.toList=R:=by
  refine List.ext_getElem? λi=>?_
  by_cases hi:i<y.size
  .have e:=q.2 i y[i] (by simp[hi])
   rw[e]
   simp[hi]
  .rw[Y1m (by simp;lia),Y1m (by have:=q.1;lia)]
 obtain⟨T,g',d',tk',os'⟩:=s'
 have eg:g'=s.gens:=M.gens
 have ed:d'=d:=M.drawn
 have eo:os'=s.os:=M.os
 subst ed;subst eo
 refine wpAny_pure ?_
 show Q y.toList _
 rw[hav]
 refine hQ R T _ g' tk' C hvs (λb u e=>?_) eg (Y3l (Y0g J))
 have P:=B b u e
 refine M.heap b u ?_ (D b u P.1 (p b u P.2))
 simp only[Y06,Y0k,or_false,not_or]
 refine⟨P.1,λz=>?_⟩
 have h1:L+1<=I:=Y0S (Y1L f.symm) hI
 have h2:b<L:=by rw[<-hL];exact Y0g e
 rw[z]at h2
 exact absurd h1 (Nat.not_le_of_lt (Y1Q h2))
theorem _d4(B:A.handled=none)(C:s.heap.get? S=some o)(D:WSet prog w o zs)(F:zs.length<64)
  (h:∀(p:Addr)(r:Heap)(d:Drawn)q (out:List Value)(L:List Str)(e:Nat),s.heap.objs.size<=p->(∀b o,s.heap.get? b=some o->r.get? b=some o)->r.get? p=some (seqObj "list" out.toArray e)->
   StrsAre out L->L.Perm zs->sortedS L=true->Q (.ref p) {s with heap:=r,drawn:=d,toks:=q}):
  wpAny (model prog w) A (call (.builtin "sorted") [.ref S]) Q E s:=by
 refine Calls.call_function_entry kind_sorted plain_sorted entry_sorted (args_sorted1 _) ?_
 unfold Builtin.«sorted»
 refine wpAny_bind (m:=checkCount "sorted" 1 1 _) (wpAny_pure ?_)
 have G:sizeLine=16777216:=by decide
 refine wpAny_bind (_cw (by simp[B]) C D λl j d g q T U I J N=>?_)
 subst J
 have a:l.length=zs.length:=by rw[<-T.length_eq,Y01]
 refine wpAny_bind (wpAny_newList ?_ (by lia))
 have u:(j.push (seqObj "list" l.toArray 0)).get? j.objs.size=some (seqObj "list" l.toArray 0):=Y0d _ rfl
 have y:StrsAre l (l.map strOf):=strsAre_map l λv O=>by obtain⟨t,e⟩:=U v O;exact⟨_,t,e⟩
 have P:l.map strOf=l.map txt:=Y1v λv O=>by obtain⟨t,e⟩:=U v O;rw[e];rfl
 show wpAny _ _ _ _ _ {s with heap:=j.push (seqObj "list" l.toArray 0),drawn:=d,toks:=q}
 refine wpAny_bind (wpAny_holding (wpAny_call_entry slot_list_sort ⟨_,u,rfl⟩ entry_list_sort (list_sort_treeK strKind_oneLt u y.keysOf (λW Y rest e=>keyKind_strs (by rw[<-e];exact y)) (by lia) λz M X=>⟨_,rfl,?_⟩) (args_list_sort _)))
 obtain⟨R,H,Z,i⟩:=sorted_out_str y M X
 refine wpAny_pure ⟨_,rfl,?_⟩
 obtain⟨e,n⟩:=sortedHeap_at (out:=(arrOf z).map (·.2)) u
 refine h j.objs.size _ d q ((arrOf z).map (·.2)).toList R e N (λb o x=>?_) (by rw[Array.toArray_toList];exact n) H (by rw[P]at Z;exact Z.trans T) i
 have c:=I b o x
 have f:b<j.objs.size:=Y0g c
 rw[sortedHeap_old (Y0p f) (by rw[size_push'];exact Y1Q f)]
 exact Y03 _ c
end
end L2
namespace L2
open PySem PySem.Spec PyProof.Rows
theorem Inv.drew(I:Inv X pz σ H s)(d:Drawn):Inv X pz σ H {s with drawn:=d}:=
 ⟨I.ok,I.os,I.bare,I.base,I.loc,I.cell,I.free,I.freeC,I.pin,I.hok,I.len⟩
theorem few{j:List Str}(l:j.Nodup):∀(N:List Str),(∀z∈j,z∈N)->j.length<=N.length:=by
 induction j with
 |nil=>intro N _;exact Y1e _
 |cons z j m=>
  intro N h
  rw[Y15]at l
  have g:=h z Y0c
  have u:=List.perm_cons_erase g
  have:=m l.2 (N.erase z) λy w=>by
   have:=u.mem_iff.mp (h y (Y04 _ w))
   rcases Y06.mp this with e|e
   .exact absurd (e▸w) l.1
   .exact e
  have d:=u.length_eq
  simp only[Y0e]at d ⊢
  lia
theorem _bB:∀{j:List Value} {l:List Str},StrsAre j l->Vals (l.map V.str) j
 |_,_,.nil=>.nil
 |_,_,.cons x t h=>.cons ⟨t,rfl⟩ (_bB h)
def ZgV(X:Cx)(f g:Value)(r:V->Hp->VK->Prop):Prop:=
 ∀(j:List (Addr×Obj))(s:Shared)(l:St)(H:Hp)(x:V)(u:Value)(Q:VK),Inv X j l H s->RelV x u->r x H Q->
  wpAny (model X.prog X.w) X.A (call g [u]) (λv w=>wpAny (model X.prog X.w) X.A (call f [v]) (EP X j l Q) X.xe w) X.xe s
section
variable{X:Cx}
theorem _b7{x y:Str}{id T:String}{r:V->Hp->VK->Prop}{e:Expr}{t:TE}{p L l j:Pos}(P:ZgV X (.builtin id) (.type T) r)
  (R:Gl X x)(U:X.mg x=none)(W:bootBuiltins x=some (.builtin id))(m:Gl X y)(g:X.mg y=none)(d:bootBuiltins y=some (.type T))(Y:PE X e t)
  (Z:x≠"__name__")(c:(x==("__debug__":Str))=false)(f:y≠"__name__")(w:(y==("__debug__":Str))=false)
  (N:starEach [e] X.env=(false,eval e X.env)::starEach [] X.env):
  PE X (.Call (.Name x p) [.Call (.Name y L) [e] [] j] [] l) (λz H Q=>t z H λv q=>r v q Q):=by
 intro O s z H Q I h
 refine wpAny_Call_Name_kw (_6q I R U W ?_ Z c)
 refine Y2g ?_ rfl rfl
 show wpAny _ _ (spliced ((false,eval (.Call (.Name y L) [e] [] j) X.env)::backTo l (starEach [] X.env))) _ _ s
 refine Y1H ?_
 refine wpAny_Call_Name_kw (_6q I m g d ?_ f w)
 refine Y0Z ?_ N rfl
 rw[N]
 show wpAny _ _ (spliced ((false,eval e X.env)::backTo j (starEach [] X.env))) _ _ s
 refine Y1H (thn (Y O s z H _ I h) λu A ⟨v,q,B,C,D⟩=>?_)
 refine Y1P ?_
 exact thn (P O A z q v u Q B C D) λF G E=>Y1P E
theorem _gF(c:X.calm=true):ZgV X (.builtin "sorted") (.type "set") (fun x H Q=>∃(a:Addr) (l N:List Str),x=.ref a/\SqL X.K H a (l.map V.str)/\l.length+1<scanBound/\(∀z∈l,z∈N)/\N.length<64/\
  ∀p (A:List Str),H p=none->A.Nodup->(∀y,y∈A↔y∈l)->sortedS A=true->Q (.ref p) (upd H p (.lst (A.map V.str)))):=by
 intro pz s σ H x u Q I rx h
 obtain⟨a,l,N,rfl,ha,O,S,P,q⟩:=h
 cases rx
 obtain⟨g,n,p,B⟩:=I.list ha
 have hh:=I.ok.hd c
 have R:g.length=l.length:=by rw[<-n.length,Y01]
 have T:g.toArray.size=l.length:=by simp[R]
 have hi:∀(i:Nat)(v:Value),g.toArray[i]?=some v->∃t,v=Y1z (l.getD i ⟨#[]⟩) t:=λi v hv=>by
  have U:g[i]?=some v:=by simpa using hv
  have W:i<l.length:=by rw[<-R];exact(Y0b.mp U).1
  obtain⟨u,hu,ru⟩:=n.get (i:=i) (x:=V.str l[i]) (by simp[W])
  rw[U]at hu
  cases hu
  obtain⟨t,rfl⟩:=ru
  exact⟨t,by simp[Y3P,W]⟩
 have m:∀y,y∈met (λi=>l.getD i ⟨#[]⟩) l.length↔y∈l:=λy=>by
  rw[_fT,List.mem_iff_getElem]
  constructor
  .rintro⟨j,Y,rfl⟩
   exact⟨j,Y,by simp[Y3P,Y]⟩
  .rintro⟨j,Y,rfl⟩
   exact⟨j,Y,by simp[Y3P,Y]⟩
 refine _gG (f:=λi=>l.getD i ⟨#[]⟩) hh p.isList hi (by rw[T];exact O) λh1 Z o ho hS hk=>?_
 rw[T]at hS
 have I1:Inv X pz σ H {s with heap:=h1,toks:=Z}:=I.kept λb u e=>hk b u (Y0g e) e
 have C:=_cc (λi=>l.getD i ⟨#[]⟩) l.length
 refine _d4 (s:={s with heap:=h1,toks:=Z}) hh ho hS (Nat.lt_of_le_of_lt (few C N λz B=>S z ((m z).mp B)) P) λD h2 d E out F e hp G J M w r=>?_
 have L:F.length<=sizeLine:=by
  have hsl:sizeLine=16777216:=by decide
  have:=few C N λz B=>S z ((m z).mp B)
  rw[w.length_eq]
  lia
 have I2:=(I1.laid (a:=D) (t':=E) (h':=h2) (o:=.lst (F.map V.str)) (λb u e=>G b u e) hp
  ⟨by rw[Y01];exact L,out,e,_bB M,J⟩).drew d
 exact⟨.ref D,_,I2,rfl,q D F (I1.hok.fresh hp) (w.nodup_iff.mpr C) (λy=>(w.mem_iff).trans (m y)) r⟩
end
end L2
namespace L2
open PySem PySem.Spec PyProof.Rows
theorem _fX{c:String}(L:c="list"\/c="tuple"){l:Program}{w:World}{A:Around}{E:Value->Shared->Prop}{s:Shared}{a:Addr}{j:Array Value}{n:Nat}{m:Array (Option Value)}{Q:Option Value->Shared->Prop}(r:s.heap.get? a=some ⟨.type c,none,.seq j n,m⟩)(N:A.handled=none)
  (O:∀y f,(∀b o,s.heap.get? b=some o->y.get? b=some o)->Q none {s with heap:=y,toks:=f}):wpAny (model l w) A (getAttr? (.ref a) "keys") Q E s:=by
 obtain⟨id,q,P,T,U,W⟩:∃id,Slot c "__getattribute__" id/\entryFor table id=some Builtin.«object.__getattribute__»/\(∀b,argsOk id ⟨[.ref a,b],[]⟩)/\(∀u,Meets (Builtin.«object.__getattribute__» ⟨[.ref a,.str "keys" u],[]⟩) (fun A R s=>s.heap.get? a=some ⟨.type c,none,.seq j n,m⟩/\raisesAttr (.ref a) "keys" A R s))/\typeLookup (.type c) "__getattr__"=pure none:=by
  rcases L with rfl|rfl
  .exact⟨_,F.slot_list_getattribute,am_entry_list_getattribute,F.args_list_getattribute_2 _,fun u=>meets_getattribute_miss_list a j n m "keys" u (am_miss_of_fast (by kernel_rfl)) (by kernel_rfl),am_list_getattr_none⟩
  .exact⟨_,F.slot_tuple_getattribute,am_entry_tuple_getattribute,F.args_tuple_getattribute_2 _,fun u=>meets_getattribute_miss_tuple a j n m "keys" u (am_miss_of_fast (by kernel_rfl)) (by kernel_rfl),am_tuple_getattr_none⟩
 obtain⟨h,g,d,t,os⟩:=s
 unfold getAttr? getAttrBy? mkText
 refine wpAny_bind (wpAny_bind (wpAny_fresh (wpAny_pure ?_)))
 refine wpAny_bind (wpAny_attempt ?_)
 have p:∀t,(⟨h,g,d,t,os⟩:Shared).TypeIs (.ref a) c:=λ_=>⟨_,r,rfl⟩
 have Y:=q.lookup
 have Z:=q.bind (.ref a)
 repeat (any_goals (first|assumption|exact p _|((with_reducible show wpAny _ _ (call (Value.builtin id) _ _) _ _ _);refine call_meets q (p _) P (T _) (U _) ⟨r,N,λy f e x=>?_⟩)|wp_step))
 have z:(⟨y,g,d,f,os⟩:Shared).TypeIs (.ref e) "AttributeError":=by obtain⟨_,_,o⟩:=x.there;exact⟨_,o,rfl⟩
 show wpAny _ _ (getattributeRaised _ _ _ _ _ _ _) _ _ _
 unfold getattributeRaised
 refine wpAny_bind (wpAny_isInstance z sub_AttributeError ?_)
 simp only[if_true]
 unfold hookBehind onTheHeap
 simp only[Y0J,if_false]
 rw[W]
 refine wpAny_bind (wpAny_pure ?_)
 unfold hookOrError attributeErrorLeaves
 simp only[Y3D,if_true]
 refine wpAny_bind (wpAny_throw ?_)
 refine wpAny_bind (wpAny_isInstance z sub_AttributeError ?_)
 simp only[if_true]
 exact wpAny_pure (O y f x.keeps)
end L2
namespace L2
open PySem PySem.Spec PyProof.Rows
theorem _1y:entryFor table "dict.update.loop"=some Builtin.«dict.update.loop»:=entryFor_of_tree (by kernel_rfl)
theorem _0y:plainId "dict.update.loop"=true:=by decide+kernel
section
variable{prog:Program}{w:World}{A:Around}{E:Value->Shared->Prop}{s:Shared}{K:Type} [DecidableEq K] {knd:KeyKind prog w K}
noncomputable def stTo(j:Nat->K)(l:Nat->Value):Nat->List (K×Value)
 |0=>[]
 |i+1=>stored (stTo j l i) (j i) (l i)
theorem _cZ(j:List (K×Value))(k:K)(v:Value):(stored j k v).length<=j.length+1:=by
 unfold stored
 split<;>simp
theorem _aW(j:Nat->K)(l:Nat->Value):∀i,(stTo j l i).length<=i
 |0=>Y09 _
 |i+1=>Y0S (_cZ _ _ _) (Nat.succ_le_succ (_aW j l i))
theorem _gv{St:Nat->Shared->Prop}
  (W:WalksS prog w A.in1 I fp wr G n P St)(D:Addr)(N:D∉fp)(O:Nat->K)(y:Nat->Value)(p:n<=sizeLine):
  ∀(k i:Nat)(s:Shared),n - i=k->i<=n->St i s->s.heap.DictOf knd D (stTo O y i)->
   (∀j v,P j v->∃q g J L,v=.ref q/\q≠D/\q∉wr/\s.heap.get? q=some L/\L.cls=.type "tuple"/\L.data=.seq #[g,y j] J/\knd.is (O j) g=true)->
   (∀l,Moved (D::wr) G s l->l.heap.DictOf knd D (stTo O y n)->R (.ok (.ret .none)) l)->
   codeAny (model prog w) A (.builtin "dict.update.loop" ⟨[.ref D,.ref I,rawInt (i:Nat),.none],[]⟩) R s:=by
 have T:D∉wr:=λh=>N (W.sub _ h)
 have u:∀b∈wr,b∈D::wr:=λb p=>Y04 _ p
 intro k
 induction k with
 |zero=>
  intro i s hk hi d hd M Q
  have S:i=n:=by lia
  subst S
  refine codeAny_builtin _1y ?_
  rw[Y0M _0y _]
  show wpAny _ A.in1 (pyNext (.ref I)>>= _) _ _ s
  refine wpAny_bind (W.done s _ _ d λl c=>?_)
  refine wpAny_bind (m:=Builtin.Dict.addKeywords D []) (wpAny_pure ?_)
  refine wpAny_pure (Q l (c.mono u) ?_)
  obtain⟨o,X,H,x,r⟩:=hd
  exact⟨o,X,H,c.heap D _ T x,r⟩
 |succ k ih=>
  intro i s hk hi d hd M Q
  have U:i<n:=by lia
  refine codeAny_builtin _1y ?_
  rw[Y0M _0y _]
  show wpAny _ A.in1 (pyNext (.ref I)>>= _) _ _ s
  refine wpAny_bind (W.item i s _ _ U d λv l hP Y c=>?_)
  obtain⟨q,g,J,L,rfl,hqD,a,hq,hqc,hqd,Z⟩:=M i v hP
  have B:=c.heap q _ a hq
  have hd':l.heap.DictOf knd D (stTo O y i):=by
   obtain⟨o,X,H,x,r⟩:=hd
   exact⟨o,X,H,c.heap D _ T x,r⟩
  have hT:l.TypeIs (.ref q) "tuple":=⟨_,B,hqc⟩
  show wpAny _ A.in1 (holding [Y0O q] _ >>= _) _ _ l
  refine wpAny_bind (wpAny_holding ?_)
  refine wpAny_bind (wpAny_tryCatch ?_)
  unfold Builtin.Dict.pairItems
  refine wpAny_bind (wpAny_typeOf hT ?_)
  have e2:(Y1X "tuple"==Y1X "tuple")=true:=rfl
  rw[e2,Bool.or_true,if_pos rfl]
  refine wpAny_bind (wpAny_seqItems B hqd (wpAny_pure ?_))
  show wpAny _ A.in1 (holding [g,y i] (dictSet D g (y i))) _ _ l
  refine wpAny_holding ?_
  have hl:=_aW O y i
  refine wpAny_dictSet_pairs (knd:=knd) Z hd' (λh' hd2 f=>?_) (by lia)
  refine wpAny_pure ⟨plainId_quiet _0y _,?_⟩
  have:=ih (i+1) {l with heap:=h',toks:=l.toks+1} (by lia) U (W.frame _ l _ _ Y (Y3G _) λb p o e=>?_) hd2 (λj v hPj=>?_) λs'' C F=>?_
  .exact this
  .rw[f.2 b (λz:b=D=>N (by rw[<-z];exact p))];exact e
  .obtain⟨q,g,J,L,rfl,a1,a2,a3,a4⟩:=M j v hPj
   exact⟨q,g,J,L,rfl,a1,a2,(f.2 q a1).trans (c.heap q _ a2 a3),a4⟩
  .refine Q s'' (Moved.trans W.gtrans ((c.mono u).then_heap (Y3G _) λb o p e=>?_) C) F
   rw[f.2 b (λz:b=D=>p (by rw[z];exact Y0c))];exact e
theorem _eU{l:Addr}{items:Array Value}{L:Nat}{B:Array (Option Value)}{c:String}{C:Nat->K}{D:Nat->Value}{Q:Value->Shared->Prop}(G:c="list"\/c="tuple")(I:A.handled=none)(x:s.heap.get? l=some ⟨.type c,none,.seq items L,B⟩)(hn:items.size<=sizeLine)
  (ht:∀(j:Nat)v,items[j]?=some v->∃q W J N,v=.ref q/\s.heap.get? q=some N/\N.cls=.type "tuple"/\N.data=.seq #[W,D j] J/\knd.is (C j) W=true)
  (h:∀O tk,O.DictOf knd s.heap.objs.size (stTo C D items.size)->(∀b o,b<s.heap.objs.size->s.heap.get? b=some o->O.get? b=some o)->Q (.ref s.heap.objs.size) {s with heap:=O,toks:=tk}):
  wpAny (model prog w) A (call (.type "dict") [.ref l]) Q E s:=by
 refine callType_codes (Q₁:=fun P d=>P=.ref s.heap.objs.size/\d={s with heap:=s.heap.push {cls:=.type "dict",data:=.dict #[]} }) F.kt_called_dict (F.kt_typeCall_dict_1 _) F.entry_dict_init (kt_code_dict_new _ ⟨rfl,rfl⟩) ?_
 rintro P d ⟨rfl,rfl⟩
 have u:(s.heap.push {cls:=.type "dict",data:=.dict #[]}).DictOf knd s.heap.objs.size []:=Heap.DictOf.new s.heap
 have p:(s.heap.push {cls:=.type "dict",data:=.dict #[]}).get? l=some ⟨.type c,none,.seq items L,B⟩:=Y03 _ x
 have hT:Y32 {s with heap:=s.heap.push {cls:=.type "dict",data:=.dict #[]} } (.ref l) c:=⟨_,p,rfl⟩
 refine⟨u.typeIs,F.args_dict_init_2 _ _,?_⟩
 unfold Builtin.«dict.__init__»
 refine wpAny_bind ?_
 unfold Builtin.Dict.selfAndRest
 refine wpAny_bind (wpAny_notOrdered_dict u.typeIs ?_)
 show wpAny _ _ (pure (s.heap.objs.size,[Y0O l])) _ _ _
 refine wpAny_pure ?_
 show wpAny _ _ (Y33 "dict.__init__" s.heap.objs.size (.ref l) [] .none) _ _ _
 unfold Y33
 refine wpAny_bind (wpAny_typeOf hT ?_)
 rw[if_pos (by rcases G with rfl|rfl<;>decide)]
 refine wpAny_bind (_fX G (s:={s with heap:=s.heap.push {cls:=.type "dict",data:=.dict #[]} }) p (by simp[I]) fun y Y m=>?_)
 simp only[Option.isNone_none,if_true]
 refine wpAny_bind (wpAny_rule ?_)
 have R:y.get? l=some ⟨.type c,none,.seq items L,B⟩:=m _ _ p
 have T:l<s.heap.objs.size:=Y0g x
 have z:s.heap.objs.size<y.objs.size:=by
  obtain⟨o,a,ep,M,_⟩:=u
  exact Y0g (m _ _ M)
 have f:l≠y.objs.size:=Y0p (Y2B T z)
 obtain⟨S,St,k1,k2,k3⟩:∃(S:String) (St:Nat->Heap->Prop),(∀{Q:Value->Shared->Prop} {E:Value->Shared->Prop} {A:Around},Q (.ref y.objs.size) {s with heap:=y.push {cls:=.type S,data:=.fields #[.ref l,.int 0 0]},toks:=Y}->wpAny (model prog w) A (pyIter (.ref l)) Q E {s with heap:=y,toks:=Y})/\Walks prog w A.in1.in1 y.objs.size [y.objs.size,l] [y.objs.size] items.size (λi v=>items[i]?=some v) St/\St 0 (y.push {cls:=.type S,data:=.fields #[.ref l,.int 0 0]}):=by
  rcases G with rfl|rfl
  .have g:y.IsList l items:=⟨_,R,rfl,L,rfl⟩
   exact⟨_,_,λq=>wpAny_pyIter_list (s:={s with heap:=y,toks:=Y}) g q,Walks.list (by simp[I]) _ _ f items,⟨_,Y0d _ rfl,rfl,rfl⟩,g.push _⟩
  .have g:y.IsTuple l items:=⟨_,R,rfl,L,rfl⟩
   exact⟨_,_,λq=>wpAny_pyIter_tuple (s:={s with heap:=y,toks:=Y}) g q,Walks.tuple (by simp[I]) _ _ f items,⟨_,Y0d _ rfl,rfl,rfl⟩,g.push _⟩
 refine wpAny_bind (k1 ?_)
 refine wpAny_pure ⟨plainId_quiet _0y _,?_⟩
 refine _gv (knd:=knd) (n:=items.size) k2.toS s.heap.objs.size ?_ C D hn items.size 0 _ rfl (Y1e _) k3 ?_ ?_ ?_
 .simp only[Y06,Y0k,or_false,not_or]
  exact⟨Y0p z,Y3m T⟩
 .obtain⟨o,a,ep,M,r⟩:=u
  exact⟨o,a,ep,Y03 _ (m _ _ M),r⟩
 .intro j v hv
  obtain⟨q,W,J,N,rfl,a1,a2⟩:=ht j v hv
  have U:q<s.heap.objs.size:=Y0g a1
  refine⟨q,W,J,N,rfl,Y0p U,?_,Y03 _ (m _ _ (Y03 _ a1)),a2⟩
  simp only[Y0w]
  exact Y0p (Y2B U z)
 .intro s' Z hd
  obtain⟨O,g',d',X,H⟩:=s'
  have eg:g'=s.gens:=Z.gens
  have ed:d'=s.drawn:=Z.drawn
  have eo:H=s.os:=Z.os
  subst eg;subst ed;subst eo
  refine⟨rfl,h O X hd λb o hb e=>?_⟩
  refine Z.heap b o ?_ (Y03 _ (m _ _ (Y03 _ e)))
  simp only[Y06,Y0k,or_false,not_or]
  exact⟨Y0p hb,Y0p (Y2B hb z)⟩
end
end L2
namespace L2
open PySem PySem.Spec PyProof.Rows
def ZiG(H:Hp):List (Key×V)->List V->Prop:=Paired fun(p:Key×V) (v:V)=>∃q,v=.ref q/\H q=some (.tup [kV p.1,p.2])
def Zal(j:List (Key×V)):List (Key×V):=j.foldl (λc z=>putK c z.1 z.2) []
theorem Paired.at{α β:Type}{R:α->β->Prop}{xs:List α}{ys:List β}(h:Paired R xs ys):∀(i:Nat)(y:β),ys[i]?=some y->∃x,xs[i]?=some x/\R x y:=by
 induction h with
 |nil=>exact λ_ _ h=>nomatch h
 |cons r _ j=>
  intro i y h
  cases i with
  |zero=>cases h;exact⟨_,rfl,r⟩
  |succ i=>exact j i y h
section
variable{X:Cx}
theorem _aM(f:X.calm=true):Z4c X (.type "dict") (fun xs H Q=>∃(a:Addr) (w:List (Key×V)) (g:List V),xs=[.ref a]/\(H a=some (.lst g)\/H a=some (.tup g))/\ZiG H w g/\∀p,H p=none->Q (.ref p) (upd H p (.dK (Zal w)))):=by
 intro pz s σ H xs us Q I r h
 obtain⟨a,w,g,rfl,U,F,q⟩:=h
 obtain⟨u,rfl,ru⟩:=_5U r
 cases ru
 obtain⟨c,G,P,l,R,sl,L,T⟩:∃c,(c="list"\/c="tuple")/\g.length<=sizeLine/\∃(l:List Value) (R:Nat) (sl:Array (Option Value)),Vals g l/\s.heap.get? a=some ⟨.type c,none,.seq l.toArray R,sl⟩:=by
  rcases U with U|U
  .obtain⟨P,l,R,L,T⟩:=(show ObjOk X.prog X.w H s.heap a (.lst g)from I.hok a _ U)
   exact⟨_,.inl rfl,P,l,R,_,L,T⟩
  .obtain⟨P,l,L,⟨⟨lc,ldc,ld,lsl⟩,T,J,R,M⟩,ol2,W,S⟩:=(show ObjOk X.prog X.w H s.heap a (.tup g)from I.hok a _ U)
   rw[T]at W
   cases W
   cases J;cases M;cases S
   exact⟨_,.inr rfl,P,l,R,_,L,T⟩
 have hh:=I.ok.hd f
 have Y:l.length=w.length:=by rw[<-L.length,F.length]
 obtain⟨x,Z⟩:=Classical.axiomOfChoice (α:=Nat) (β:=fun _=>Value) (r:=fun j B=>∀v,l.toArray[j]?=some v->∃q N C d,v=.ref q/\s.heap.get? q=some d/\d.cls=.type "tuple"/\d.data=.seq #[N,B] C/\∃p,w[j]?=some p/\RelV (kV p.1) N/\RelV p.2 B) fun j=>by
  rw[Y2i]
  cases e:l[j]? with
  |none=>exact⟨.none,λv A=>by cases A⟩
  |some v=>
   obtain⟨y,hy,ry⟩:=Paired.at L j v e
   obtain⟨p,m,q,rfl,hq⟩:=Paired.at F j y hy
   cases ry
   obtain⟨_,ts,rt,ht⟩:=(show ObjOk X.prog X.w H s.heap q (.tup [kV p.1,p.2])from I.hok q _ hq)
   obtain⟨N,B,rfl,D,E⟩:=_f3 rt
   obtain⟨d,ho,G,n,hd⟩:=ht.1
   exact⟨B,λv A=>by cases A;exact⟨q,N,n,d,rfl,ho,G,hd,p,m,D,E⟩⟩
 refine _eU (knd:=Z0M X.prog X.w) (C:=λj=>(w.getD j (.inl 0,.non)).1) (D:=x) G hh T (by simpa [<-L.length]using P) (λj v A=>?_) λh' tk hd hk=>?_
 .obtain⟨q,N,C,d,e1,e2,e3,e4,p,m,D,E⟩:=Z j v A
  refine⟨q,N,C,d,e1,e2,e3,e4,_ce ?_⟩
  rw[Y0N,m]
  exact D
 have kv:∀i,i<=w.length->KV ((w.take i).foldl (λc z=>putK c z.1 z.2) []) (stTo (λj=>(w.getD j (.inl 0,.non)).1) x i):=by
  intro i
  induction i with
  |zero=>intro _;exact .nil
  |succ i ih=>
   intro hi
   have hlt:i<l.length:=by lia
   obtain⟨q,N,C,d,e1,e2,e3,e4,p,m,D,E⟩:=Z i l[i] (by simp[hlt])
   rw[Y0K,m,Y1n,List.foldl_append]
   show KV (putK _ p.1 p.2) (stored _ (w.getD i (.inl 0,.non)).1 _)
   have ek:(w.getD i (.inl 0,.non)).1=p.1:=by rw[Y0N,m];rfl
   rw[ek]
   exact(ih (by lia)).put p.1 E
 have O:=kv w.length (Y09 _)
 rw[List.take_length]at O
 have hsz:l.toArray.size=w.length:=by simp[Y]
 rw[hsz]at hd
 have hpl:w.length<=sizeLine:=by rw[F.length];exact P
 have zl:(Zal w).length<=sizeLine:=by
  have:=O.length
  have l2:=_aW (λj=>(w.getD j (.inl 0,.non)).1) x w.length
  unfold Zal
  lia
 exact⟨.ref s.heap.objs.size,_,I.laid (a:=s.heap.objs.size) (o:=.dK (Zal w)) (t':=tk) (λb u e=>hk b u (Y0g e) e) (Y09 _) (_iC zl (beq_eq_false_iff_ne.mpr (Y2Z (Y0p I.big))) O hd),rfl,q _ (I.hok.fresh (Y09 _))⟩
end
end L2
namespace L2
open PySem PySem.Spec PyProof.Rows
section
variable{X:Cx}
theorem _gN:∀(bs:List Bool),((Y0A bs.length).all λi=>bs.getD i true)=bs.all id:=by
 intro bs
 have e:(Y0A bs.length).map (λi=>bs.getD i true)=bs:=by
  refine Y35 (by simp) λi l j=>?_
  simp[Y3P,j]
 conv=>rhs;rw[<-e]
 rw[List.all_map]
 rfl
theorem _gL(l:X.calm=true):Z4c X (.builtin "all") (fun f H Q=>∃(a:Addr) (bs:List Bool),f=[.ref a]/\SqL X.K H a (bs.map V.bl)/\Q (.bl (bs.all id)) H):=by
 intro Z s A H f B Q I r h
 obtain⟨a,bs,rfl,O,q⟩:=h
 obtain⟨u,rfl,m⟩:=_5U r
 cases m
 obtain⟨j,L,p,C⟩:=I.list O
 have P:=I.ok.hd l
 have w:j.length=bs.length:=by rw[<-L.length,Y01]
 have g:∀(i:Nat)(v:Value),j.toArray[i]?=some v->v=.bool (bs.getD i true):=λi v R=>by
  have y:j[i]?=some v:=by simpa using R
  have z:i<bs.length:=by rw[<-w];exact(Y0b.mp y).1
  obtain⟨u,N,m⟩:=L.get (i:=i) (x:=V.bl bs[i]) (by simp[z])
  rw[y]at N
  cases N
  rw[show v=.bool bs[i]from m]
  simp[Y3P,z]
 have d:a<s.heap.objs.size:=by obtain⟨o,n,e,_⟩:=p;exact Y0g e
 refine PySem.call_all_walk (wpAny_pyIter_list p.isList ⟨_,_,_,_,_,_,λi=>bs.getD i true,rfl,Walks.list (by simp[P]) _ a (Y0p d) j.toArray,⟨⟨_,Y0d _ rfl,rfl,rfl⟩,p.isList.push _⟩,?_,λD T U=>?_⟩)
 .intro i v s Q E W Y
  rw[g i v W]
  exact wpAny_truthy_bool Y
 .have c:j.toArray.size=bs.length:=by simp[w]
  rw[c,_gN]
  refine⟨.bl _,H,I.kept (t':=T) λb o e=>?_,rfl,q⟩
  exact U b o (by simp only[Y0w];exact Y0p (Y0g e)) (Y03 _ e)
end
end L2
namespace L2
open PySem PySem.Spec PyProof.Rows
noncomputable def Its(x:Str):It:=⟨λi _=>i<x.cps.size,λi H v j=>j=H/\∃c,x.cps[i]?=some c/\v=.str ⟨#[c]⟩,λi _=>x.cps.size<=i⟩
theorem _f5{K:Y00}(l:Addr)(x:Str)(t:Tok):Turn P w K tg (Its x) [l] l (fun i h=>h.IsStrIter l "str_ascii_iterator" x t i)where
 mem:=by simp
 obj:=λi h st b u=>by
  have e:b=l:=by simpa using u
  subst e
  obtain⟨o,e,c,d⟩:=st
  exact⟨o,e,λv z=>by rw[d]at z;cases z⟩
 keep:=λi h m st k=>by
  obtain⟨o,e,c,d⟩:=st
  exact⟨o,k l (by simp) o e,c,d⟩
 item:=by
  intro X f q r T i U s W H E I g st j
  subst f q r
  have j:i<x.cps.size:=j
  obtain⟨p,L,Y,N,O,R⟩:=g l (by simp)
  refine wpAny_pyNext_ascii_item st (c:=x.cps[i]) (by simp[j]) λm y Z=>?_
  have A:Inv X U W H {s with heap:=m,toks:=s.toks+1}:=I.turned (λb o u e=>(Z.2 b u).trans e) p L N O R
  obtain⟨o,e,c,d⟩:=id y
  exact⟨_,rfl,_eL (s:={s with heap:=m,toks:=s.toks+1}) e c d (by decide) ⟨.str ⟨#[x.cps[i]]⟩,H,A,⟨_,rfl⟩,⟨rfl,_,by simp[j],rfl⟩,y,λb u=>(g b u).1⟩⟩
 done:=by
  intro X f q r T i U s W H E I g st j
  subst f q r
  have j:x.cps.size<=i:=j
  obtain⟨p,L,Y,N,O,R⟩:=g l (by simp)
  exact wpAny_pyNext_ascii_end (I.ok.hd T) st (by simp[j]) λm B=>⟨rfl,I.turned (g:=s.toks) (λb o u e=>B b o u e) p L N O R⟩
 self:=λ_ _ _ _ _ st h=>wpAny_pyIter_striter_ascii st h
theorem _f4{K:Y00}(l:Addr)(x:Str)(t:Tok):Turn P w K tg (Its x) [l] l (fun i h=>h.IsStrIter l "str_iterator" x t i)where
 mem:=by simp
 obj:=λi h st b u=>by
  have e:b=l:=by simpa using u
  subst e
  obtain⟨o,e,c,d⟩:=st
  exact⟨o,e,λv z=>by rw[d]at z;cases z⟩
 keep:=λi h m st k=>by
  obtain⟨o,e,c,d⟩:=st
  exact⟨o,k l (by simp) o e,c,d⟩
 item:=by
  intro X f q r T i U s W H E I g st j
  subst f q r
  have j:i<x.cps.size:=j
  obtain⟨p,L,Y,N,O,R⟩:=g l (by simp)
  refine wpAny_pyNext_wide_item st (c:=x.cps[i]) (by simp[j]) λm y Z=>?_
  have A:Inv X U W H {s with heap:=m,toks:=s.toks+1}:=I.turned (λb o u e=>(Z.2 b u).trans e) p L N O R
  obtain⟨o,e,c,d⟩:=id y
  exact⟨_,rfl,_eL (s:={s with heap:=m,toks:=s.toks+1}) e c d (by decide) ⟨.str ⟨#[x.cps[i]]⟩,H,A,⟨_,rfl⟩,⟨rfl,_,by simp[j],rfl⟩,y,λb u=>(g b u).1⟩⟩
 done:=by
  intro X f q r T i U s W H E I g st j
  subst f q r
  have j:x.cps.size<=i:=j
  obtain⟨p,L,Y,N,O,R⟩:=g l (by simp)
  exact wpAny_pyNext_wide_end (I.ok.hd T) st (by simp[j]) λm B=>⟨rfl,I.turned (g:=s.toks) (λb o u e=>B b o u e) p L N O R⟩
 self:=λ_ _ _ _ _ st h=>wpAny_pyIter_striter_wide st h
section
variable{X:Cx}{pz:List (Addr×Obj)}{σ:St}{H:Hp}{s:Shared}
theorem _jg{t:Tok}(I:Inv X pz σ H s)(q:R (Its x) H):wpAny (model X.prog X.w) X.A (pyIter (.str x t)) (PIE X pz σ tg R) E s:=by
 have j:∀b∈ [s.heap.objs.size],FpOk X pz H b:=λb u=>by
  have e:b=s.heap.objs.size:=by simpa using u
  subst e
  exact I.fpOk (Y09 _) (I.hok.fresh (Y09 _))
 cases l:x.cps.all (·<128)
 .exact wpAny_pyIter_wide l ⟨s.heap.objs.size,[s.heap.objs.size],_,_,H,rfl,I.kept (t':=s.toks) λb o e=>Y03 _ e,_f4 _ x t,⟨_,Y0d _ rfl,rfl,rfl⟩,j,q⟩
 .exact wpAny_pyIter_ascii l ⟨s.heap.objs.size,[s.heap.objs.size],_,_,H,rfl,I.kept (t':=s.toks) λb o e=>Y03 _ e,_f5 _ x t,⟨_,Y0d _ rfl,rfl,rfl⟩,j,q⟩
def ZnP(X:Cx)(u:TE):TI:=λσ H R=>u σ H λx j=>(∃a,x=.ref a/\((∃l,SqL X.K j a l/\R (Itl X.K a) j)\/(∃l,SqT X.K j a l/\R (Itt X.K a) j)\/False))\/
 ∃z,x=.str z/\R (Its z) j
theorem _jh{f l:Expr}{g:TE}(r:PE X l g):PI X f l (ZnP X g):=by
 intro pz s σ H R I h
 refine thn (r pz s σ H _ I h) λv j ⟨x,d,u,c,L⟩=>?_
 rcases L with⟨a,e,q⟩|⟨z,e,q⟩
 .subst e
  cases c
  rcases q with⟨N,y,q⟩|⟨N,y,q⟩|q
  .obtain⟨w,O,p,P⟩:=u.list y
   refine wpAny_pyIter_list p.isList ?_
   refine⟨j.heap.objs.size,[j.heap.objs.size],_,_,d,rfl,u.kept (t':=j.toks) λb o e=>Y03 _ e,_f6 a _,⟨_,Y0d _ rfl,rfl,rfl⟩,λb m=>?_,q⟩
   have e:b=j.heap.objs.size:=by simpa using m
   subst e
   exact u.fpOk (Y09 _) (u.hok.fresh (Y09 _))
  .obtain⟨w,O,p,P⟩:=u.tuple y
   refine wpAny_pyIter_tuple (show j.heap.IsTuple a w.toArray from p) ?_
   refine⟨j.heap.objs.size,[j.heap.objs.size],_,_,d,rfl,u.kept (t':=j.toks) λb o e=>Y03 _ e,_en a _,⟨_,Y0d _ rfl,rfl,rfl⟩,λb m=>?_,q⟩
   have e:b=j.heap.objs.size:=by simpa using m
   subst e
   exact u.fpOk (Y09 _) (u.hok.fresh (Y09 _))
  .exact q.elim
 .subst e
  obtain⟨t,rfl⟩:=c
  exact _jg u q
theorem _dn(j:∀i,v≠.builtin i)(h:Q (.bool (v==.bool b)) s):wpAny M A (compareOp .Is v (.bool b)) Q E s:=by
 cases v<;>first|exact wpAny_pure h|exact absurd rfl (j _)
theorem _a1(j:∀i,v≠.builtin i)(h:Q (.bool (!(v==.bool b))) s):wpAny M A (compareOp .IsNot v (.bool b)) Q E s:=by
 cases v<;>first|exact wpAny_pure h|exact absurd rfl (j _)
theorem _bY(r:RelV x v):∀i,v≠.builtin i:=λi e=>by
 subst e
 cases x<;>first|(cases r;done)|(obtain⟨t,e⟩:=r;cases e)
set_option tactic.hygienic true in
theorem _dU(r:RelV x v):decide (x=.bl b)=(v==Y2o b):=by
 cases x<;>first
  |(cases r;rename_i c;cases b<;>cases c<;>rfl)
  |(cases r;rfl)
  |(obtain⟨t,rfl⟩:=r;rfl)
theorem _jp:OpR X (compareOp .Is) (λx y H Q=>∃b,y=.bl b/\Q (.bl (decide (x=.bl b))) H):=by
 intro pz s σ H x y v u Q I j l h
 obtain⟨b,rfl,q⟩:=h
 cases l
 exact _dn (_bY j) (_0f I q (_dU j))
theorem _hi:OpR X (compareOp .IsNot) (λx y H Q=>∃b,y=.bl b/\Q (.bl (!decide (x=.bl b))) H):=by
 intro pz s σ H x y v u Q I j l h
 obtain⟨b,rfl,q⟩:=h
 cases l
 exact _a1 (_bY j) (_0f I q (by rw[_dU j]))
theorem _eD{t:Value}(I:Inv X pz σ H s)(w:RelV x u)(ty:TyOf X.K H x t)(e:Y1B X.K t c=some b)(R:Y1B X.K t d=some b')
  (j:s.heap.get? tp=some ⟨.type "tuple",dd,.seq [c,d].toArray n,sl⟩)(h:∀T,Q (.bool (b||b')) {s with toks:=T}):wpAny (model X.prog X.w) A (call (.builtin "isinstance") [u,.ref tp]) Q E s:=by
 have m:Y2H X.K t [c,d]=some (b||b'):=by
  unfold Y2H
  rw[e]
  cases b with
  |true=>rfl
  |false=>
   show Y2H X.K t [d]=some b'
   unfold Y2H
   rw[R]
   cases b'<;>rfl
 cases ty with
 |non=>cases(show u=Y2n from w);exact Y16 PySem.W.kitx_none I.kIn Y1q j m (λz=>nomatch z) h
 |bl y=>cases(show u=Y2o y from w);exact Y16 PySem.W.kitx_bool I.kIn Y1q j m (λz=>nomatch z) h
 |int i=>obtain⟨t,q⟩:=(show∃t,u=Y3J i t from w);cases q;exact Y16 PySem.W.kitx_int I.kIn Y1q j m (λz=>nomatch z) h
 |str y=>obtain⟨t,q⟩:=(show∃t,u=Y1z y t from w);cases q;exact Y16 PySem.W.kitx_str I.kIn Y1q j m (λz=>nomatch z) h
 |flt y=>obtain⟨t,q⟩:=(show∃t,u=Value.float y t from w);cases q;exact Y16 PySem.W.kitx_float I.kIn Y1q j m (λz=>nomatch z) h
 | @lst a r l=>
  cases(show u=Y0O a from w)
  obtain⟨_,_,n,_,g⟩:=(show ObjOk X.prog X.w H s.heap a (.lst r)from I.hok a _ l)
  exact Y16 Y2a I.kIn ⟨_,g,rfl⟩ j m (λz=>nomatch z) h
 | @frz a U r l=>
  cases(show u=Y0O a from w)
  obtain⟨_,_,_,n,_,g⟩:=(show ObjOk X.prog X.w H s.heap a (.frz U (.lst r))from I.hok a _ l)
  exact Y16 Y2a I.kIn ⟨_,g,rfl⟩ j m (λz=>nomatch z) h
 | @tup a r l=>
  cases(show u=Y0O a from w)
  obtain⟨_,_,_,p⟩:=(show ObjOk X.prog X.w H s.heap a (.tup r)from I.hok a _ l)
  obtain⟨o,g,L,_⟩:=p.1
  exact Y16 PySem.W.kitx_tuple I.kIn ⟨o,g,L⟩ j m (λz=>nomatch z) h
 | @dK a f l=>
  cases(show u=Y0O a from w)
  obtain⟨_,_,F,_,p⟩:=(show ObjOk X.prog X.w H s.heap a (.dK f)from I.hok a _ l)
  obtain⟨o,W,Y,g,L,_⟩:=p
  exact Y16 Y2b I.kIn ⟨o,g,L.1⟩ j m (λz=>nomatch z) h
 | @dT a f l=>
  cases(show u=Y0O a from w)
  obtain⟨_,_,r,_,o,W,Y,g,L,_⟩:=(show ObjOk X.prog X.w H s.heap a (.dT f)from I.hok a _ l)
  exact Y16 Y2b I.kIn ⟨o,g,L.1⟩ j m (λz=>nomatch z) h
 | @ins a C G fs l P Z B N D=>
  cases(show u=Y0O a from w)
  obtain⟨M,O,_⟩:=_gj I.hok l
  obtain⟨S,J,_⟩:=O.look
  exact Y16 (PySem.W.kitx_own (P.get _) P.hd Z B N D) I.kIn J j m (λz=>nomatch z) h
theorem _cK:Z4c X (.builtin "isinstance") (fun w H Q=>∃x a c d t b j,w=[x,.ref a]/\H a=some (.tup [.ty c,.ty d])/\TyOf X.K H x t/\Y1B X.K t (.type c)=some b/\Y1B X.K t (.type d)=some j/\Q (.bl (b||j)) H):=by
 intro pz s σ H w Z Q I r h
 obtain⟨x,a,c,d,t,b,j,rfl,m,ty,e,g,q⟩:=h
 obtain⟨u,A,rfl,f,l⟩:=_f3 r
 cases l
 obtain⟨L,N,p,_⟩:=I.tuple (SqT.of (K:=X.K) m)
 obtain⟨⟨O,B,y,C⟩,P,z,n,hd⟩:=id p
 simp only at z hd
 subst z hd
 cases N with
 |cons R T=>
  cases T with
  |cons U W=>
   cases W
   cases R
   cases U
   exact _eD I f ty e g P λY=>⟨.bl (b||j),H,I.tok Y,rfl,q⟩
end
end L2
namespace L2
open PySem PySem.Spec PyProof.Rows
section
variable{X:Cx}
end
end L2
namespace L2
end L2
namespace L2
open PySem PySem.Spec PyProof.Rows
noncomputable def cutS(x:Str)(lo j:Option Int):Str:=⟨((x.cps.toList.drop (HT.sIx x.cps.toList.length 0 lo)).take (HT.sIx x.cps.toList.length x.cps.toList.length j - HT.sIx x.cps.toList.length 0 lo)).toArray⟩
theorem _hL(x:Str)(lo j:Option Int):(cutS x lo j).length<=x.length:=by
 unfold cutS Y3S
 simp only[Y0f,Y0s,Y1a,Y0o]
 lia
theorem _cY(x:Str)(lo j:Option Int):((Y1k lo j 1 x.length).filterMap (x.cps[·]?)).toArray=(cutS x lo j).cps:=by
 obtain⟨l,u,w⟩:=_4d lo j x.length
 have e:Y1k lo j 1 x.length=sliceRange (sliceBounds lo j none x.length).1 (sliceBounds lo j none x.length).2.1 (sliceBounds lo j none x.length).2.2:=rfl
 have y:x.cps.toList.length=x.length:=by simp[Y3S]
 rw[e,l,u,w,sliceRange_one,pick_run]
 unfold cutS
 rw[y]
theorem _eN{lo:Option Int}(h:(Y1k lo hi 1 x.length).length=x.length):cutS x lo hi=x:=by
 obtain⟨l,u,w⟩:=_4d lo hi x.length
 have e:Y1k lo hi 1 x.length=sliceRange (sliceBounds lo hi none x.length).1 (sliceBounds lo hi none x.length).2.1 (sliceBounds lo hi none x.length).2.2:=rfl
 have y:x.cps.toList.length=x.length:=by simp[Y3S]
 rw[e,l,u,w,sliceRange_one,Y01,Y1f]at h
 unfold cutS
 rw[y]
 have m:HT.sIx x.length x.length hi<=x.length:=by
  unfold HT.sIx
  cases hi with
  |none=>exact Y09 _
  |some i=>dsimp only;split<;>lia
 obtain⟨j⟩:=x
 congr 1
 have g:∀(n a b:Nat),b<=n->b - a=n->n=0\/a=0:=by lia
 rcases g _ _ _ m h with z|z
 .have:j.toList=[]:=by
   rw[<-Y24];rw[Y0o];exact z
  simp[this]
  have:j=#[]:=by apply Y36.mp;simpa using this
  rw[this]
 .rw[h,z,Y3E,Y0y (by rw[Y0o];exact Y09 _)]
section
variable{X:Cx}
def rSlS:V->Option Int->Option Int->Hp->VK->Prop:=λx lo j H Q=>∃z:Str,x=.str z/\z.length<=sizeLine/\Q (.str (cutS z lo j)) H
theorem _aE(h:IsPart v o):∃l:Option (Int×Tok),v=partValue l/\l.map (·.1)=o:=by
 cases h with
 |none=>exact⟨none,rfl,rfl⟩
 |int i t=>exact⟨some (i,t),rfl,rfl⟩
theorem _kL:SlR X rSlS:=by
 intro d s c H x v f r lo p L Q I j w y m h
 obtain⟨z,rfl,g,q⟩:=h
 obtain⟨t,rfl⟩:=j
 obtain⟨l,rfl,rfl⟩:=_aE y
 obtain⟨u,rfl,rfl⟩:=_aE m
 refine⟨"str",_,slot_str_getitem.lookup,typeIs_str s z t,?_⟩
 refine wpAny_getItem_str_slice (l:=l) (u:=u) (st:=none) w rfl ?_
 unfold sliceMade
 by_cases hc:(((none:Option (Int×Tok)).map (·.1)).getD 1==1&&(slicePicked z l u none).length==z.length)=true
 .rw[if_pos hc]
  have e:cutS z (l.map (·.1)) (u.map (·.1))=z:=by
   refine _eN ?_
   rw[Y0r]at hc
   exact eq_of_beq hc.2
  rw[e]at q
  exact⟨.str z,H,I,⟨_,rfl⟩,q⟩
 .rw[if_neg hc]
  have e:(⟨((slicePicked z l u none).filterMap (z.cps[·]?)).toArray⟩:Str)=cutS z (l.map (·.1)) (u.map (·.1)):=by
   have:=_cY z (l.map (·.1)) (u.map (·.1))
   unfold slicePicked
   rw[show((none:Option (Int×Tok)).map (·.1)).getD 1=(1:Int)from rfl,this]
  rw[e]
  exact⟨Y0S (_hL _ _ _) g,.str _,H,I.tok _,⟨_,rfl⟩,q⟩
end
end L2
namespace L2
open PySem PySem.Spec PyProof.Rows
theorem _f2:∀{l:List V} {u:List Value},l.length=u.length->(∀(j:Nat)x v,l[j]?=some x->u[j]?=some v->RelV x v)->Vals l u
 |[],[],_,_=>.nil
 |[],_::_,h,_=>by cases h
 |_::_,[],h,_=>by cases h
 |x::l,v::u,h,r=>.cons (r 0 x v rfl rfl) (_f2 (by simpa using h) λj a b w y=>r (j+1) a b (by simpa using w) (by simpa using y))
theorem _dm(h:ItemsOf (λi v=>∃t,v=.int (0+i*1) t) acc n):Vals ((Y0A n).map λi=>V.int (i:Nat)) acc.toList:=by
 refine _f2 (by rw[Y01,Y1f,Y0o];exact h.1.symm) λj x v l u=>?_
 obtain⟨t,rfl⟩:=h.2 j v (by simpa using u)
 rw[Y08]at l
 cases e:(Y0A n)[j]? with
 |none=>rw[e]at l;cases l
 |some k=>
  rw[e]at l
  have w:k=j:=by
   have:=Y0b.mp e
   obtain⟨_,z⟩:=this
   simpa using z.symm
  subst w
  cases l
  exact⟨t,by rw[Y2C,Int.mul_one]⟩
section
variable{X:Cx}{tg:Expr}
theorem _gJ(j:X.calm=true):ZgV X (.type "list") (.type "range") (fun x H Q=>∃n:Nat,x=.int n/\n<=1000000/\∀p,H p=none->Q (.ref p) (upd H p (.lst ((Y0A n).map fun i=>V.int (i:Nat))))):=by
 intro N s O H x u Q I y h
 obtain⟨n,rfl,z,q⟩:=h
 obtain⟨t,rfl⟩:=y
 refine call_range_1 ?_
 have m:((Y0A n).map λi=>V.int (i:Nat)).length<=sizeLine:=by rw[Y01,Y1f];exact Y0S z (by decide)
 have g:=I.ok.hd j
 refine call_list_range (n:=n) g (IsRange.new ..) ?_ ?_ (by lia) λd c l f r e L=>?_
 .exact small_one (by decide) (by decide) (by lia) (by lia)
 .rw[rangeSize_one];split<;>lia
 have w:=I.kept (h':=s.heap.push {cls:=.type "range",data:=.fields #[.int 0 s.toks,.int (n:Int) t,.int 1 (s.toks+1)]}) (t':=s.toks+1+1) fun b o e=>Y03 _ e
 exact⟨.ref _,_,w.laid (t':=c) r (Y09 _) (show ObjOk X.prog X.w _ d _ (.lst ((Y0A n).map λi=>V.int (i:Nat)))from⟨m,l.toList,f,_dm L,by simpa using e⟩),rfl,q _ (w.hok.fresh (Y09 _))⟩
theorem _fI{x y:Str}{id T:String}{r:V->Hp->VK->Prop}{e:Expr}{t:TE}{p L l j:Pos}(P:ZgV X (.type id) (.type T) r)
  (R:Gl X x)(U:X.mg x=none)(W:bootBuiltins x=some (.type id))(m:Gl X y)(g:X.mg y=none)(d:bootBuiltins y=some (.type T))(Y:PE X e t)
  (Z:x≠"__name__")(c:(x==("__debug__":Str))=false)(f:y≠"__name__")(w:(y==("__debug__":Str))=false)
  (N:starEach [e] X.env=(false,eval e X.env)::starEach [] X.env):
  PE X (.Call (.Name x p) [.Call (.Name y L) [e] [] j] [] l) (λz H Q=>t z H λv q=>r v q Q):=by
 intro O s z H Q I h
 refine wpAny_Call_Name_kw (_6q I R U W ?_ Z c)
 refine Y0Z ?_ rfl rfl
 show wpAny _ _ (spliced ((false,eval (.Call (.Name y L) [e] [] j) X.env)::backTo l (starEach [] X.env))) _ _ s
 refine Y1H ?_
 refine wpAny_Call_Name_kw (_6q I m g d ?_ f w)
 refine Y0Z ?_ N rfl
 rw[N]
 show wpAny _ _ (spliced ((false,eval e X.env)::backTo j (starEach [] X.env))) _ _ s
 refine Y1H (thn (Y O s z H _ I h) λu A ⟨v,q,B,C,D⟩=>?_)
 refine Y1P ?_
 exact thn (P O A z q v u Q B C D) λF G E=>Y1P E
end
end L2
namespace L2
open PySem PySem.Spec PyProof.Rows
section
variable{prog:Program}{w:World}{A:Around}{R:Result->Shared->Prop}{I:Addr}{fp wr:List Addr}{n:Nat}{P:Nat->Value->Prop}{St:Nat->Heap->Prop}
end
section
variable{prog:Program}{w:World}{A:Around}{E:Value->Shared->Prop}{s:Shared}
end
section
variable{X:Cx}{x k:Str}{p pos kp:Pos}{e e0:Expr}{te:TE}
end
end L2
namespace HT
open PySem PySem.Spec PyProof.Rows
section
variable{prog:Program}{w:World}{A:Around}{E:Value->Shared->Prop}{s:Shared}
theorem tup_whole{t:Addr}{items:Array Value}{lo:Option Int}(z:IsTup s.heap t items)(m:s.heap.IsSliceOf sl vl vu .none)(g:IsPart vl lo)(d:IsPart vu hi)
  (c:sIx items.size 0 lo=0)(h1:sIx items.size items.size hi=items.size)(h:Q (.ref t) s):wpAny (model prog w) A (getItem (.ref t) (.ref sl)) Q E s:=by
 obtain⟨os,l,u,f⟩:=id m
 have y:s.TypeIs (.ref sl) "slice":=⟨os,l,u⟩
 have j:=z.typeIs
 unfold getItem
 try with_reducible refine wpAny_holding ?_
 first|refine wpAny_bind (wpAny_pure ?_)|skip
 refine wpAny_bind (wpAny_sequenceKey j (by decide) ?_)
 refine wpAny_bind (wpAny_callSpecial?_slot (name:=Y1K "__getitem__") j Y0Q (wpAny_call_entry Y0Q j entry_tuple_getitem ?_ (args_tuple_getitem _ _)))
 show wpAny _ _ (Y2y (.ref t)>>= _) _ _ s;refine wpAny_bind (tupleItemsOf_ z ?_)
 refine wpAny_bind (wpAny_typeOf y ?_);rw[if_pos (by decide)]
 refine wpAny_bind (_3W m g d ?_)
 rw[c,h1]
 show wpAny _ _ (if(((0:Nat):Int)==0&&(1:Int)==1&&(items.size - 0)==items.size)=true then _ else _) _ _ s
 rw[if_pos (by simp)]
 refine wpAny_bind ?_
 show wpAny _ _ (Y2A (.ref t)) _ _ s
 unfold Y2A
 refine wpAny_bind (wpAny_typeOf j (wpAny_pure ?_))
 rw[if_pos (by decide)]
 exact wpAny_bind (wpAny_rule (wpAny_pure ⟨_,rfl,wpAny_pure h⟩))
end
end HT
namespace L2
open PySem PySem.Spec PyProof.Rows
section
variable{X:Cx}
def rSlW(K:Y00):V->Option Int->Option Int->Hp->VK->Prop:=λx lo l H Q=>∃a j,x=.ref a/\SqT K H a j/\HT.sIx j.length 0 lo=0/\HT.sIx j.length j.length l=j.length/\Q (.ref a) H
theorem _iS:SlR X (rSlW X.K):=by
 intro p s e H x v L N lo O P Q I w y z m h
 obtain⟨a,g,rfl,d,c,f,q⟩:=h
 cases w
 obtain⟨l,r,u,R⟩:=I.tuple d
 have j:l.toArray.size=g.length:=by rw[Y0f];exact r.length.symm
 refine⟨"tuple",_,Y0Q.lookup,u.typeIs,?_⟩
 exact HT.tup_whole u y z m (by rw[j];exact c) (by rw[j];exact f) ⟨.ref a,H,I,rfl,q⟩
end
end L2
namespace L2
open PySem PySem.Spec PyProof.Rows
noncomputable def st3{j:Type}(l:List j):List j:=(Y0A ((l.length+2)/3)).filterMap λk=>l[3*k]?
section
variable{X:Cx}{e e3:Expr}{te:TE}{p2 pos:Pos}
end
end L2
namespace L2
open PySem PySem.Spec PyProof.Rows
section
variable{X:Cx}
end
end L2
namespace L2
open PySem PySem.Spec PyProof.Rows
section
variable{X:Cx}
end
end L2
namespace L2
open PySem PySem.Spec PyProof.Rows
section
variable{X:Cx}
theorem _cL:Z4c X (.type "int") (fun j H Q=>∃x n,j=[.str x]/\intText? x=some n/\x.length<=640/\Q (.int n) H):=by
 intro y s z H j m Q I r h
 obtain⟨x,n,rfl,l,w,q⟩:=h
 obtain⟨u,rfl,t,rfl⟩:=_5U r
 exact PySem.W.KIN.call_text l w ⟨.int n,H,I.tok _,⟨_,rfl⟩,q⟩
theorem _cH:Z4c X (.type "str") (fun j H Q=>∃x,j=[.str x]/\Q (.str x) H):=by
 intro l s w H j y Q I r h
 obtain⟨x,rfl,q⟩:=h
 obtain⟨u,rfl,t,rfl⟩:=_5U r
 exact PySem.P.str_of_str ⟨.str x,H,I,⟨_,rfl⟩,q⟩
theorem _fP:MtR X "str.startswith" (fun x j H Q=>∃z y,x=.str z/\j=[.str y]/\Q (.bl (Txt.startswith z y)) H):=by
 intro m s g H x j v d Q I l w h
 obtain⟨z,y,rfl,rfl,q⟩:=h
 obtain⟨t,rfl⟩:=l
 obtain⟨u,rfl,c,rfl⟩:=_5U w
 exact SC.startswith ⟨.bl _,H,I,rfl,q⟩
theorem _hq:MtR X "str.split" (fun x d H Q=>∃z y,x=.str z/\d=[.str y]/\(y.length==0)=false/\z.length+2<=sizeLine/\∀p,H p=none->Q (.ref p) (upd H p (.lst ((Txt.split z y).map V.str)))):=by
 intro c s L H x d v Z Q I P R h
 obtain⟨z,y,rfl,rfl,N,A,q⟩:=h
 obtain⟨t,rfl⟩:=P
 obtain⟨u,rfl,g,rfl⟩:=_5U R
 have T:∀l:List (Str×Tok),Vals ((l.map (·.1)).map V.str) (strValues l):=λl=>by
  induction l with
  |nil=>exact .nil
  |cons p r U=>exact .cons ⟨_,rfl⟩ U
 have O:(Y20 z (Y1w z y 0 z.length (z.length+1)) y.length).length<=sizeLine:=by
  have B:=StrLaws.occ_length_le z y 0 z.length (z.length+1)
  rw[length_partsBetween];omega
 have j:∀(l:List (Str×Tok))(k:Nat),l.map (·.1)=Txt.split z y->l.length<=sizeLine->EP X c L Q (.ref s.heap.objs.size) {s with heap:=s.heap.push {cls:=.type "list",data:=.seq (strValues l).toArray},toks:=k}:=fun l k e W=>
  ⟨.ref s.heap.objs.size,_,I.laid (t':=k) (λb o Y=>Y03 _ Y) (Y09 _) (show ObjOk X.prog X.w _ _ _ (.lst ((Txt.split z y).map V.str))from⟨by rw[<-e,Y01,Y01];exact W,strValues l,0,by rw[<-e];exact T l,Y0d _ rfl⟩),rfl,q _ (I.hok.fresh (Y09 _))⟩
 cases w:(decide (z.length<y.length)||decide (Y3I z<Y3I y))
 .cases m:(Y1w z y 0 z.length (z.length+1)).isEmpty
  .refine call_meets Y37 (typeIs_str _ _ _) Y2T (Y2D _ _) (meets_str_split_sep z y t g w N m (by omega) O) ?_
   show EP X c L Q _ {s with heap:=s.heap.push {cls:=.type "list",data:=.seq (strsFrom s.toks (Y20 z (Y1w z y 0 z.length (z.length+1)) y.length)).toArray},toks:=_}
   rw[strsFrom_eq]
   have e:=(numbered_texts s.toks (Y20 z (Y1w z y 0 z.length (z.length+1)) y.length))
   exact j _ _ (e.trans ((if_neg (ne_true_of_eq_false w)).trans (if_neg (ne_true_of_eq_false m))).symm) (by rw[<-Y01 (f:=(·.1)),e];exact O)
  .exact call_meets Y37 (typeIs_str _ _ _) Y2T (Y2D _ _) (meets_str_split_not_found z y t g w N m) (j [(z,t)] s.toks ((if_neg (ne_true_of_eq_false w)).trans (if_pos m)).symm (show 1<=sizeLine by decide))
 .exact call_meets Y37 (typeIs_str _ _ _) Y2T (Y2D _ _) (meets_str_split_cannot_occur z y t g w) (j [(z,t)] s.toks (if_pos w).symm (show 1<=sizeLine by decide))
def Itv(K:Y00)(a:Addr)(n:Nat):It:=
 ⟨λi H=>i<n/\∃j,SqL K H a j/\j.length=n,λi H x l=>l=H/\∀j,SqL K H a j->j[n - 1 - i]?=some x,λi H=>n<=i⟩
theorem _gX{P:Program}{w:World}{K:Y00}{G:Expr}(a j:Addr)(n:Nat):Turn P w K G (Itv K a n) [j] j (λi h=>i<=n/\h.IsRevIter j a ((n:Int) - 1 - i))where
 mem:=by simp
 obj:=λi h st b l=>by
  have e:b=j:=by simpa using l
  subst e
  obtain⟨_,o,e,c,d⟩:=st
  exact⟨o,e,λv z=>by rw[d]at z;cases z⟩
 keep:=λi h g st k=>⟨st.1,st.2.at λo e=>k j (by simp) o e⟩
 item:=by
  intro X q r L A i B s C H E I f st N
  subst q r L
  obtain⟨O,m,D,rfl⟩:=N
  have F:=Y02 (show m.length - 1 - i<m.length by lia)
  obtain⟨J,M,p,hz⟩:=I.list D
  obtain⟨u,Q,S⟩:=M.get F
  obtain⟨R,T,f2,U,W,Y⟩:=f j (by simp)
  have Z:(m.length:Int) - 1 - (i:Nat)=((m.length - 1 - i:Nat):Int):=by lia
  have e2:((m.length - 1 - i:Nat):Int) - 1=(m.length:Int) - 1 - ((i+1:Nat):Nat):=by lia
  obtain⟨_,st⟩:=st
  rw[Z]at st
  refine wpAny_pyNext_rev_item st p.isList (x:=u) (by simpa using Q) λg y sb=>?_
  rw[e2]at y
  have I1:Inv X B C H {s with heap:=g}:=I.turned (g:=s.toks) (λb o l e=>(sb.2 b l).trans e) R T U W Y
  obtain⟨o,e,c,d⟩:=id y
  exact⟨u,rfl,_eL (s:={s with heap:=g}) e c d (by decide) ⟨_,H,I1,S,⟨rfl,λys hy=>by rw[I.list_inj hy D];exact F⟩,⟨O,y⟩,λb l=>(f b l).1⟩⟩
 done:=by
  intro X q r L A i B s C H E I f st N
  subst q r L
  obtain⟨O,st⟩:=st
  obtain rfl:i=n:=Nat.le_antisymm O N
  obtain⟨R,T,f2,U,W,Y⟩:=f j (by simp)
  have Z:(i:Int) - 1 - (i:Nat)= -1:=by lia
  rw[Z]at st
  exact wpAny_pyNext_rev_end (I.ok.hd A) st λg eb=>⟨rfl,I.turned (g:=s.toks) (λb o l e=>eb b o l e) R T U W Y⟩
 self:=λ_ _ _ _ _ st h=>wpAny_pyIter_revIter st.2 h
def iRev(K:Y00)(u:TA):TI:=λw H R=>u w H λy j=>∃a l,y=[.ref a]/\SqL K j a l/\R (Itv K a l.length) j
theorem _bx:bootBuiltins "reversed"=some (.type "reversed"):=by kernel_rfl
theorem _lt{d a:Expr}{m:TA}{p j:Pos}(c:Gl X "reversed")(f:X.mg "reversed"=none)(r:PA X [a] m)(L:starEach [a] X.env=[(false,eval a X.env)]:=by rfl):PI X d (.Call (.Name "reversed" p) [a] [] j) (iRev X.K m):=by
 intro N s O H R I h
 refine Call_ (_6q I c f _bx (Y0Z (thn (r j N s O H _ I h) λD w ⟨E,P,z,T,U⟩=>?_) L rfl))
 obtain⟨a,g,e,W,q⟩:=U
 subst e
 obtain⟨u,rfl,Y⟩:=_5U T
 cases Y
 obtain⟨y,Z,A,F⟩:=z.list W
 refine call_reversed_list A.isList ?_
 refine wpAny_pyIter_revIter (it:=w.heap.objs.size) (l:=a) (i:=(y.toArray.size:Int) - 1) ⟨_,Y0d _ rfl,rfl,rfl⟩ ?_
 have B:y.length=g.length:=Z.length.symm
 refine⟨w.heap.objs.size,[w.heap.objs.size],_,_,P,rfl,z.kept (t':=w.toks) λb o e=>Y03 _ e,_gX a _ g.length,⟨Y1e _,_,Y0d _ rfl,rfl,?_⟩,λb C=>?_,q⟩
 .simp[B,revObj]
 have e:b=w.heap.objs.size:=by simpa using C
 subst e
 exact z.fpOk (Y09 _) (z.hok.fresh (Y09 _))
end
end L2
namespace L2
open PySem PySem.Spec PyProof.Rows
noncomputable def gV(j:List (Str×Int)):List (Key×V):=j.map λp=>(Y12 p.1,V.int p.2)
structure GDict (P:Program)(w:World)(K:Y00)(a:Addr)(kvs:List (Str×Int)):Prop where
 ns:(a==sysModules)=false
 at_:∃o vs,K.lookup a=some o/\KV (gV kvs) vs/\o.IsDictOf (Z0M P w) vs
theorem _k9{z:Str}:∀{j:List (Str×Int)},valV (gV j) (Y12 z)=(j.lookup z).map V.int
 |[]=>rfl
 |(k,n)::r=>by
  have l:=_k9 (z:=z) (j:=r)
  unfold gV valV at l ⊢
  rw[Y0a,Y1s,Y11]
  by_cases e:k=z
  .subst e
   rw[decide_eq_true rfl,beq_self_eq_true];rfl
  .rw[decide_eq_false (λh=>e (Y2Y h)),beq_eq_false_iff_ne.mpr (Y2Z e)]
   exact l
section
variable{X:Cx}
theorem GDict.now{w:List (Addr×Obj)}{y:St}{H:Hp}{s:Shared}{a:Addr}{j:List (Str×Int)}(g:GDict X.prog X.w X.K a j)(I:Inv X w y H s):∃u,KV (gV j) u/\s.heap.DictOf (Z0M X.prog X.w) a u:=by
 obtain⟨o,u,l,k,d⟩:=g.at_
 exact⟨u,k,Heap.dictOf_iff.mpr ⟨o,I.kIn _ _ l,d⟩⟩
noncomputable def rGin(a:Addr)(j:List (Str×Int)):R2:=λx y H Q=>∃z,x=.str z/\y=.ref a/\Q (.bl (j.lookup z).isSome) H
theorem _ie{a:Addr}{j:List (Str×Int)}(w:GDict X.prog X.w X.K a j):OpR X (compareOp .In) (rGin a j):=by
 intro c s f H x y v u Q I m g h
 obtain⟨z,rfl,rfl,q⟩:=h
 obtain rfl:u=Y0O a:=g
 obtain⟨r,l,d⟩:=w.now I
 refine wpAny_in_of (_ce (k:=Y12 z) m) w.ns d.mapOf ?_
 rw[<-(l.val (Y12 z)).isSome_eq,_k9,Y2P]
 exact⟨.bl _,H,I.tok _,rfl,q⟩
theorem _ly{x:Str}{e:Expr}{t:TE}{a:Addr}{j:List (Str×Int)}{p u:Pos}(r:PE X e t)(L:Gl X x)(N:X.mg x=some (.ref a))(O:GDict X.prog X.w X.K a j)(hd:(x==("__debug__":Str))=false)(P:NoSl e):
  PE X (.Subscript (.Name x p) e u) (λw H Q=>t w H λy m=>∃z n,y=.str z/\j.lookup z=some n/\Q (.int n) m):=by
 intro R s w H Q I h
 refine _iQ Y2I.lookup P (_dl I L N (thn (r R s w H _ I h) λZ A ⟨y,m,c,T,z,n,U,l,q⟩=>?_) hd)
 subst U
 obtain⟨W,g,f⟩:=O.now c
 obtain⟨B,Y,d⟩:=RelO.some_of (v:=V.int n) (o:=valueAt W (Y12 z)) (by rw[<-show valV (gV j) (Y12 z)=some (V.int n) by rw[_k9,l];rfl];exact g.val _)
 exact⟨f.typeIs,wpAny_getItem_of (_ce (k:=Y12 z) T) f.mapOf Y ⟨_,m,c.tok _,d,q⟩⟩
end
end L2
namespace L2
open PySem PySem.Spec PyProof.Rows
inductive GEs (w:World):List (Str×Int)->List DictEntry->Prop
 |nil:GEs w [] []
 |cons {k:Str} {v:Int} {t u:Tok} {kvs:List (Str×Int)} {es:List DictEntry}:GEs w kvs es->GEs w ((k,v)::kvs) (⟨Y1F w.params k,.str k t,.int v u⟩::es)
theorem _nR{P:Program}{w:World}{K:Y00}{a:Addr}{j:List (Str×Int)}{y:List DictEntry}{n:Nat}(g:GEs w j y)(h:K.lookup a=some ⟨.type "dict",none,.dict y.toArray n,#[]⟩)(z:(j.map (·.1)).Nodup)(N:(a==sysModules)=false):GDict P w K a j:=by
 have m:∃l:List (Key×Value),KV (gV j) l/\PySem.Pairs (Z0M P w) y l/\l.map (·.1)=j.map (λp=>Y12 p.1)/\∀e∈y,∃k,(Z0M P w).is k e.key=true/\e.hash=(Z0M P w).hash k:=by
  clear h z N
  induction g with
  |nil=>exact⟨[],.nil,.nil,rfl,λe h=>nomatch h⟩
  | @cons k v t u j y _ R=>
   obtain⟨l,d,c,f,q⟩:=R
   have O:(Z0M P w).is (Y12 k) (.str k t)=true:=_ce (k:=Y12 k) ⟨t,rfl⟩
   refine⟨(Y12 k,.int v u)::l,.cons ⟨rfl,u,rfl⟩ d,.cons O rfl c,by rw[Y0a,Y0a,f],λe r=>?_⟩
   rcases Y06.mp r with L|L
   .subst L;exact⟨Y12 k,O,rfl⟩
   .exact q e L
 obtain⟨l,d,c,f,q⟩:=m
 refine⟨N,_,l,h,d,y.toArray,n,⟨rfl,rfl,rfl⟩,rfl,λe r=>q e (by simpa using r),c,?_⟩
 rw[f]
 unfold List.Nodup at z ⊢
 rw[Y2U]at z ⊢
 exact List.Pairwise.imp (λh e=>h (Y2Y e)) z
end L2
namespace L2
open PySem PySem.Spec PyProof.Rows
noncomputable abbrev tS(n:Int):Str:=Y1K (toString n)
noncomputable def Small(n:Int):Prop:=n.natAbs<10^20
theorem Small.log{n:Int}(h:Small n):n.natAbs.log2<1920:=by
 by_cases z:n.natAbs=0
 .rw[z];decide
 .exact(Nat.log2_lt z).mpr (Y2B h (by decide+kernel))
noncomputable def Wd(x:Str):Prop:=1<=x.length/\x.length<=22/\∀c∈x.cps.toList,c≠32/\c≠10
theorem _62(x:Str):x.cps.toList.length=x.length:=Y0o
noncomputable def dig(m:Nat):List Nat:=(Nat.toDigits 10 m).map Y2V
theorem _9w(m:Nat):NumText.AllDigits (dig m):=by
 intro c l
 obtain⟨u,j,e⟩:=Y0h.mp l
 rw[<-e]
 exact digit_range (Nat.isDigit_of_mem_toDigits (by decide) (by decide) j)
theorem _7l(m:Nat):(tS (m:Int)).cps.toList=dig m:=PySem.W.KIN.signs_num m
theorem _bG(m:Nat):(tS (-((m+1:Nat):Int))).cps.toList=45::dig (m+1):=by
 show(Y1K (toString (Int.negSucc m))).cps.toList=_
 rw[signs_ofString]
 show(("-"++Nat.repr (m+1):String).toList).map Y2V=_
 rw[String.toList_append,Y07,Nat.toList_repr]
 rfl
theorem _bo{m:Nat}(h:m<10^20):(dig m).length<=20:=by unfold dig;rw[Y01];exact digits10_le (by decide) h
theorem _dz(m:Nat):1<=(dig m).length:=by unfold dig;rw[Y01];exact tDigits_len_ge 10 m
theorem _gi(n:Int):(∃m:Nat,n=(m:Int))\/∃m:Nat,n= -((m+1:Nat):Int):=by
 cases n with
 |ofNat m=>exact .inl ⟨m,rfl⟩
 |negSucc m=>exact .inr ⟨m,rfl⟩
theorem _kD{x:Str}{j:List Nat}(e:x.cps.toList=j)(h1:1<=j.length)(h2:j.length<=22)(h3:∀c∈j,c≠32/\c≠10):Wd x:=by
 have:=_62 x
 rw[e]at this
 exact⟨by lia,by lia,by rw[e];exact h3⟩
theorem Small.wd{n:Int}(h:Small n):Wd (tS n):=by
 have l:∀m,∀c∈dig m,c≠32/\c≠10:=λm c j=>by have:=_9w m c j;lia
 rcases _gi n with⟨m,rfl⟩|⟨m,rfl⟩
 .have h:m<10^20:=by have h:(m:Int).natAbs<10^20:=h;lia
  have:=_bo h
  exact _kD (_7l m) (_dz m) (by lia) (l m)
 .have h:m+1<10^20:=by have h:(-((m+1:Nat):Int)).natAbs<10^20:=h;lia
  have:=_bo h
  refine _kD (_bG m) (by simp) (by simp only[Y0e];lia) λc j=>?_
  rcases Y06.mp j with rfl|j
  .decide
  .exact l _ c j
theorem _ee{m:Nat}{r:List Nat}(h:dig m=48::r):m=0:=by
 have v:NumText.digitsVal (dig m)=m:=Y3w m
 have e:=NumText.toDigits_all (dig m) (_9w m)
 rw[v]at e
 have j:=congrArg Y1I h
 unfold dig at j
 rw[Y01,e,h,Y0e]at j
 have hd:(48::r).dropWhile (·==48)=r.dropWhile (·==48):=rfl
 rw[hd]at j
 have u:(r.dropWhile (·==48)).length<=r.length:=by
  exact(List.dropWhile_sublist (l:=r) (·==48)).length_le
 cases q:r.dropWhile (·==48)with
 |nil=>
  rw[q]at j
  have:r=[]:=Y17 (by simpa using j.symm)
  rw[<-v,h,this];rfl
 |cons c s=>
  rw[q]at j u
  simp at j u
  lia
theorem _hm{m:Nat}(h:m<10^20):intText? (tS (m:Int))=some (m:Int)/\1<=(tS (m:Int)).length/\(tS (m:Int)).length<=20:=by
 have l:=_62 (tS (m:Int))
 rw[_7l]at l
 have u:=_bo h
 have j:=_dz m
 refine⟨?_,by lia,by lia⟩
 have e:=intText_digits (x:=tS (m:Int)) (by rw[_7l];exact _9w m) (by rw[_7l];intro z;rw[z]at j;cases j) (by lia)
 rw[_7l]at e
 rw[e]
 exact congrArg (λx:Nat=>some (x:Int)) (Y3w m)
theorem _e1{z:Str}{c:Nat}{r:List Nat}(h:z.cps.toList=c::r):Txt.startswith z "-"=decide (c=45):=by
 have l:=_62 z
 rw[h]at l
 unfold Txt.startswith
 have j:decide (0+("-":Str).length<=z.length)=true:=decide_eq_true (by rw[<-l];show 0+1<=r.length+1;lia)
 rw[j,Y3O,StrLaws.subAt_eq,h]
 show([c]== [45])=decide (c=45)
 by_cases e:c=45
 .subst e;rfl
 .rw[decide_eq_false e];simp[e]
noncomputable def jn(c:Nat):List (List Nat)->List Nat
 |[]=>[]
 |[a]=>a
 |a::b::r=>a++c::jn c (b::r)
theorem _hv(c:Nat):∀j:List Str,(Y3U ⟨#[c]⟩ j).cps.toList=jn c (j.map λp=>p.cps.toList)
 |[]=>rfl
 |[p]=>rfl
 |p::q::r=>by
  show(p++⟨#[c]⟩++Y3U ⟨#[c]⟩ (q::r)).cps.toList=_
  rw[Str.cps_append,Y2t,Str.cps_append,Y2t,_hv c (q::r),Y0x]
  rfl
theorem _iE{c:Nat}:∀{a b x y:List Nat},c∉a->c∉b->a++c::x=b++c::y->a=b/\x=y
 |[],[],_,_,_,_,h=>⟨rfl,(Y1x h).2⟩
 |[],d::b,_,_,_,hb,h=>absurd (Y1x h).1 λe=>hb (e▸Y0c ..)
 |d::a,[],_,_,ha,_,h=>absurd (Y1x h).1 λe=>ha (e▸Y0c ..)
 |d::a,e::b,x,y,ha,hb,h=>by
  obtain⟨j,l⟩:=Y1x h
  obtain⟨u,w⟩:=_iE (λz=>ha (Y04 _ z)) (λz=>hb (Y04 _ z)) l
  exact⟨by rw[j,u],w⟩
theorem _iq{c:Nat}:∀{j bs:List (List Nat)},j≠ []->bs≠ []->(∀a∈j,c∉a)->(∀b∈bs,c∉b)->jn c j=jn c bs->j=bs
 |[],_,h,_,_,_,_=>absurd rfl h
 |_::_,[],_,h,_,_,_=>absurd rfl h
 |[a],[b],_,_,_,_,h=>congrArg (λx=>[x]) h
 |[a],b::d::r,_,_,ha,_,h=>absurd (show c∈a by rw[show a=b++c::jn c (d::r)from h];exact Y0I b (Y0c ..)) (ha a (Y0c ..))
 |a::d::r,[b],_,_,_,hb,h=>absurd (show c∈b by rw[<-show a++c::jn c (d::r)=b from h];exact Y0I a (Y0c ..)) (hb b (Y0c ..))
 |a::d::r,b::e::u,_,_,ha,hb,h=>by
  obtain⟨w,y⟩:=_iE (ha a (Y0c ..)) (hb b (Y0c ..)) h
  rw[w,_iq (j:=d::r) (bs:=e::u) (by simp) (by simp) (λx l=>ha x (Y04 _ l)) (λx l=>hb x (Y04 _ l)) y]
theorem _h3(x y:Str):Txt.split x y≠ []:=by
 unfold Txt.split
 split
 .simp
 .split
  .simp
  .intro e
   have:=congrArg Y1I e
   rw[length_partsBetween]at this
   simp at this
theorem _ai{c:Nat}{j:List Str}(l:j≠ [])(h:∀p∈j,c∉p.cps.toList):Txt.split (Y0R ⟨#[c]⟩ j) ⟨#[c]⟩=j:=by
 rw[Y1h]
 have e:=congrArg (λs:Str=>s.cps.toList) (StrLaws.join_split (Y3U ⟨#[c]⟩ j) ⟨#[c]⟩)
 rw[_hv,_hv]at e
 have:=_iq (by simpa using _h3 _ _) (by simpa using l) (λa u=>by
  obtain⟨p,w,rfl⟩:=Y0h.mp u
  exact StrLaws.split_free _ c p w) (λa u=>by
  obtain⟨p,w,rfl⟩:=Y0h.mp u
  exact h p w) e
 exact(List.map_inj_right λa b z=>Str.ext' (Y36.mp z)).mp this
theorem _ec{k B:Nat}:∀{j:List Str} (n:Nat),(∀x∈j,x.length<=B)->j.foldl (λn z=>n+z.length+k) n<=n+j.length*(B+k)
 |[],n,_=>by simp
 |x::r,n,h=>by
  have u:=h x (Y0c ..)
  have w:=_ec (k:=k) (n+x.length+k) λy l=>h y (Y04 _ l)
  have e:(x::r).length*(B+k)=(B+k)+r.length*(B+k):=by rw[Y0e,Nat.succ_mul,Y3s]
  rw[Y2u,e];lia
theorem _e5{j:Str}{B:Nat}:∀{l:List Str},(∀x∈l,x.length<=B)->(Y3U j l).length<=l.length*(B+j.length)
 |[],_=>Y1e _
 |[x],h=>by have:=h x (Y0c ..);show x.length<=1*_;lia
 |x::y::r,h=>by
  have w:=h x (Y0c ..)
  have m:=_e5 (j:=j) (l:=y::r) λz u=>h z (Y04 _ u)
  show(x++j++Y3U j (y::r)).length<=_
  have e:(x::y::r).length*(B+j.length)=(B+j.length)+(y::r).length*(B+j.length):=by rw[Y0e,Nat.succ_mul,Y3s]
  rw[Y0q,Y0q,e];lia
theorem _9v{j:Str}{B:Nat}{l:List Str}(h:∀x∈l,x.length<=B):l.toArray.foldl (λn z=>n+z.length+j.length) 0<=l.length*(B+j.length)/\(Y0R j l).length<=l.length*(B+j.length):=by
 refine⟨?_,by rw[Y1h];exact _e5 h⟩
 have:=_ec (k:=j.length) 0 h
 rw[Nat.zero_add]at this
 rw[List.foldl_toArray];exact this
theorem _g0{c d:Nat}(n:d≠c):∀{j:List (List Nat)},(∀a∈j,d∉a)->d∉jn c j
 |[],_=>Y0k
 |[a],h=>h a (Y0c ..)
 |a::b::r,h=>λz=>by
  rcases Y0m.mp z with z|z
  .exact h a (Y0c ..) z
  .rcases Y06.mp z with z|z
   .exact n z
   .exact _g0 n (j:=b::r) (λx l=>h x (Y04 _ l)) z
theorem _eh:(" ":Str)=⟨#[32]⟩:=by rfl
theorem _fq:("\n":Str)=⟨#[10]⟩:=by rfl
structure RowFit (r:List Str):Prop where
 ne:r≠ []
 l:r.length<=64
 w:∀x∈r,Wd x
noncomputable def rowT(r:List Str):Str:=Y0R " " r
theorem RowFit.len{r:List Str}(h:RowFit r):r.toArray.foldl (fun n z=>n+z.length+(" ":Str).length) 0<=1472/\(rowT r).length<=1472:=by
 obtain⟨a,b⟩:=_9v (j:=" ") (B:=22) fun x j=>(h.w x j).2.1
 have:=h.l
 have e:(" ":Str).length=1:=rfl
 rw[e]at a b
 exact⟨by rw[e];lia,by unfold rowT;lia⟩
theorem RowFit.back{r:List Str}(h:RowFit r):Txt.split (rowT r) " "=r:=by
 unfold rowT
 rw[_eh]
 exact _ai h.ne λx j z=>((h.w x j).2.2 _ z).1 rfl
theorem RowFit.noend{r:List Str}(h:RowFit r):10∉(rowT r).cps.toList:=by
 unfold rowT
 rw[_eh,Y1h,_hv]
 refine _g0 (by decide) λa j=>?_
 obtain⟨x,l,rfl⟩:=Y0h.mp j
 exact λz=>((h.w x l).2.2 _ z).2 rfl
def textT(j:List (List Str)):Str:=Y0R "\n" (j.map rowT)
theorem _fp{j:List (List Str)}(l:j≠ [])(h:∀r∈j,RowFit r):Txt.split (textT j) "\n"=j.map rowT:=by
 unfold textT
 rw[_fq]
 refine _ai (by simpa using l) λx u=>?_
 obtain⟨r,w,rfl⟩:=Y0h.mp u
 exact(h r w).noend
theorem rows_len{rs:List (List Str)}(l:rs.length<=200)(h:∀r∈rs,RowFit r):(rs.map rowT).toArray.foldl (fun n z=>n+z.length+("\n":Str).length) 0<=300000/\(textT rs).length<=300000:=by
 obtain⟨a,b⟩:=_9v (j:="\n") (B:=1472) (l:=rs.map rowT) fun x j=>by
  obtain⟨r,u,rfl⟩:=Y0h.mp j
  exact(h r u).len.2
 rw[Y01]at a b
 have e:("\n":Str).length=1:=rfl
 rw[e]at a b
 exact⟨by rw[e];lia,by unfold textT;lia⟩
theorem GoodN.wd'{z:Str}(h1:1<=z.length)(h2:z.length<=8)(h3:∀c∈z.cps.toList,97<=c/\c<=122):Wd z:=⟨h1,by lia,λc j=>by have:=h3 c j;lia⟩
end L2
namespace L2
open PySem PySem.Spec PyProof.Rows
inductive Ty7 where|int|bool|str|list|tuple|dict|none
  deriving DecidableEq
noncomputable def Ty7.name:Ty7->String
 |.int=>"int"|.bool=>"bool"|.str=>"str"|.list=>"list"|.tuple=>"tuple"|.dict=>"dict"|.none=>"NoneType"
inductive MV where
 |non|bl (b:Bool)|int (i:Int)|str (x:Str)|tup (xs:List MV)|frl (xs:List MV)|ref (a:Addr)|ty (n:Ty7)
noncomputable def Zm2:HO->Bool
 |.tup _=>true
 |.frz _ (.lst _)=>true
 |_=>false
def Kp(H j:Hp):Prop:=∀a o,H a=some o->Zm2 o=true->j a=some o
theorem Kp.refl(H:Hp):Kp H H:=λ_ _ h _=>h
theorem Kp.trans(a:Kp H H1)(b:Kp H1 H2):Kp H H2:=λc o h f=>b c o (a c o h f) f
theorem Kp.new{H:Hp}{p:Addr}(h:H p=none)(o:HO):Kp H (upd H p o):=λa u e _=>by rw[_0B (_1D e h)];exact e
theorem Kp.upd{H:Hp}{p:Addr}{o:HO}(h:H p=some o)(f:Zm2 o=false)(j:HO):Kp H (upd H p j):=λa u e g=>by
 rw[_0B (_nN e h (by intro z;rw[z,f]at g;cases g))];exact e
def FrL(K:Y00)(H:Hp)(a:Addr)(l:List V):Prop:=(∃o,H a=some (.frz o (.lst l)))\/
 ∃(o:Obj) (j:Array Value) (n:Nat),K.lookup a=some o/\o.cls=.type "list"/\o.dict=none/\o.data=.seq j n/\j.size<=sizeLine/\Vals l j.toList
theorem FrL.sq{K:Y00}(h:FrL K H a vs):SqL K H a vs:=by
 rcases h with⟨o,h⟩|h
 .exact .inl (.inr ⟨o,h⟩)
 .exact .inr h
mutual
inductive RM (K:Y00)(H:Hp):MV->V->Prop
 |non:RM K H .non .non
 |bl (b:Bool):RM K H (.bl b) (.bl b)
 |int (i:Int):RM K H (.int i) (.int i)
 |str (x:Str):RM K H (.str x) (.str x)
 |ref (a:Addr):RM K H (.ref a) (.ref a)
 |ty (n:Ty7):RM K H (.ty n) (.ty n.name)
 |tup {a:Addr} {xs:List MV} {vs:List V}:H a=some (.tup vs)->RMs K H xs vs->RM K H (.tup xs) (.ref a)
 |frl {a:Addr} {xs:List MV} {vs:List V}:FrL K H a vs->RMs K H xs vs->RM K H (.frl xs) (.ref a)
inductive RMs (K:Y00)(H:Hp):List MV->List V->Prop
 |nil:RMs K H [] []
 |cons {x:MV} {v:V} {xs:List MV} {vs:List V}:RM K H x v->RMs K H xs vs->RMs K H (x::xs) (v::vs)
end
mutual
theorem RM.mono{K:Y00}(k:Kp H H'):∀{m:MV} {v:V},RM K H m v->RM K H' m v
 |_,_,.non=>.non
 |_,_,.bl b=>.bl b
 |_,_,.int i=>.int i
 |_,_,.str x=>.str x
 |_,_,.ref a=>.ref a
 |_,_,.ty n=>.ty n
 |_,_,.tup h r=>.tup (k _ _ h rfl) (RMs.mono k r)
 |_,_,.frl h r=>.frl (by
   rcases h with⟨o,h⟩|h
   .exact .inl ⟨o,k _ _ h rfl⟩
   .exact .inr h) (RMs.mono k r)
theorem RMs.mono{K:Y00}(k:Kp H H'):∀{m:List MV} {v:List V},RMs K H m v->RMs K H' m v
 |_,_,.nil=>.nil
 |_,_,.cons a b=>.cons (RM.mono k a) (RMs.mono k b)
end
def Zoc(K:Y00)(H:Hp)(v:V):MV->Prop
 |.non=>v=.non
 |.bl b=>v=.bl b
 |.int i=>v=.int i
 |.str x=>v=.str x
 |.tup xs=>∃a j,v=.ref a/\H a=some (.tup j)/\RMs K H xs j
 |.frl xs=>∃a j,v=.ref a/\FrL K H a j/\RMs K H xs j
 |.ref a=>v=.ref a
 |.ty n=>v=.ty n.name
theorem RM.inv{K:Y00}{H:Hp}{m:MV}{v:V}(r:RM K H m v):Zoc K H v m:=by
 cases r with
 |tup h q=>exact⟨_,_,rfl,h,q⟩
 |frl h q=>exact⟨_,_,rfl,h,q⟩
 |_=>rfl
def Zms(K:Y00)(H:Hp)(j:List V):List MV->Prop
 |[]=>j=[]
 |x::xs=>∃v l,j=v::l/\RM K H x v/\RMs K H xs l
theorem RMs.inv{K:Y00}{H:Hp}{m:List MV}{v:List V}(r:RMs K H m v):Zms K H v m:=by
 cases r with
 |nil=>rfl
 |cons a b=>exact⟨_,_,rfl,a,b⟩
theorem RMs.length{K:Y00}:∀{m:List MV} {v:List V},RMs K H m v->m.length=v.length
 |_,_,.nil=>rfl
 |_,_,.cons _ b=>by rw[Y0e,Y0e,b.length]
theorem RMs.get{K:Y00}:∀{m:List MV} {v:List V} {i:Nat} {x:MV},RMs K H m v->m[i]?=some x->∃u,v[i]?=some u/\RM K H x u
 |_,_,_,_,.nil,e=>by simp at e
 |_,_,0,_,.cons r _,e=>by simp at e;subst e;exact⟨_,rfl,r⟩
 |_,_,i+1,x,.cons _ t,e=>by
  obtain⟨u,j,l⟩:=RMs.get (i:=i) (x:=x) t (by simpa using e)
  exact⟨u,by simpa using j,l⟩
theorem RMs.get'{K:Y00}:∀{m:List MV} {v:List V} {i:Nat} {u:V},RMs K H m v->v[i]?=some u->∃x,m[i]?=some x/\RM K H x u
 |_,_,_,_,.nil,e=>by simp at e
 |_,_,0,_,.cons r _,e=>by simp at e;subst e;exact⟨_,rfl,r⟩
 |_,_,i+1,x,.cons _ t,e=>by
  obtain⟨u,j,l⟩:=RMs.get' (i:=i) (u:=x) t (by simpa using e)
  exact⟨u,by simpa using j,l⟩
theorem RMs.append{K:Y00}:∀{m j:List MV} {v l:List V},RMs K H m v->RMs K H j l->RMs K H (m++j) (v++l)
 |_,_,_,_,.nil,s=>s
 |_,_,_,_,.cons r t,s=>.cons r (t.append s)
theorem RMs.take{K:Y00}:∀{m:List MV} {v:List V} (n:Nat),RMs K H m v->RMs K H (m.take n) (v.take n)
 |_,_,0,_=>.nil
 |_,_,_+1,.nil=>.nil
 |_,_,n+1,.cons r t=>.cons r (t.take n)
theorem RMs.drop{K:Y00}:∀{m:List MV} {v:List V} (n:Nat),RMs K H m v->RMs K H (m.drop n) (v.drop n)
 |_,_,0,r=>r
 |_,_,_+1,.nil=>.nil
 |_,_,n+1,.cons _ t=>t.drop n
theorem RMs.ints{K:Y00}:∀j:List Int,RMs K H (j.map MV.int) (j.map V.int)
 |[]=>.nil
 |n::r=>.cons (.int n) (RMs.ints r)
theorem RMs.map_of{K:Y00}{H:Hp}{u:Type}{f:u->MV}{g:u->V}(w:∀a v,RM K H (f a) v->v=g a):∀{l:List u} {j:List V},RMs K H (l.map f) j->j=l.map g:=by
 intro l
 induction l with
 |nil=>intro j h;cases h;rfl
 |cons n r y=>
  intro j h
  have h:RMs K H (f n::r.map f) j:=h
  cases h with
  |cons x t=>rw[y t,w _ _ x];rfl
inductive MO where
 |lst (xs:List MV)|dic (kvs:List (Key×MV))|ins (c:Str)(fs:List (Str×MV))
 |fdic (o:Obj)(kvs:List (Key×MV))
noncomputable abbrev MH:=Addr->Option MO
noncomputable def updM(M:MH)(a:Addr)(o:MO):MH:=λb=>if b=a then some o else M b
theorem _00:updM M a o a=some o:=by unfold updM;rw[if_pos rfl]
theorem _06(h:b≠a):updM M a o b=M b:=by unfold updM;rw[if_neg h]
theorem _bD:updM (updM M a o) a u=updM M a u:=by funext b;unfold updM;split<;>rfl
inductive RKs {κ:Type} (K:Y00)(H:Hp):List (κ×MV)->List (κ×V)->Prop
 |nil:RKs K H [] []
 |cons {k:κ} {x:MV} {v:V} {xs:List (κ×MV)} {vs:List (κ×V)}:RM K H x v->RKs K H xs vs->RKs K H ((k,x)::xs) ((k,v)::vs)
theorem RKs.mono{j:Type}{K:Y00}(k:Kp H H'):∀{m:List (j×MV)} {v:List (j×V)},RKs K H m v->RKs K H' m v
 |_,_,.nil=>.nil
 |_,_,.cons a b=>.cons (a.mono k) (b.mono k)
theorem RKs.length{j:Type}{K:Y00}:∀{m:List (j×MV)} {v:List (j×V)},RKs K H m v->m.length=v.length
 |_,_,.nil=>rfl
 |_,_,.cons _ b=>by rw[Y0e,Y0e,b.length]
section
variable{κ:Type} [DecidableEq κ]
noncomputable def valM(l:List (κ×MV))(k:κ):Option MV:=match l with
 |[]=>none
 |(j,v)::r=>if j=k then some v else valM r k
noncomputable def putM(l:List (κ×MV))(k:κ)(v:MV):List (κ×MV):=match l with
 |[]=>[(k,v)]
 |(j,u)::r=>if j=k then(j,v)::r else(j,u)::putM r k v
end
def RO(K:Y00)(H:Hp):MO->HO->Prop
 |.lst xs,.lst vs=>RMs K H xs vs
 |.dic kvs,.dK vs=>RKs K H kvs vs/\(kvs.map (·.1)).Nodup
 |.ins c fs,.ins C _ vs=>Y0n K mainGlobals c=some (some (.ref C))/\RKs K H fs vs
 |.fdic o kvs,.frz o' (.dK vs)=>o=o'/\RKs K H kvs vs/\(kvs.map (·.1)).Nodup
 |_,_=>False
theorem RO.mono{K:Y00}(k:Kp H H')(h:RO K H o u):RO K H' o u:=by
 cases o with
 |lst l=>cases u<;>first|exact RMs.mono k h|exact h.elim
 |dic j=>cases u<;>first|exact⟨h.1.mono k,h.2⟩|exact h.elim
 |ins c fs=>cases u<;>first|exact⟨h.1,h.2.mono k⟩|exact h.elim
 |fdic w j=>
  cases u with
  |frz y u=>cases u<;>first|exact⟨h.1,h.2.1.mono k,h.2.2⟩|exact h.elim
  |_=>exact h.elim
def RH(K:Y00)(M:MH)(H:Hp):Prop:=∀a o,M a=some o->∃u,H a=some u/\RO K H o u
theorem RH.free{K:Y00}(r:RH K M H)(h:H p=none):M p=none:=by
 cases e:M p with
 |none=>rfl
 |some o=>obtain⟨u,j,_⟩:=r p o e;rw[j]at h;cases h
theorem RH.lst{K:Y00}(r:RH K M H)(h:M p=some (.lst xs)):∃j,H p=some (.lst j)/\RMs K H xs j:=by
 obtain⟨u,w,l⟩:=r p _ h
 cases u<;>try exact l.elim
 exact⟨_,w,l⟩
theorem RH.dic{K:Y00}(r:RH K M H)(h:M p=some (.dic xs)):∃l,H p=some (.dK l)/\RKs K H xs l/\(xs.map (·.1)).Nodup:=by
 obtain⟨u,w,j⟩:=r p _ h
 cases u<;>try exact j.elim
 exact⟨_,w,j.1,j.2⟩
theorem RH.fdic{K:Y00}(r:RH K M H)(h:M p=some (.fdic o xs)):∃l,H p=some (.frz o (.dK l))/\RKs K H xs l/\(xs.map (·.1)).Nodup:=by
 obtain⟨u,w,j⟩:=r p _ h
 cases u with
 |frz m u=>
  cases u<;>try exact j.elim
  obtain⟨rfl,y,z⟩:=j
  exact⟨_,w,y,z⟩
 |_=>exact j.elim
theorem RH.put{K:Y00}(r:RH K M H)(k:Kp H (upd H p u))(j:RO K (upd H p u) o u):RH K (updM M p o) (upd H p u):=by
 intro a l e
 by_cases h:a=p
 .subst h
  rw[_00]at e
  cases e
  exact⟨u,_2R,j⟩
 .rw[_06 h]at e
  obtain⟨v,w,y⟩:=r a l e
  exact⟨v,by rw[_0B h];exact w,y.mono k⟩
theorem RH.kept{K:Y00}{M:MH}{H:Hp}(r:RH K M H){p:Addr}(j:H p=none)(u:HO):RH K M (upd H p u):=by
 intro a w e
 obtain⟨v,l,y⟩:=r a w e
 exact⟨v,by rw[_0B (_1D l j)];exact l,y.mono (Kp.new j u)⟩
noncomputable abbrev Sm:=List (Option MV)
abbrev QM:=MV->MH->Prop
abbrev TEm:=Sm->MH->QM->Prop
abbrev TAm:=Sm->MH->(List MV->MH->Prop)->Prop
noncomputable def RS(K:Y00)(H:Hp)(j:Sm)(l:St):Prop:=j.length=l.length/\∀(i:Nat)(m:MV),j[i]?=some (some m)->∃v,l[i]?=some (some v)/\RM K H m v
theorem RS.mono{K:Y00}(k:Kp H H')(h:RS K H σm σ):RS K H' σm σ:=⟨h.1,λi m e=>by
 obtain⟨v,j,r⟩:=h.2 i m e
 exact⟨v,j,r.mono k⟩⟩
theorem RS.set{K:Y00}(h:RS K H σm σ)(r:RM K H m v)(i:Nat):RS K H (σm.set i (some m)) (σ.set i (some v)):=by
 refine⟨by simp[h.1],λj x e=>?_⟩
 rw[Y2d]at e
 by_cases hij:i=j
 .subst hij
  rw[if_pos rfl]at e
  split at e
  .cases e
   exact⟨v,by rw[Y2d,if_pos rfl,if_pos (by rw[<-h.1];assumption)],r⟩
  .cases e
 .rw[if_neg hij]at e
  obtain⟨u,l,w⟩:=h.2 j x e
  exact⟨u,by rw[Y2d,if_neg hij];exact l,w⟩
def Dn(K:Y00)(H:Hp)(Q:VK):QM:=λm M=>∀v j,Kp H j->RM K j m v->RH K M j->Q v j
theorem Dn.on{K:Y00}(k:Kp H H1)(h:Dn K H Q m M):Dn K H1 Q m M:=λv j l r u=>h v j (k.trans l) r u
def liE(K:Y00)(t:TEm):TE:=λl H Q=>∃j M,RS K H j l/\RH K M H/\t j M (Dn K H Q)
def liA(K:Y00)(t:TAm):TA:=λw H Q=>∃j M,RS K H j w/\RH K M H/\t j M (λy z=>∀u l,Kp H l->RMs K l y u->RH K z l->Q u l)
def MonE(t:TEm):Prop:=∀{j M} {Q l:QM},(∀m u,Q m u->l m u)->t j M Q->t j M l
def MonA(t:TAm):Prop:=∀{j M} {Q l:List MV->MH->Prop},(∀m u,Q m u->l m u)->t j M Q->t j M l
abbrev W1:=MV->MH->QM->Prop
abbrev W2:=MV->MV->MH->QM->Prop
abbrev WA:=List MV->MH->QM->Prop
def Mon1(w:W1):Prop:=∀{x M} {Q j:QM},(∀m l,Q m l->j m l)->w x M Q->w x M j
def Mon2(w:W2):Prop:=∀{x y M} {Q j:QM},(∀m l,Q m l->j m l)->w x y M Q->w x y M j
def MonW(w:WA):Prop:=∀{j M} {Q l:QM},(∀m u,Q m u->l m u)->w j M Q->w j M l
def li1(K:Y00)(w:W1):V->Hp->VK->Prop:=λx H Q=>∃j M,RM K H j x/\RH K M H/\w j M (Dn K H Q)
def li2(K:Y00)(w:W2):R2:=λx y H Q=>∃j l M,RM K H j x/\RM K H l y/\RH K M H/\w j l M (Dn K H Q)
def liW(K:Y00)(w:WA):List V->Hp->VK->Prop:=λl H Q=>∃j M,RMs K H j l/\RH K M H/\w j M (Dn K H Q)
section
variable{K:Y00}
theorem _jI{z g:TEm}{w:W2}(p:MonE z)(e:MonE g)(L:Mon2 w){j:St}{H:Hp}{Q:VK}
  (h:liE K (λj M Q=>z j M λx M1=>g j M1 λy M2=>w x y M2 Q) j H Q):tOp (li2 K w) (liE K z) (liE K g) j H Q:=by
 obtain⟨l,M,f,N,h⟩:=h
 refine⟨l,M,f,N,p (λx M1 O=>?_) h⟩
 intro v W q P d
 refine⟨l,M1,f.mono q,d,e (λy M2 R=>?_) O⟩
 intro u Y r T c
 exact⟨x,y,M2,P.mono r,T,c,L (λm Z U=>U.on (q.trans r)) R⟩
end
theorem PE.weak{t:TE}(h:PE X e t)(i:∀j H Q,t' j H Q->t j H Q):PE X e t':=λl s j H Q I q=>h l s j H Q I (i _ _ _ q)
theorem PT.weak{t:TT}(h:PT X e t)(i:∀j H Q,t' j H Q->t j H Q):PT X e t':=λl s j H Q I q=>h l s j H Q I (i _ _ _ q)
theorem PW.weak{t:TT}(h:PW X e t)(i:∀j H Q,t' j H Q->t j H Q):PW X e t':=λl u s j H Q I q=>h l u s j H Q I (i _ _ _ q)
theorem PA.weak{t:TA}(h:PA X e t)(i:∀j H Q,t' j H Q->t j H Q):PA X e t':=λl u s j H Q I q=>h l u s j H Q I (i _ _ _ q)
theorem PS.weak{t:TS}(h:PS X e t)(i:∀D j H,t' D j H->t D j H):PS X e t':=λl s j H D I q=>h l s j H D I (i _ _ _ q)
theorem PSs.weak{t:TS}(h:PSs X e t)(i:∀D j H,t' D j H->t D j H):PSs X e t':=λl s j H D I q=>h l s j H D I (i _ _ _ q)
end L2
namespace L2
open PySem PySem.Spec PyProof.Rows
noncomputable def intsM(k:Int->Int->Prop)(x y:MV):Prop:=match x,y with
 |.int i,.int j=>k i j
 |_,_=>False
theorem intsM.of{k:Int->Int->Prop}{x y:MV}(h:intsM k x y):∃i j,x=.int i/\y=.int j/\k i j:=by
 unfold intsM at h
 split at h
 .exact⟨_,_,rfl,rfl,h⟩
 .exact h.elim
def addM(x y:MV)(M:MH)(Q:QM):Prop:=match x,y with
 |.int i,.int j=>Q (.int (i+j)) M
 |.str i,.str j=>i.length+j.length<=sizeLine/\Q (.str (i++j)) M
 |.tup l,.tup u=>l≠ []/\l.length+u.length<=sizeLine/\Q (.tup (l++u)) M
 |.ref a,.ref b=>∃l u,M a=some (.lst l)/\M b=some (.lst u)/\l.length+u.length<=sizeLine/\∀p,M p=none->Q (.ref p) (updM M p (.lst (l++u)))
 |_,_=>False
def mulM(x y:MV)(M:MH)(Q:QM):Prop:=match x,y with
 |.int i,.int j=>CMul i j/\Q (.int (i*j)) M
 |.str z,.int i=>z.length<=16/\ -1000<=i/\i<=1000/\Q (.str (Txt.mul z i)) M
 |_,_=>False
def wBin(op:Operator)(x y:MV)(M:MH)(Q:QM):Prop:=match op with
 |.Add=>addM x y M Q
 |.Mult=>mulM x y M Q
 |.Sub=>intsM (λi j=>Q (.int (i - j)) M) x y
 |.FloorDiv=>intsM (λi j=>ZgW i j/\Q (.int (i/j)) M) x y
 |.Mod=>intsM (λi j=>0<j/\Q (.int (i%j)) M) x y
 |.Pow=>intsM (λi j=>CPow i j/\Q (.int (i^j.toNat)) M) x y
 |.LShift=>intsM (λi j=>CPow i j/\Q (.int (i*2^j.toNat)) M) x y
 |_=>False
theorem _jG:Mon2 addM:=by
 intro x y M Q c j h
 unfold addM at h ⊢
 split at h
 all_goals first
  |exact j _ _ h
  |exact h.elim
  |exact⟨h.1,j _ _ h.2⟩
  |exact⟨h.1,h.2.1,j _ _ h.2.2⟩
  |(obtain⟨g,l,d,u,w,z⟩:=h
    exact⟨g,l,d,u,w,λp m=>j _ _ (z p m)⟩)
  |(obtain⟨l,u,w,z⟩:=h
    exact⟨l,u,w,λp m=>j _ _ (z p m)⟩)
theorem _jE:Mon2 mulM:=by
 intro x y M Q c j h
 unfold mulM at h ⊢
 split at h
 all_goals first
  |exact h.elim
  |exact⟨h.1,j _ _ h.2⟩
  |exact⟨h.1,h.2.1,h.2.2.1,j _ _ h.2.2.2⟩
  |(obtain⟨l,u,w,z,m,g⟩:=h
    exact⟨l,u,w,z,m,λp d=>j _ _ (g p d)⟩)
theorem _fS(op:Operator):Mon2 (wBin op):=by
 intro x y M Q u l h
 cases op
 all_goals first
  |exact Y0U h
  |exact _jG l h
  |exact _jE l h
  |(obtain⟨i,j,rfl,rfl,h⟩:=intsM.of h
    exact l _ _ h)
  |(obtain⟨i,j,rfl,rfl,h⟩:=intsM.of h
    exact⟨h.1,l _ _ h.2⟩)
section
variable{X:Cx}
set_option tactic.hygienic true in
theorem _jr:OpR X (binaryOp .Add) (li2 X.K addM):=by
 intro c s f H x y v u Q I q r h
 obtain⟨A,B,M,e,L,j,h⟩:=h
 unfold addM at h
 split at h
 .obtain rfl:=e.inv;obtain rfl:=L.inv;exact _lJ c s f H _ _ v u Q I q r ⟨_,_,rfl,rfl,h _ _ (Kp.refl _) (.int _) j⟩
 .obtain rfl:=e.inv;obtain rfl:=L.inv;exact _ew c s f H _ _ v u Q I q r ⟨_,_,rfl,rfl,h.1,h.2 _ _ (Kp.refl _) (.str _) j⟩
 .rename_i U W
  obtain⟨_,_,rfl,N,l⟩:=e.inv
  rename_i a m
  cases L with
  |tup O w=>
   rename_i b g
   obtain⟨P,R,T⟩:=h
   refine _jq c s f H _ _ v u Q I q r ⟨_,_,m,g,rfl,rfl,SqT.of N,SqT.of O,λz=>P ?_,by rw[<-l.length,<-w.length];exact R,λz=>?_,λz p d=>?_⟩
   .subst z;cases l;rfl
   .subst z;cases w
    rw[Y18]at T
    exact T _ _ (Kp.refl _) (.tup N l) j
   .have k:=Kp.new d (.tup (m++g))
    exact T _ _ k (.tup _2R ((l.append w).mono k)) (j.kept d _)
 .obtain rfl:=e.inv;obtain rfl:=L.inv
  obtain⟨U,W,N,O,P,R⟩:=h
  obtain⟨m,Y,l⟩:=j.lst N
  obtain⟨g,Z,w⟩:=j.lst O
  refine _lH c s f H _ _ v u Q I q r ⟨_,_,m,g,rfl,rfl,Y,Z,by rw[<-l.length,<-w.length];exact P,λp d=>?_⟩
  have k:=Kp.new d (.lst (m++g))
  exact R p (j.free d) _ _ k (.ref p) (j.put k ((l.append w).mono k))
 .exact h.elim
theorem _jo:OpR X (binaryOp .Mult) (li2 X.K mulM):=by
 intro j s l H x y v u Q I w z h
 obtain⟨c,f,M,m,g,d,h⟩:=h
 unfold mulM at h
 split at h
 .obtain rfl:=m.inv;obtain rfl:=g.inv;exact _lE j s l H _ _ v u Q I w z ⟨_,_,rfl,rfl,h.1,h.2 _ _ (Kp.refl _) (.int _) d⟩
 .obtain rfl:=m.inv;obtain rfl:=g.inv;exact _jn j s l H _ _ v u Q I w z ⟨_,_,rfl,rfl,h.1,h.2.1,h.2.2.1,h.2.2.2 _ _ (Kp.refl _) (.str _) d⟩
 .exact h.elim
theorem _lI(op:Operator):OpR X (binaryOp op) (li2 X.K (wBin op)):=by
 cases op with
 |Add=>exact _jr
 |Mult=>exact _jo
 |Sub=>
  intro l s w H x y v u Q I z m h;obtain⟨f,q,M,g,d,c,h⟩:=h;obtain⟨i,j,rfl,rfl,h⟩:=intsM.of h;obtain rfl:=g.inv;obtain rfl:=d.inv
  exact _lB l s w H _ _ v u Q I z m ⟨_,_,rfl,rfl,h _ _ (Kp.refl _) (.int _) c⟩
 |FloorDiv=>
  intro l s w H x y v u Q I z m h;obtain⟨f,q,M,g,d,c,h⟩:=h;obtain⟨i,j,rfl,rfl,h⟩:=intsM.of h;obtain rfl:=g.inv;obtain rfl:=d.inv
  exact _hk l s w H _ _ v u Q I z m ⟨_,_,rfl,rfl,h.1,h.2 _ _ (Kp.refl _) (.int _) c⟩
 |Mod=>
  intro l s w H x y v u Q I z m h;obtain⟨f,q,M,g,d,c,h⟩:=h;obtain⟨i,j,rfl,rfl,h⟩:=intsM.of h;obtain rfl:=g.inv;obtain rfl:=d.inv
  exact _lF l s w H _ _ v u Q I z m ⟨_,_,rfl,rfl,h.1,h.2 _ _ (Kp.refl _) (.int _) c⟩
 |Pow=>
  intro l s w H x y v u Q I z m h;obtain⟨f,q,M,g,d,c,h⟩:=h;obtain⟨i,j,rfl,rfl,h⟩:=intsM.of h;obtain rfl:=g.inv;obtain rfl:=d.inv
  exact _lD l s w H _ _ v u Q I z m ⟨_,_,rfl,rfl,h.1,h.2 _ _ (Kp.refl _) (.int _) c⟩
 |LShift=>
  intro l s w H x y v u Q I z m h;obtain⟨f,q,M,g,d,c,h⟩:=h;obtain⟨i,j,rfl,rfl,h⟩:=intsM.of h;obtain rfl:=g.inv;obtain rfl:=d.inv
  exact _lC l s w H _ _ v u Q I z m ⟨_,_,rfl,rfl,h.1,h.2 _ _ (Kp.refl _) (.int _) c⟩
 |_=>
  intro l s w H x y v u Q I z m h
  obtain⟨_,_,_,_,_,_,h⟩:=h
  exact Y0U h
end
noncomputable def eqS(x y:MV):Option Bool:=match x with
 |.int i=>(match y with|.int j=>some (decide (i=j))|.non=>some false|.str _=>some false|_=>none)
 |.str i=>(match y with|.str j=>some (decide (i=j))|.non=>some false|.int _=>some false|.bl _=>some false|_=>none)
 |.bl i=>(match y with|.bl j=>some (decide (i=j))|.non=>some false|.str _=>some false|_=>none)
 |.non=>(match y with|.non=>some true|.int _=>some false|.bl _=>some false|.str _=>some false|_=>none)
 |_=>none
theorem _iA{K:Y00}(h:eqS x y=some b)(r:RM K H x u)(q:RM K H y v):scal u v=true/\decide (u=v)=b:=by
 cases r
 all_goals first
  |exact nomatch (show none=some b from h)
  |skip
 all_goals
  cases q
  all_goals first
   |exact nomatch (show none=some b from h)
   |(obtain rfl:=Y0z (show some false=some b from h);exact⟨rfl,rfl⟩)
   |(obtain rfl:=Y0z (show some true=some b from h);exact⟨rfl,rfl⟩)
   |(obtain rfl:=Y0z h;exact⟨rfl,decide_eq_decide.mpr ⟨V.int.inj,λe=>by rw[e]⟩⟩)
   |(obtain rfl:=Y0z h;exact⟨rfl,decide_eq_decide.mpr ⟨V.str.inj,λe=>by rw[e]⟩⟩)
   |(obtain rfl:=Y0z h;exact⟨rfl,decide_eq_decide.mpr ⟨V.bl.inj,λe=>by rw[e]⟩⟩)
noncomputable def LstM(M:MH)(x:MV)(j:List MV):Prop:=x=.frl j\/∃a,x=.ref a/\M a=some (.lst j)
noncomputable def Z4b:MV->Bool
 |.non=>true|.bl _=>true|.int _=>true|.str _=>true|_=>false
def Alike(M:MH):Nat->MV->MV->Prop
 |0,x,y=>Z4b x=true/\x=y
 |n+1,x,y=>(Z4b x=true/\x=y)\/(∃j l,x=.tup j/\y=.tup l/\j.length=l.length/\∀(i:Nat)u v,j[i]?=some u->l[i]?=some v->Alike M n u v)\/
  (∃j l,LstM M x j/\LstM M y l/\j.length=l.length/\∀(i:Nat)u v,j[i]?=some u->l[i]?=some v->Alike M n u v)\/
  ∃a b w z,x=.ref a/\y=.ref b/\M a=some (.dic w)/\M b=some (.dic z)/\w.length=z.length/\∀k u,(k,u)∈w->∃v,valM z k=some v/\Alike M n u v
noncomputable def toV:MV->V
 |.non=>.non|.bl b=>.bl b|.int i=>.int i|.str x=>.str x|_=>.non
def wEq(x y:MV)(M:MH)(k:Bool->Prop):Prop:=match eqS x y with
 |some b=>k b
 |none=>False\/(∃n≤60,Alike M n x y/\k true)\/(∃a b j,x=.ref a/\y=.ref b/\M a=some (.lst j)/\M b=some (.lst [])/\k j.isEmpty)\/False\/False
theorem _3V{K:Y00}(f:Z4b m=true)(r:RM K H m v):v=toV m/\Za8 v=true:=by
 cases r<;>first|exact⟨rfl,rfl⟩|cases f
theorem _3U{K:Y00}:∀{m:List MV} {v:List V},m.all Z4b=true->RMs K H m v->v=m.map toV/\v.all Za8=true
 |_,_,_,.nil=>⟨rfl,rfl⟩
 |_,_,f,.cons r t=>by
  rw[Y13,Y0r]at f
  obtain⟨e,g⟩:=_3V f.1 r
  obtain⟨j,l⟩:=_3U f.2 t
  subst e j
  exact⟨rfl,by rw[Y13,g,l];rfl⟩
def keyM:MV->Option Key
 |.int i=>some (.inl i)
 |.str x=>some (.inr x)
 |_=>none
theorem _e3{K:Y00}{k:Key}(e:keyM m=some k)(r:RM K H m v):v=kV k:=by
 cases r<;>cases e<;>rfl
theorem _74{K:Y00}{k:Key}:∀{m:List (Key×MV)} {v:List (Key×V)},RKs K H m v->(valM m k=none/\valV v k=none)\/∃x u,valM m k=some x/\valV v k=some u/\RM K H x u
 |_,_,.nil=>.inl ⟨rfl,rfl⟩
 |_,_,.cons (k:=j) (x:=x) (v:=u) r t=>by
  by_cases e:j=k
  .refine .inr ⟨x,u,?_,_aT (p:=(j,u)) e,r⟩
   unfold valM;rw[if_pos e]
  .have:=_74 (k:=k) t
   unfold valM;rw[if_neg e,_aU (p:=(j,u)) e]
   exact this
theorem _i8{K:Y00}{k:Key}:∀{m:List (Key×MV)} {v:List (Key×V)},RKs K H m v->(v.any λj=>decide (j.1=k))=(m.any λj=>decide (j.1=k))
 |_,_,.nil=>rfl
 |_,_,.cons r t=>by rw[Y1l,Y1l,_i8 t]
theorem _fu{K:Y00}{k:Key}(r:RM K H x u):∀{m:List (Key×MV)} {v:List (Key×V)},RKs K H m v->
  RKs K H (m.map λl=>if l.1=k then(l.1,x)else l) (v.map λl=>if l.1=k then(l.1,u)else l)
 |_,_,.nil=>.nil
 |_,_,.cons (k:=j) q t=>by
  rw[Y0a,Y0a]
  by_cases e:j=k
  .rw[if_pos e,if_pos e];exact .cons r (_fu r t)
  .rw[if_neg e,if_neg e];exact .cons q (_fu r t)
theorem _i7{j:Type}{K:Y00}:∀{m l:List (j×MV)} {v u:List (j×V)},RKs K H m v->RKs K H l u->RKs K H (m++l) (v++u)
 |_,_,_,_,.nil,s=>s
 |_,_,_,_,.cons r t,s=>.cons r (_i7 t s)
theorem _io{l:Type} [DecidableEq l] {k:l}:∀{m:List (l×MV)},¬k∈m.map (·.1)->(m.map λu=>if u.1=k then(u.1,x)else u)=m
 |[],_=>rfl
 |(j,y)::r,h=>by
  rw[Y0a,if_neg (λe=>h (by simp[show j=k from e])),_io (λe=>h (by simp[e]))]
theorem _fA{u:Type} [DecidableEq u] {k:u}:∀{m:List (u×MV)},(m.map (·.1)).Nodup->putM m k x=if(m.any λl=>decide (l.1=k))=true then m.map (λl=>if l.1=k then(l.1,x)else l)else m++[(k,x)]
 |[],_=>rfl
 |(j,y)::r,h=>by
  rw[Y0a,Y15]at h
  unfold putM
  rw[Y1l]
  by_cases e:j=k
  .subst e
   rw[if_pos rfl,if_pos (by simp),Y0a,if_pos rfl,_io h.1]
  .rw[if_neg e,_fA h.2,show decide ((j,y).1=k)=false from decide_eq_false e,Bool.false_or,Y0a,if_neg (show¬(j,y).1=k from e)]
   split<;>rfl
theorem _c0{l:Type} [DecidableEq l] {k:l}:∀(m:List (l×MV)),((putM m k x).map (·.1))=if k∈m.map (·.1)then m.map (·.1)else m.map (·.1)++[k]
 |[]=>rfl
 |(j,y)::r=>by
  unfold putM
  by_cases e:j=k
  .subst e;simp
  .rw[if_neg e,Y0a,_c0 r,Y0a]
   have u:k≠j:=λz=>e z.symm
   by_cases m:k∈r.map (·.1)
   .rw[if_pos m,if_pos (Y06.mpr (.inr m))]
   .rw[if_neg m,if_neg (λz=>(Y06.mp z).elim u m)];rfl
theorem _j9{K:Y00}{k:Key}(r:RM K H x u)(j:(m.map (·.1)).Nodup)(h:RKs K H m v):
  RKs K H (putM m k x) (putK v k u)/\((putM m k x).map (·.1)).Nodup:=by
 refine⟨?_,?_⟩
 .rw[_fA j]
  unfold putK
  rw[_i8 h]
  split
  .exact _fu r h
  .exact _i7 h (.cons r .nil)
 .rw[_c0]
  split
  .exact j
  .exact _fO j (by assumption)
def wIn(x y:MV)(M:MH)(k:Bool->Prop):Prop:=match y with
 |.tup j=>Z4b x=true/\j.all Z4b=true/\k (inV (toV x) (j.map toV))
 |.frl j=>Z4b x=true/\j.all Z4b=true/\k (inV (toV x) (j.map toV))
 |.ref a=>(∃j,M a=some (.lst j)/\Z4b x=true/\j.all Z4b=true/\k (inV (toV x) (j.map toV)))\/∃l u,M a=some (.dic l)/\keyM x=some u/\k (valM l u).isSome
 |_=>False
noncomputable def ZjN:MV->Bool
 |.non=>true|_=>false
noncomputable def isBl(b:Bool):MV->Bool
 |.bl c=>decide (c=b)
 |_=>false
def wCmp(op:CmpOp)(x y:MV)(M:MH)(Q:QM):Prop:=match op with
 |.Lt=>∃i j,x=.int i/\y=.int j/\Q (.bl (decide (i<j))) M
 |.LtE=>(∃i j,x=.int i/\y=.int j/\Q (.bl (decide (i<=j))) M)\/∃i j,x=.str i/\y=.str j/\Q (.bl (!decide (j.cps.toList<i.cps.toList))) M
 |.Gt=>∃i j,x=.int i/\y=.int j/\Q (.bl (decide (j<i))) M
 |.GtE=>∃i j,x=.int i/\y=.int j/\Q (.bl (decide (j<=i))) M
 |.Eq=>wEq x y M λb=>Q (.bl b) M
 |.NotEq=>wEq x y M λb=>Q (.bl (!b)) M
 |.In=>wIn x y M λb=>Q (.bl b) M
 |.NotIn=>wIn x y M λb=>Q (.bl (!b)) M
 |.Is=>(y=.non/\Q (.bl (ZjN x)) M)\/∃b,y=.bl b/\Q (.bl (isBl b x)) M
 |.IsNot=>(y=.non/\Q (.bl (!ZjN x)) M)\/∃b,y=.bl b/\Q (.bl (!isBl b x)) M
set_option tactic.hygienic true in
theorem _il{k:Bool->Prop}(j:∀b,k b->k' b)(h:wEq x y M k):wEq x y M k':=by
 unfold wEq at h ⊢
 split
 .rename_i b e;rw[e]at h;exact j _ h
 .rename_i e;rw[e]at h
  refine h.imp id λh=>?_
  rcases h with⟨n,l,u,w⟩|⟨a,b,z,l,u,w,m,g⟩|h|h
  .exact .inl ⟨n,l,u,j _ w⟩
  .exact .inr (.inl ⟨a,b,z,l,u,w,m,j _ g⟩)
  .exact h.elim
  .exact h.elim
theorem _ik{k:Bool->Prop}(j:∀b,k b->k' b)(h:wIn x y M k):wIn x y M k':=by
 unfold wIn at h ⊢
 split at h
 .exact⟨h.1,h.2.1,j _ h.2.2⟩
 .exact⟨h.1,h.2.1,j _ h.2.2⟩
 .rcases h with⟨m,l,u,w,g⟩|⟨z,d,l,u,w⟩
  .exact .inl ⟨m,l,u,w,j _ g⟩
  .exact .inr ⟨z,d,l,u,j _ w⟩
 .exact h.elim
theorem _79(op:CmpOp):Mon2 (wCmp op):=by
 intro x y M Q m l h
 cases op
 .exact _il (k:=λb=>Q (.bl b) M) (k':=λb=>m (.bl b) M) (λb h=>l _ _ h) h
 .exact _il (k:=λb=>Q (.bl (!b)) M) (k':=λb=>m (.bl (!b)) M) (λb h=>l _ _ h) h
 .obtain⟨i,j,u,w,z⟩:=h;exact⟨i,j,u,w,l _ _ z⟩
 .rcases h with⟨i,j,u,w,z⟩|⟨i,j,u,w,z⟩
  .exact .inl ⟨i,j,u,w,l _ _ z⟩
  .exact .inr ⟨i,j,u,w,l _ _ z⟩
 .obtain⟨i,j,u,w,z⟩:=h;exact⟨i,j,u,w,l _ _ z⟩
 .obtain⟨i,j,u,w,z⟩:=h;exact⟨i,j,u,w,l _ _ z⟩
 .rcases h with h|⟨b,e,h⟩
  .exact .inl ⟨h.1,l _ _ h.2⟩
  .exact .inr ⟨b,e,l _ _ h⟩
 .rcases h with h|⟨b,e,h⟩
  .exact .inl ⟨h.1,l _ _ h.2⟩
  .exact .inr ⟨b,e,l _ _ h⟩
 .exact _ik (k:=λb=>Q (.bl b) M) (k':=λb=>m (.bl b) M) (λb h=>l _ _ h) h
 .exact _ik (k:=λb=>Q (.bl (!b)) M) (k':=λb=>m (.bl (!b)) M) (λb h=>l _ _ h) h
section
variable{X:Cx}
set_option tactic.hygienic true in
theorem _g4{K:Y00}(r:RM K H m v):decide (v=.bl b)=isBl b m:=by
 cases r<;>first|rfl|(rename_i c;cases b<;>cases c<;>rfl)
theorem _e6{K:Y00}(r:RM K H m v):decide (v=.non)=ZjN m:=by cases r<;>rfl
theorem _nO{k:Key}(r:KV kvs vs)(h:valV kvs k=some v):∃u,valueAt vs k=some u/\RelV v u:=by
 have q:=r.val k
 rw[h]at q
 exact RelO.some_of q
theorem LstM.sq(j:RH X.K M H)(h:LstM M x xs)(r:RM X.K H x u):∃a vs,u=.ref a/\SqL X.K H a vs/\RMs X.K H xs vs:=by
 rcases h with rfl|⟨a,rfl,h⟩
 .obtain⟨_,_,rfl,l,w⟩:=r.inv
  exact⟨_,_,rfl,l.sq,w⟩
 .obtain rfl:=r.inv
  obtain⟨vs,e,q⟩:=j.lst h
  exact⟨a,vs,rfl,SqL.of e,q⟩
theorem _8D{j:List V}{l:List Value}(r:Vals j l){i:Nat}{u:Value}(h:l[i]?=some u):∃x,j[i]?=some x/\RelV x u:=by
 induction r generalizing i with
 |nil=>cases h
 |cons q _ w=>
  cases i with
  |zero=>cases h;exact⟨_,rfl,q⟩
  |succ i=>exact w (i:=i) h
theorem _lU(r:KV kvs vs){k:Key}(h:(k,u)∈vs):∃x,(k,x)∈kvs/\RelV x u:=by
 induction r with
 |nil=>cases h
 | @cons p j _ _ q _ l=>
  obtain⟨w,y⟩:=p
  obtain⟨d,c⟩:=j
  rcases Y06.mp h with e|h
  .cases e
   have z:w=k:=q.1
   subst z
   exact⟨y,Y0c,q.2⟩
  .obtain⟨x,m,g⟩:=l h
   exact⟨x,Y04 _ m,g⟩
theorem _i6{K:Y00}{k:Key}:∀{m:List (Key×MV)} {j:List (Key×V)},RKs K H m j->(k,v)∈j->∃x,(k,x)∈m/\RM K H x v
 |_,_,.nil,h=>by cases h
 |_,_,.cons r t,h=>by
  rcases Y06.mp h with e|h
  .cases e;exact⟨_,Y0c,r⟩
  .obtain⟨x,m,q⟩:=_i6 t h
   exact⟨x,Y04 _ m,q⟩
set_option tactic.hygienic true in
theorem Alike.inn{pz:List (Addr×Obj)}{s:Shared}{σ:St}{H:Hp}{M:MH}(I:Inv X pz σ H s)(C:RH X.K M H){n:Nat}{A:Around}(c:A.units<cLine)
  (G:∀{x y:MV} {u v:V} {l w:Value},Alike M n x y->RM X.K H x u->RM X.K H y v->RelV u l->RelV v w->AliP X.prog X.w A.in1 s l w)
  {x y:MV} {u v:V} {l w:Value} (h:Alike M (n+1) x y)(J:RM X.K H x u)(Q:RM X.K H y v)(S:RelV u l)(o:RelV v w):
  (Z4b x=true/\x=y)\/∃a b,l=.ref a/\w=.ref b/\RcP X.prog X.w A s (.ref a) (.ref b)/\RnP X.prog X.w A s (.ref a) (.ref b):=by
 rw[Alike]at h
 rcases h with h|⟨xs,ys,rfl,rfl,e,h⟩|⟨xs,ys,D,E,e,h⟩|⟨a,b,ka,kb,rfl,rfl,D,E,e,h⟩
 .exact .inl h
 .obtain⟨_,_,rfl,g1,q⟩:=J.inv
  cases Q with
  |tup g2 r=>
   rename_i a vs b us
   obtain rfl:l=Y0O a:=S
   obtain rfl:w=Y0O b:=o
   obtain⟨m,L,N,_⟩:=I.tuple (SqT.of g1)
   obtain⟨g,O,P,_⟩:=I.tuple (SqT.of g2)
   have z:m.toArray.size=g.toArray.size:=by rw[Y0f,Y0f,<-L.length,<-O.length,<-q.length,<-r.length];exact e
   have d:∀p∈m.toArray.toList.zip g.toArray.toList,AliP X.prog X.w A.in1 s p.1 p.2:=by
    intro p hp
    obtain⟨i,hi⟩:=List.mem_iff_getElem?.mp hp
    rw[Y2J]at hi
    obtain⟨x1,R,T⟩:=_8D L hi.1
    obtain⟨x2,U,W⟩:=_8D O hi.2
    obtain⟨Y,f,d3⟩:=q.get' R
    obtain⟨F,Z,d4⟩:=r.get' U
    exact G (h i Y F f Z) d3 d4 T W
   exact .inr ⟨_,_,rfl,rfl,_kT N P z c d,_jv N P z c d⟩
 .obtain⟨a,vs,rfl,g1,q⟩:=D.sq C J
  obtain⟨b,us,rfl,g2,r⟩:=E.sq C Q
  obtain rfl:l=Y0O a:=S
  obtain rfl:w=Y0O b:=o
  obtain⟨m,L,⟨o1,n1,N,P,_,t3⟩,_⟩:=I.list g1
  obtain⟨g,O,⟨o2,n2,t4,t5,_,t6⟩,_⟩:=I.list g2
  have z:m.toArray.size=g.toArray.size:=by rw[Y0f,Y0f,<-L.length,<-O.length,<-q.length,<-r.length];exact e
  have d:∀j (D:j<m.toArray.size)(E:j<g.toArray.size),AliP X.prog X.w A.in1 s m.toArray[j] g.toArray[j]:=by
   intro i l1 l2
   obtain⟨x1,R,T⟩:=_8D L (i:=i) (u:=m.toArray[i]) (by simp[Y02 (show i<m.length by simpa using l1)])
   obtain⟨x2,U,W⟩:=_8D O (i:=i) (u:=g.toArray[i]) (by simp[Y02 (show i<g.length by simpa using l2)])
   obtain⟨Y,f,d3⟩:=q.get' R
   obtain⟨F,Z,d4⟩:=r.get' U
   exact G (h i Y F f Z) d3 d4 T W
  exact .inr ⟨_,_,rfl,rfl,_kU ⟨o1,N,P,n1,t3⟩ ⟨o2,t4,t5,n2,t6⟩ z c d,_jw ⟨o1,N,P,n1,t3⟩ ⟨o2,t4,t5,n2,t6⟩ z c d⟩
 .obtain rfl:=J.inv;obtain rfl:=Q.inv
  obtain rfl:l=Y0O a:=S
  obtain rfl:w=Y0O b:=o
  obtain⟨va,ea,wa,_⟩:=C.dic D
  obtain⟨vb,eb,wb,_⟩:=C.dic E
  obtain⟨_,na,ua,pa,da⟩:=_mi I.hok ea
  obtain⟨_,nb,ub,pb,db⟩:=_mi I.hok eb
  have z:ua.length=ub.length:=by rw[<-Paired.length pa,<-wa.length,<-Paired.length pb,<-wb.length];exact e
  have d:∀p∈ua,∃y,valueAt ub p.1=some y/\AliP X.prog X.w A.in1 s p.2 y:=by
   rintro⟨k,u1⟩ hp
   obtain⟨x1,R,T⟩:=_lU pa hp
   obtain⟨Y,U,W⟩:=_i6 wa R
   obtain⟨F,f,Z⟩:=h k Y U
   rcases _74 (k:=k) wb with⟨B,z2⟩|⟨x',u2,B,z2,r3⟩
   .rw[f]at B;cases B
   .rw[f]at B;cases B
    obtain⟨w',hw,rw'⟩:=_nO pb z2
    exact⟨w',hw,G Z W r3 T rw'⟩
  exact .inr ⟨_,_,rfl,rfl,_kV na nb da db c z d,_jx na nb da db c z d⟩
theorem _aH{K:Y00}(f:Z4b x=true)(j:RM K H x u)(l:RM K H x v)(y:RelV u u')(z:RelV v v'):AliP P w A s u' v':=by
 obtain⟨rfl,m⟩:=_3V f j
 obtain⟨rfl,g⟩:=_3V f l
 have h:=_iB (A:=A) (s:=s) y z m g
 have e:eqV (toV x) (toV x)=true:=by cases x<;>first|(cases f;done)|simp[toV,eqV]
 rw[e]at h
 exact .of_at h
theorem Alike.ok(I:Inv X pz σ H s)(d:RH X.K M H):∀(n:Nat){A:Around} {x y:MV} {u v:V} {m g:Value},A.units+n<cLine->Alike M n x y->RM X.K H x u->RM X.K H y v->RelV u m->RelV v g->AliP X.prog X.w A s m g
 |0,A,x,y,u,v,m,g,hu,h,j,l,w,z=>by
  rw[Alike]at h
  obtain⟨f,rfl⟩:=h
  exact _aH f j l w z
 |n+1,A,x,y,u,v,m,g,hu,h,j,l,w,z=>by
  rcases Alike.inn I d (A:=A) (by lia) (λh j l w z=>Alike.ok I d n (show A.units+1+n<cLine by lia) h j l w z) h j l w z with⟨f,rfl⟩|⟨a,b,rfl,rfl,h,_⟩
  .exact _aH f j l w z
  .exact .refs h
theorem Alike.top(I:Inv X pz σ H s)(m:RH X.K M H)(h:Alike M n x y)(q:X.A.units+n<cLine)(d:eqS x y=none)(j:RM X.K H x u)(l:RM X.K H y v)(w:RelV u u')(z:RelV v v'):
  RcP X.prog X.w X.A s u' v'/\RnP X.prog X.w X.A s u' v':=by
 have g:¬(Z4b x=true/\x=y):=by
  rintro⟨f,rfl⟩
  cases x<;>first|(cases f;done)|(cases d;done)
 cases n with
 |zero=>rw[Alike]at h;exact(g h).elim
 |succ n=>
  rcases Alike.inn I m (A:=X.A) (by lia) (λh j l w z=>Alike.ok I m n (show X.A.units+1+n<cLine by lia) h j l w z) h j l w z with f|⟨a,b,rfl,rfl,h,c⟩
  .exact(g f).elim
  .exact⟨h,c⟩
set_option tactic.hygienic true in
theorem _an(hu:X.A.units+70<cLine)(op:CmpOp):OpR X (compareOp op) (li2 X.K (wCmp op)):=by
 intro q s r H x y v u Q I w z h
 obtain⟨E,F,M,m,g,L,h⟩:=h
 have l:∀b,Dn X.K H Q (.bl b) M->Q (.bl b) H:=λb h=>h _ _ (Kp.refl _) (.bl b) L
 have A:X.A.units+1<cLine:=by lia
 have hu64:X.A.units+64<cLine:=by lia
 have huI:X.A.in1.units+64<cLine:=by show X.A.units+1+64<cLine;lia
 have B:X.A.units<cLine:=by lia
 cases op with
 |Lt=>obtain⟨i,j,rfl,rfl,h⟩:=h;obtain rfl:=m.inv;obtain rfl:=g.inv;exact _nI q s r H _ _ v u Q I w z ⟨_,_,rfl,rfl,l _ h⟩
 |LtE=>
  rcases h with⟨i,j,rfl,rfl,h⟩|⟨i,j,rfl,rfl,h⟩
  .obtain rfl:=m.inv;obtain rfl:=g.inv;exact _nJ q s r H _ _ v u Q I w z ⟨_,_,rfl,rfl,l _ h⟩
  .obtain rfl:=m.inv
   obtain rfl:=g.inv
   obtain⟨t1,rfl⟩:=w
   obtain⟨t2,rfl⟩:=z
   exact PySem.P.le_str ⟨.bl _,H,I,rfl,l _ h⟩
 |Gt=>obtain⟨i,j,rfl,rfl,h⟩:=h;obtain rfl:=m.inv;obtain rfl:=g.inv;exact _nK q s r H _ _ v u Q I w z ⟨_,_,rfl,rfl,l _ h⟩
 |GtE=>obtain⟨i,j,rfl,rfl,h⟩:=h;obtain rfl:=m.inv;obtain rfl:=g.inv;exact _nL q s r H _ _ v u Q I w z ⟨_,_,rfl,rfl,l _ h⟩
 |Is=>
  rcases h with⟨rfl,h⟩|⟨b,rfl,h⟩
  .obtain rfl:=g.inv;exact _lG q s r H _ _ v u Q I w z ⟨rfl,by rw[_e6 m];exact l _ h⟩
  .obtain rfl:=g.inv;exact _jp q s r H _ _ v u Q I w z ⟨b,rfl,by rw[_g4 m];exact l _ h⟩
 |IsNot=>
  rcases h with⟨rfl,h⟩|⟨b,rfl,h⟩
  .obtain rfl:=g.inv;exact _jm q s r H _ _ v u Q I w z ⟨rfl,by rw[_e6 m];exact l _ h⟩
  .obtain rfl:=g.inv;exact _hi q s r H _ _ v u Q I w z ⟨b,rfl,by rw[_g4 m];exact l _ h⟩
 |Eq=>
  have h:wEq E F M λb=>Dn X.K H Q (.bl b) M:=h
  unfold wEq at h
  split at h
  .rename_i b e
   obtain⟨d,c⟩:=_iA e m g
   exact _nM q s r H _ _ v u Q I w z ⟨d,by rw[c];exact l _ h⟩
  .rcases h with h|h
   .exact h.elim
   rcases h with⟨n,p,U,W⟩|⟨a,b,C,rfl,rfl,W,G,J⟩|h|h
   .exact(U.top I L (by lia) (by assumption) m g w z).1 _ _ ⟨.bl true,H,I,rfl,l _ W⟩
   .obtain rfl:=m.inv;obtain rfl:=g.inv
    obtain⟨T,d,f⟩:=L.lst W
    obtain⟨us,c,S⟩:=L.lst G
    obtain rfl:=S.inv
    refine _hl B q s r H _ _ v u Q I w z ⟨_,_,T,rfl,rfl,SqL.of d,SqL.of c,?_⟩
    have:T.isEmpty=C.isEmpty:=by cases f<;>rfl
    rw[this];exact l _ J
   .exact h.elim
   .exact h.elim
 |NotEq=>
  have h:wEq E F M λb=>Dn X.K H Q (.bl (!b)) M:=h
  unfold wEq at h
  split at h
  .rename_i b e
   obtain⟨d,c⟩:=_iA e m g
   exact _nH q s r H _ _ v u Q I w z ⟨d,by rw[c];exact l _ h⟩
  .rcases h with h|h
   .exact h.elim
   rcases h with⟨n,p,U,W⟩|⟨a,b,C,rfl,rfl,W,G,J⟩|h|h
   .exact(U.top I L (by lia) (by assumption) m g w z).2 _ _ ⟨.bl false,H,I,rfl,l _ W⟩
   .obtain rfl:=m.inv;obtain rfl:=g.inv
    obtain⟨T,d,f⟩:=L.lst W
    obtain⟨us,c,S⟩:=L.lst G
    obtain rfl:=S.inv
    refine _hj B q s r H _ _ v u Q I w z ⟨_,_,T,rfl,rfl,SqL.of d,SqL.of c,?_⟩
    have:T.isEmpty=C.isEmpty:=by cases f<;>rfl
    rw[this];exact l _ J
   .exact h.elim
   .exact h.elim
 |In=>
  have h:wIn E F M λb=>Dn X.K H Q (.bl b) M:=h
  unfold wIn at h
  split at h
  .obtain⟨_,_,rfl,p,f⟩:=g.inv
   obtain⟨N,O,h⟩:=h
   obtain⟨d,P⟩:=_3V N m
   obtain⟨c,R⟩:=_3U O f
   exact _8U q s r H _ _ v u Q I w z ⟨_,_,rfl,.inr (SqT.of p),P,R,by rw[d,c];exact l _ h⟩
  .obtain⟨_,_,rfl,p,f⟩:=g.inv
   obtain⟨N,O,h⟩:=h
   obtain⟨d,P⟩:=_3V N m
   obtain⟨c,R⟩:=_3U O f
   exact _8U q s r H _ _ v u Q I w z ⟨_,_,rfl,.inl p.sq,P,R,by rw[d,c];exact l _ h⟩
  .obtain rfl:=g.inv
   rcases h with⟨C,p,N,O,h⟩|⟨o,D,p,U,h⟩
   .obtain⟨T,e,f⟩:=L.lst p
    obtain⟨d,P⟩:=_3V N m
    obtain⟨c,R⟩:=_3U O f
    exact _8U q s r H _ _ v u Q I w z ⟨_,_,rfl,.inl (SqL.of e),P,R,by rw[d,c];exact l _ h⟩
   .obtain⟨T,e,f,_⟩:=L.dic p
    have:=_e3 U m
    subst this
    obtain rfl:u=Y0O _:=z
    refine d_in A I (DGet.k (k:=D) e) w λs3 I3=>⟨.bl _,H,I3,rfl,?_⟩
    rcases _74 (k:=D) f with⟨Y,Z⟩|⟨x',u',Y,Z,_⟩
    .rw[Z];rw[Y]at h;exact l _ h
    .rw[Z];rw[Y]at h;exact l _ h
  .exact h.elim
 |NotIn=>
  have h:wIn E F M λb=>Dn X.K H Q (.bl (!b)) M:=h
  unfold wIn at h
  split at h
  .obtain⟨_,_,rfl,p,f⟩:=g.inv
   obtain⟨N,O,h⟩:=h
   obtain⟨d,P⟩:=_3V N m
   obtain⟨c,R⟩:=_3U O f
   exact _4k q s r H _ _ v u Q I w z ⟨_,_,rfl,.inr (SqT.of p),P,R,by rw[d,c];exact l _ h⟩
  .obtain⟨_,_,rfl,p,f⟩:=g.inv
   obtain⟨N,O,h⟩:=h
   obtain⟨d,P⟩:=_3V N m
   obtain⟨c,R⟩:=_3U O f
   exact _4k q s r H _ _ v u Q I w z ⟨_,_,rfl,.inl p.sq,P,R,by rw[d,c];exact l _ h⟩
  .obtain rfl:=g.inv
   rcases h with⟨C,p,N,O,h⟩|⟨o,D,p,U,h⟩
   .obtain⟨T,e,f⟩:=L.lst p
    obtain⟨d,P⟩:=_3V N m
    obtain⟨c,R⟩:=_3U O f
    exact _4k q s r H _ _ v u Q I w z ⟨_,_,rfl,.inl (SqL.of e),P,R,by rw[d,c];exact l _ h⟩
   .obtain⟨T,e,f,_⟩:=L.dic p
    have:=_e3 U m
    subst this
    obtain rfl:u=Y0O _:=z
    refine _ke A I (DGet.k (k:=D) e) w λs3 I3=>⟨.bl _,H,I3,rfl,?_⟩
    rcases _74 (k:=D) f with⟨Y,Z⟩|⟨x',u',Y,Z,_⟩
    .rw[Z];rw[Y]at h;exact l _ h
    .rw[Z];rw[Y]at h;exact l _ h
  .exact h.elim
end
end L2
namespace L2
open PySem PySem.Spec PyProof.Rows
def wIx(x y:MV)(M:MH)(Q:QM):Prop:=match x with
 |.tup l=>∃i v,y=.int i/\atI l i=some v/\Q v M
 |.frl l=>∃i v,y=.int i/\atI l i=some v/\Q v M
 |.str z=>∃i c,y=.int i/\z.length<=sizeLine/\atI z.cps.toList i=some c/\Q (.str ⟨#[c]⟩) M
 |.ref a=>(∃l i v,M a=some (.lst l)/\y=.int i/\atI l i=some v/\Q v M)\/(∃j u v,M a=some (.dic j)/\keyM y=some u/\valM j u=some v/\Q v M)\/∃o j u v,M a=some (.fdic o j)/\keyM y=some u/\valM j u=some v/\Q v M
 |_=>False
theorem _ij:Mon2 wIx:=by
 intro x y M Q c m h
 unfold wIx at h ⊢
 split at h
 .obtain⟨i,v,j,l,u⟩:=h;exact⟨i,v,j,l,m _ _ u⟩
 .obtain⟨i,v,j,l,u⟩:=h;exact⟨i,v,j,l,m _ _ u⟩
 .obtain⟨i,v,j,l,u,w⟩:=h;exact⟨i,v,j,l,u,m _ _ w⟩
 .rcases h with⟨d,i,v,j,l,u,w⟩|⟨z,g,v,j,l,u,w⟩|⟨o,z,g,v,j,l,u,w⟩
  .exact .inl ⟨d,i,v,j,l,u,m _ _ w⟩
  .exact .inr (.inl ⟨z,g,v,j,l,u,m _ _ w⟩)
  .exact .inr (.inr ⟨o,z,g,v,j,l,u,m _ _ w⟩)
 .exact h.elim
theorem RMs.atI{K:Y00}(r:RMs K H m v)(e:atI m i=some x):∃u,atI v i=some u/\RM K H x u:=by
 unfold L2.atI at e ⊢
 rw[<-r.length]
 cases q:ixN m.length i with
 |none=>rw[q]at e;cases e
 |some j=>rw[q]at e;exact r.get e
section
variable{X:Cx}
theorem _g2(z:X.A.units+1<cLine):IxR X (λx y H Q=>∃a v,x=.ref a/\DGet H a y (some v)/\Q v H):=by
 intro j l p s e H x y v u Q I m d h c
 obtain⟨a,f,rfl,g,q⟩:=h
 obtain rfl:v=Y0O a:=m
 exact tail_any (_dA I g) Y2I.lookup (_gz z I g d λL N r w=>⟨f,H,r,w,q⟩) c
theorem _m1(F:X.A.units+1<cLine):IxR X (li2 X.K wIx):=by
 intro j l O s P H x y v u Q I R T h U
 obtain⟨S,n,M,Z,W,z,h⟩:=h
 unfold wIx at h
 split at h
 .obtain⟨i,A,rfl,m,w⟩:=h
  obtain rfl:=W.inv
  obtain⟨_,_,rfl,d,f⟩:=Z.inv
  obtain⟨q,e,r⟩:=f.atI m
  exact _lZ j l O s P H _ _ v u Q I R T ⟨_,_,_,q,rfl,rfl,SqT.of d,e,w _ _ (Kp.refl _) r z⟩ U
 .obtain⟨i,A,rfl,m,w⟩:=h
  obtain rfl:=W.inv
  obtain⟨_,_,rfl,d,f⟩:=Z.inv
  obtain⟨q,e,r⟩:=f.atI m
  exact _g1 j l O s P H _ _ v u Q I R T ⟨_,_,_,q,rfl,rfl,d.sq,e,w _ _ (Kp.refl _) r z⟩ U
 .obtain⟨i,c,rfl,m,w,p⟩:=h
  obtain rfl:=Z.inv;obtain rfl:=W.inv
  exact _m0 j l O s P H _ _ v u Q I R T ⟨_,_,c,rfl,rfl,m,w,p _ _ (Kp.refl _) (.str _) z⟩ U
 .obtain rfl:=Z.inv
  rcases h with⟨b,i,A,d,rfl,w,p⟩|⟨C,L,A,d,m,w,p⟩|⟨o,C,L,A,d,m,w,p⟩
  .obtain rfl:=W.inv
   obtain⟨B,e,f⟩:=z.lst d
   obtain⟨q,G,r⟩:=f.atI w
   exact _g1 j l O s P H _ _ v u Q I R T ⟨_,_,_,q,rfl,rfl,SqL.of e,G,p _ _ (Kp.refl _) r z⟩ U
  .obtain⟨B,e,f,_⟩:=z.dic d
   have D:=_e3 m W
   rcases _74 (k:=L) f with⟨N,Y⟩|⟨J,q,N,Y,E⟩
   .rw[N]at w;cases w
   .rw[N]at w;cases w
    have g:=DGet.k (k:=L) e
    rw[Y]at g
    subst D
    exact _g2 F j l O s P H _ _ v u Q I R T ⟨_,q,rfl,g,p _ _ (Kp.refl _) E z⟩ U
  .obtain⟨B,e,f,_⟩:=z.fdic d
   have D:=_e3 m W
   rcases _74 (k:=L) f with⟨N,Y⟩|⟨J,q,N,Y,E⟩
   .rw[N]at w;cases w
   .rw[N]at w;cases w
    have g:DGet H _ (kV L) (valV B L):=.inl ⟨B,L,.inr ⟨o,e⟩,rfl,rfl⟩
    rw[Y]at g
    subst D
    exact _g2 F j l O s P H _ _ v u Q I R T ⟨_,q,rfl,g,p _ _ (Kp.refl _) E z⟩ U
 .exact h.elim
end
noncomputable def cutM(j:List MV)(lo l:Option Int):List MV:=(j.drop (HT.sIx j.length 0 lo)).take (HT.sIx j.length j.length l - HT.sIx j.length 0 lo)
theorem RMs.cut{K:Y00}(r:RMs K H m v)(lo j:Option Int):RMs K H (cutM m lo j) (cutV v lo j):=by
 unfold cutM cutV
 rw[<-r.length]
 exact(r.drop _).take _
abbrev WS:=MV->Option Int->Option Int->MH->QM->Prop
def wSl:WS:=λx lo l M Q=>match x with
 |.tup j=>Q (.tup (cutM j lo l)) M
 |.ref a=>∃j,M a=some (.lst j)/\∀p,M p=none->Q (.ref p) (updM M p (.lst (cutM j lo l)))
 |.str z=>z.length<=sizeLine/\Q (.str (cutS z lo l)) M
 |_=>False
theorem _ii{x:MV}{lo l:Option Int}{M:MH}{Q u:QM}(j:∀m w,Q m w->u m w)(h:wSl x lo l M Q):wSl x lo l M u:=by
 unfold wSl at h ⊢
 split at h
 .exact j _ _ h
 .obtain⟨y,z,g⟩:=h;exact⟨y,z,λp d=>j _ _ (g p d)⟩
 .exact⟨h.1,j _ _ h.2⟩
 .exact h.elim
def liS(K:Y00)(w:WS):V->Option Int->Option Int->Hp->VK->Prop:=λx lo l H Q=>∃j M,RM K H j x/\RH K M H/\w j lo l M (Dn K H Q)
section
variable{X:Cx}
set_option tactic.hygienic true in
theorem _kM:SlR X (liS X.K wSl):=by
 intro m s g H x v d c lo j f Q I q r L N h
 obtain⟨R,M,O,u,h⟩:=h
 unfold wSl at h
 split at h
 .rename_i w
  obtain⟨_,_,rfl,y,l⟩:=O.inv
  rename_i P
  by_cases hw:HT.sIx w.length 0 lo=0/\HT.sIx w.length w.length j=w.length
  .have e:cutM w lo j=w:=by unfold cutM;rw[hw.1,hw.2,Y3E,Y3p,List.take_length]
   rw[e]at h
   refine _iS m s g H _ v d c lo j f Q I q r L N ⟨_,_,rfl,SqT.of y,by rw[<-l.length];exact hw.1,by rw[<-l.length];exact hw.2,?_⟩
   exact h _ _ (Kp.refl _) (.tup y l) u
  refine _kK m s g H _ v d c lo j f Q I q r L N ⟨_,_,rfl,SqT.of y,by rw[<-l.length];exact hw,λp z=>?_⟩
  have k:=Kp.new z (.tup (cutV P lo j))
  exact h _ _ k (.tup _2R ((l.cut lo j).mono k)) (u.kept z _)
 .obtain rfl:=O.inv
  obtain⟨T,y,h⟩:=h
  obtain⟨P,e,l⟩:=u.lst y
  refine _iT m s g H _ v d c lo j f Q I q r L N ⟨_,_,rfl,SqL.of e,λp z=>?_⟩
  have k:=Kp.new z (.lst (cutV P lo j))
  exact h p (u.free z) _ _ k (.ref p) (u.put k ((l.cut lo j).mono k))
 .obtain rfl:=O.inv
  exact _kL m s g H _ v d c lo j f Q I q r L N ⟨_,rfl,h.1,h.2 _ _ (Kp.refl _) (.str _) u⟩
 .exact h.elim
end
def tyM(M:MH):MV->Option Ty7
 |.non=>some .none|.bl _=>some .bool|.int _=>some .int|.str _=>some .str|.tup _=>some .tuple
 |.ref a=>match M a with|some (.lst _)=>some .list|some (.dic _)=>some .dict|_=>none
 |_=>none
noncomputable def isTy:Ty7->Ty7->Bool
 |.bool,.int=>true
 |a,b=>decide (a=b)
theorem _fW(K:Y00)(T c:Ty7)(j:c≠.none):Y1B K (.type T.name) (.type c.name)=some (isTy T c):=by
 cases T<;>cases c<;>first|exact absurd rfl j|with_unfolding_all rfl
theorem _i1{K:Y00}(j:RH K M H)(r:RM K H m v)(e:tyM M m=some T):TyOf K H v (.type T.name):=by
 cases r with
 |non=>cases e;exact .non
 |bl b=>cases e;exact .bl b
 |int i=>cases e;exact .int i
 |str x=>cases e;exact .str x
 |tup h _=>cases e;exact .tup h
 |frl _ _=>cases e
 |ty _=>cases e
 |ref a=>
  unfold tyM at e
  dsimp only at e
  cases q:M a with
  |none=>rw[q]at e;cases e
  |some o=>
   rw[q]at e
   cases o with
   |lst w=>cases e;obtain⟨l,h,_⟩:=j.lst q;exact .lst h
   |dic u=>cases e;obtain⟨l,h,_⟩:=j.dic q;exact .dK h
   |ins _ _=>cases e
   |fdic _ _=>cases e
inductive BI where|len|isinst|max|min|sum|abs|int|list|tuple|dict|sorted|dictL|all|str
  deriving DecidableEq
noncomputable def bLen(u:List MV)(M:MH)(Q:QM):Prop:=match u with
 |[.tup j]=>Q (.int j.length) M
 |[.frl j]=>Q (.int j.length) M
 |[.str z]=>z.length<=sizeLine/\Q (.int z.length) M
 |[.ref a]=>(∃j,M a=some (.lst j)/\Q (.int j.length) M)\/∃l,M a=some (.dic l)/\Q (.int l.length) M
 |_=>False
def bIsi(j:List MV)(M:MH)(Q:QM):Prop:=match j with
 |[x,.ty c]=>∃T,tyM M x=some T/\c≠.none/\Q (.bl (isTy T c)) M
 |[x,.tup [.ty c,.ty d]]=>∃T,tyM M x=some T/\c≠.none/\d≠.none/\Q (.bl (isTy T c||isTy T d)) M
 |_=>False
noncomputable def bMax(l:List MV)(M:MH)(Q:QM):Prop:=match l with
 |[.int i,.int j]=>Q (.int (if j>i then j else i)) M
 |_=>False
noncomputable def bMin(l:List MV)(M:MH)(Q:QM):Prop:=match l with
 |[.int i,.int j]=>Q (.int (if j<i then j else i)) M
 |_=>False
noncomputable def bInt(j:List MV)(M:MH)(Q:QM):Prop:=match j with
 |[.str z]=>∃n,intText? z=some n/\z.length<=640/\Q (.int n) M
 |_=>False
noncomputable def bStr(j:List MV)(M:MH)(Q:QM):Prop:=match j with
 |[.int i]=>i.natAbs.log2<1920/\Q (.str (toString i)) M
 |[.str z]=>Q (.str z) M
 |_=>False
def bLst(l:List MV)(M:MH)(Q:QM):Prop:=match l with
 |[.tup j]=>∀p,M p=none->Q (.ref p) (updM M p (.lst j))
 |[.ref a]=>∃j,M a=some (.lst j)/\∀p,M p=none->Q (.ref p) (updM M p (.lst j))
 |_=>False
noncomputable def bTup(l:List MV)(M:MH)(Q:QM):Prop:=match l with
 |[.ref a]=>∃j,M a=some (.lst j)/\Q (.tup j) M
 |_=>False
noncomputable def prM(p:Key×MV):MV:=.tup [match p.1 with|.inl i=>.int i|.inr x=>.str x,p.2]
def Z8R(j:List (Key×MV)):List (Key×MV):=j.foldl (λc z=>putM c z.1 z.2) []
def bDic(u:List MV)(M:MH)(Q:QM):Prop:=match u with
 |[.ref a]=>∃j,M a=some (.dic j)/\∀p,M p=none->Q (.ref p) (updM M p (.dic j))
 |[.tup xs]=>∃l:List (Key×MV),xs=l.map prM/\∀p,M p=none->Q (.ref p) (updM M p (.dic (Z8R l)))
 |_=>False
def bDcl(l:List MV)(M:MH)(Q:QM):Prop:=match l with
 |[.ref a]=>∃j:List (Key×MV),M a=some (.lst (j.map prM))/\∀p,M p=none->Q (.ref p) (updM M p (.dic (Z8R j)))
 |_=>False
set_option tactic.hygienic true in
theorem _dW{K:Y00}:∀{w:List (Key×MV)} {l:List V},RMs K H (w.map prM) l->∃j:List (Key×V),ZiG H j l/\RKs K H w j:=by
 intro w
 induction w with
 |nil=>intro l h;cases h;exact⟨[],.nil,.nil⟩
 |cons p r y=>
  obtain⟨k,x⟩:=p
  intro l h
  have h:RMs K H (prM (k,x)::r.map prM) l:=h
  cases h with
  |cons a u=>
   obtain⟨j,z,m⟩:=y u
   obtain⟨_,_,rfl,e,t⟩:=a.inv
   cases t with
   |cons g d=>
    cases d with
    |cons c f=>
     cases f
     rename_i L q
     refine⟨(k,q)::j,.cons ⟨_,rfl,?_⟩ z,.cons c m⟩
     rw[e]
     cases k<;>cases g<;>rfl
theorem _8Q{K:Y00}:∀{l:List (Key×MV)} {j:List (Key×V)} {c:List (Key×MV)} {u:List (Key×V)},RKs K H l j->RKs K H c u->(c.map (·.1)).Nodup->
  RKs K H (l.foldl (λc z=>putM c z.1 z.2) c) (j.foldl (λc z=>putK c z.1 z.2) u)/\((l.foldl (λc z=>putM c z.1 z.2) c).map (·.1)).Nodup
 |_,_,_,_,.nil,h,nd=>⟨h,nd⟩
 |_,_,_,_,.cons r t,h,nd=>by
  obtain⟨a,b⟩:=_j9 r nd h
  have z:=_8Q t a b
  exact z
noncomputable def bAll(j:List MV)(M:MH)(Q:QM):Prop:=match j with
 |[.ref a]=>∃bs:List Bool,M a=some (.lst (bs.map MV.bl))/\Q (.bl (bs.all id)) M
 |_=>False
theorem RMs.bls_of{K:Y00}{H:Hp}{bs:List Bool}{j:List V}(h:RMs K H (bs.map MV.bl) j):j=bs.map V.bl:=h.map_of λ_ _ x=>by cases x;rfl
def wBi(f:BI)(j:List MV)(M:MH)(Q:QM):Prop:=match f with
 |.len=>bLen j M Q
 |.isinst=>bIsi j M Q
 |.max=>bMax j M Q
 |.min=>bMin j M Q
 |.sum=>False
 |.abs=>False
 |.int=>bInt j M Q
 |.list=>bLst j M Q
 |.tuple=>bTup j M Q
 |.dict=>bDic j M Q
 |.sorted=>False
 |.dictL=>bDcl j M Q
 |.all=>bAll j M Q
 |.str=>bStr j M Q
theorem _jF:MonW bLen:=by
 intro y M Q z j h
 unfold bLen at h ⊢
 split at h
 .exact j _ _ h
 .exact j _ _ h
 .exact⟨h.1,j _ _ h.2⟩
 .rcases h with⟨l,u,w⟩|⟨l,u,w⟩
  .exact .inl ⟨l,u,j _ _ w⟩
  .exact .inr ⟨l,u,j _ _ w⟩
 .exact h.elim
theorem _im(f:BI):MonW (wBi f):=by
 intro j M Q y w h
 cases f
 .exact _jF w h
 .have h:bIsi j M Q:=h
  show bIsi j M y
  unfold bIsi at h ⊢
  split at h
  .obtain⟨T,l,u,g⟩:=h;exact⟨T,l,u,w _ _ g⟩
  .obtain⟨T,l,u,g,d⟩:=h;exact⟨T,l,u,g,w _ _ d⟩
  .exact h.elim
 .have h:bMax j M Q:=h
  show bMax j M y
  unfold bMax at h ⊢
  split at h
  .exact w _ _ h
  .exact h.elim
 .have h:bMin j M Q:=h
  show bMin j M y
  unfold bMin at h ⊢
  split at h
  .exact w _ _ h
  .exact h.elim
 .exact Y0U h
 .exact Y0U h
 .have h:bInt j M Q:=h
  show bInt j M y
  unfold bInt at h ⊢
  split at h
  .obtain⟨n,l,u,g⟩:=h;exact⟨n,l,u,w _ _ g⟩
  .exact h.elim
 .have h:bLst j M Q:=h
  show bLst j M y
  unfold bLst at h ⊢
  split at h
  .exact λp z=>w _ _ (h p z)
  .obtain⟨m,l,u⟩:=h;exact⟨m,l,λp z=>w _ _ (u p z)⟩
  .exact h.elim
 .have h:bTup j M Q:=h
  show bTup j M y
  unfold bTup at h ⊢
  split at h
  .obtain⟨m,l,u⟩:=h;exact⟨m,l,w _ _ u⟩
  .exact h.elim
 .have h:bDic j M Q:=h
  show bDic j M y
  unfold bDic at h ⊢
  split at h
  .obtain⟨m,l,u⟩:=h;exact⟨m,l,λp z=>w _ _ (u p z)⟩
  .obtain⟨m,l,u⟩:=h;exact⟨m,l,λp z=>w _ _ (u p z)⟩
  .exact h.elim
 .exact Y0U h
 .have h:bDcl j M Q:=h
  show bDcl j M y
  unfold bDcl at h ⊢
  split at h
  .obtain⟨c,l,u⟩:=h;exact⟨c,l,λp z=>w _ _ (u p z)⟩
  .exact h.elim
 .have h:bAll j M Q:=h
  show bAll j M y
  unfold bAll at h ⊢
  split at h
  .obtain⟨bs,l,u⟩:=h;exact⟨bs,l,w _ _ u⟩
  .exact h.elim
 .have h:bStr j M Q:=h
  show bStr j M y
  unfold bStr at h ⊢
  split at h
  .exact⟨h.1,w _ _ h.2⟩
  .exact w _ _ h
  .exact h.elim
noncomputable def BI.val:BI->Value
 |.len=>.builtin "len"|.isinst=>.builtin "isinstance"|.max=>.builtin "max"|.min=>.builtin "min"|.sum=>.builtin "sum"|.abs=>.builtin "abs"
 |.int=>.type "int"|.list=>.type "list"|.tuple=>.type "tuple"|.dict=>.type "dict"|.sorted=>.builtin "sorted"|.dictL=>.type "dict"|.all=>.builtin "all"|.str=>.type "str"
section
variable{X:Cx}
theorem RMs.one{K:Y00}(r:RMs K H [m] vs):∃v,vs=[v]/\RM K H m v:=by
 obtain⟨_,_,rfl,a,b⟩:=r.inv
 cases b;exact⟨_,rfl,a⟩
theorem RMs.two{K:Y00}(r:RMs K H [m,n] vs):∃v w,vs=[v,w]/\RM K H m v/\RM K H n w:=by
 obtain⟨_,_,rfl,a,b⟩:=r.inv
 obtain⟨w,rfl,c⟩:=b.one;exact⟨_,_,rfl,a,c⟩
theorem _cM:Z4c X (.type "dict") (fun l H Q=>∃a j,l=[.ref a]/\H a=some (.dK j)/\∀p,H p=none->Q (.ref p) (upd H p (.dK j))):=by
 intro g s d H l c Q I r h
 obtain⟨a,j,rfl,w,q⟩:=h
 obtain⟨u,rfl,y⟩:=_5U r
 cases y
 exact _hK I (.inl w) λp f z m=>⟨.ref p,_,m,rfl,q p z⟩
theorem _kj(P:X.calm=true)(f:BI):Z4c X f.val (liW X.K (wBi f)):=by
 intro y s m H U g Q I r h
 obtain⟨q,M,d,j,h⟩:=h
 cases f with
 |len=>
  have h:bLen q M (Dn X.K H Q):=h
  unfold bLen at h
  split at h
  .obtain⟨v,rfl,a⟩:=d.one
   obtain⟨_,_,rfl,l,u⟩:=a.inv
   exact _51 y s m H _ g Q I r ⟨_,_,rfl,.inr (SqT.of l),by rw[<-u.length];exact h _ _ (Kp.refl _) (.int _) j⟩
  .obtain⟨v,rfl,a⟩:=d.one
   obtain⟨_,_,rfl,l,u⟩:=a.inv
   exact _51 y s m H _ g Q I r ⟨_,_,rfl,.inl l.sq,by rw[<-u.length];exact h _ _ (Kp.refl _) (.int _) j⟩
  .obtain⟨v,rfl,a⟩:=d.one
   obtain rfl:=a.inv
   exact _cJ y s m H _ g Q I r ⟨_,rfl,h.1,h.2 _ _ (Kp.refl _) (.int _) j⟩
  .obtain⟨v,rfl,a⟩:=d.one
   obtain rfl:=a.inv
   rcases h with⟨U,l,h⟩|⟨W,l,h⟩
   .obtain⟨O,e,u⟩:=j.lst l
    exact _51 y s m H _ g Q I r ⟨_,_,rfl,.inl (SqL.of e),by rw[<-u.length];exact h _ _ (Kp.refl _) (.int _) j⟩
   .obtain⟨O,e,u,_⟩:=j.dic l
    exact _gK y s m H _ g Q I r ⟨_,_,rfl,e,by rw[<-u.length];exact h _ _ (Kp.refl _) (.int _) j⟩
  .exact h.elim
 |isinst=>
  have h:bIsi q M (Dn X.K H Q):=h
  unfold bIsi at h
  split at h
  .obtain⟨v,w,rfl,a,b⟩:=d.two
   obtain rfl:=b.inv
   obtain⟨T,l,L,R⟩:=h
   exact _dG y s m H _ g Q I r ⟨_,_,_,_,rfl,_i1 j a l,_fW _ _ _ L,R _ _ (Kp.refl _) (.bl _) j⟩
  .obtain⟨v,w,rfl,a,b⟩:=d.two
   obtain⟨T,l,L,R,B⟩:=h
   obtain⟨_,_,rfl,C,D⟩:=b.inv
   cases D with
   |cons u E=>
    cases E with
    |cons F G=>
     cases G
     cases u
     cases F
     exact _cK y s m H _ g Q I r ⟨_,_,_,_,_,_,_,rfl,C,_i1 j a l,_fW _ _ _ L,_fW _ _ _ R,B _ _ (Kp.refl _) (.bl _) j⟩
  .exact h.elim
 |max=>
  have h:bMax q M (Dn X.K H Q):=h
  unfold bMax at h
  split at h
  .obtain⟨v,w,rfl,a,b⟩:=d.two
   obtain rfl:=a.inv;obtain rfl:=b.inv
   exact _gI P y s m H _ g Q I r ⟨_,_,rfl,h _ _ (Kp.refl _) (.int _) j⟩
  .exact h.elim
 |min=>
  have h:bMin q M (Dn X.K H Q):=h
  unfold bMin at h
  split at h
  .obtain⟨v,w,rfl,a,b⟩:=d.two
   obtain rfl:=a.inv;obtain rfl:=b.inv
   exact _gH P y s m H _ g Q I r ⟨_,_,rfl,h _ _ (Kp.refl _) (.int _) j⟩
  .exact h.elim
 |sum=>exact Y0U h
 |abs=>exact Y0U h
 |int=>
  have h:bInt q M (Dn X.K H Q):=h
  unfold bInt at h
  split at h
  .obtain⟨v,rfl,a⟩:=d.one
   obtain rfl:=a.inv
   obtain⟨n,l,L,R⟩:=h
   exact _cL y s m H _ g Q I r ⟨_,n,rfl,l,L,R _ _ (Kp.refl _) (.int _) j⟩
  .exact h.elim
 |list=>
  have h:bLst q M (Dn X.K H Q):=h
  unfold bLst at h
  split at h
  .obtain⟨v,rfl,a⟩:=d.one
   obtain⟨_,_,rfl,l,u⟩:=a.inv
   refine _8f y s m H _ g Q I r ⟨_,_,rfl,.inr (SqT.of l),λp c=>?_⟩
   have k:=λz=>Kp.new c (.lst z)
   exact h p (j.free c) _ _ (k _) (.ref p) (j.put (k _) (u.mono (k _)))
  .obtain⟨v,rfl,a⟩:=d.one
   obtain rfl:=a.inv
   obtain⟨U,l,h⟩:=h
   obtain⟨O,e,u⟩:=j.lst l
   refine _8f y s m H _ g Q I r ⟨_,_,rfl,.inl (SqL.of e),λp c=>?_⟩
   have k:=Kp.new c (.lst O)
   exact h p (j.free c) _ _ k (.ref p) (j.put k (u.mono k))
  .exact h.elim
 |tuple=>
  have h:bTup q M (Dn X.K H Q):=h
  unfold bTup at h
  split at h
  .obtain⟨v,rfl,a⟩:=d.one
   obtain rfl:=a.inv
   obtain⟨U,l,h⟩:=h
   obtain⟨O,e,u⟩:=j.lst l
   refine _bw y s m H _ g Q I r ⟨_,_,rfl,.inl ⟨SqL.of e,λp c=>?_⟩⟩
   have k:=Kp.new c (.tup O)
   exact h _ _ k (.tup _2R (u.mono k)) (j.kept c _)
  .exact h.elim
 |dict=>
  have h:bDic q M (Dn X.K H Q):=h
  unfold bDic at h
  split at h
  .obtain⟨v,rfl,a⟩:=d.one
   obtain rfl:=a.inv
   obtain⟨W,l,h⟩:=h
   obtain⟨O,e,u,J⟩:=j.dic l
   refine _cM y s m H _ g Q I r ⟨_,_,rfl,e,λp c=>?_⟩
   have k:=Kp.new c (.dK O)
   exact h p (j.free c) _ _ k (.ref p) (j.put k ⟨u.mono k,J⟩)
  .obtain⟨v,rfl,a⟩:=d.one
   obtain⟨S,rfl,L⟩:=h
   obtain⟨_,_,rfl,e,u⟩:=a.inv
   obtain⟨N,pv,Y⟩:=_dW u
   refine _aM P y s m H _ g Q I r ⟨_,N,_,rfl,.inr e,pv,λp c=>?_⟩
   have k:=Kp.new c (.dK (Zal N))
   obtain⟨Z,A⟩:=_8Q Y (.nil:RKs X.K H [] []) (by simp)
   exact L p (j.free c) _ _ k (.ref p) (j.put k ⟨Z.mono k,A⟩)
  .exact h.elim
 |sorted=>exact Y0U h
 |dictL=>
  have h:bDcl q M (Dn X.K H Q):=h
  unfold bDcl at h
  split at h
  .obtain⟨v,rfl,a⟩:=d.one
   obtain rfl:=a.inv
   obtain⟨S,l,L⟩:=h
   obtain⟨O,e,u⟩:=j.lst l
   obtain⟨N,pv,Y⟩:=_dW u
   refine _aM P y s m H _ g Q I r ⟨_,N,O,rfl,.inl e,pv,λp c=>?_⟩
   have k:=Kp.new c (.dK (Zal N))
   obtain⟨Z,A⟩:=_8Q Y (.nil:RKs X.K H [] []) (by simp)
   exact L p (j.free c) _ _ k (.ref p) (j.put k ⟨Z.mono k,A⟩)
  .exact h.elim
 |all=>
  have h:bAll q M (Dn X.K H Q):=h
  unfold bAll at h
  split at h
  .obtain⟨v,rfl,a⟩:=d.one
   obtain rfl:=a.inv
   obtain⟨bs,l,L⟩:=h
   obtain⟨O,e,u⟩:=j.lst l
   have:=u.bls_of
   subst this
   exact _gL P y s m H _ g Q I r ⟨_,bs,rfl,SqL.of e,L _ _ (Kp.refl _) (.bl _) j⟩
  .exact h.elim
 |str=>
  have h:bStr q M (Dn X.K H Q):=h
  unfold bStr at h
  split at h
  .obtain⟨v,rfl,a⟩:=d.one
   obtain rfl:=a.inv
   exact _cI y s m H _ g Q I r ⟨_,rfl,h.1,h.2 _ _ (Kp.refl _) (.str _) j⟩
  .obtain⟨v,rfl,a⟩:=d.one
   obtain rfl:=a.inv
   exact _cH y s m H _ g Q I r ⟨_,rfl,h _ _ (Kp.refl _) (.str _) j⟩
  .exact h.elim
end
theorem RMs.strs{K:Y00}:∀j:List Str,RMs K H (j.map MV.str) (j.map V.str)
 |[]=>.nil
 |n::r=>.cons (.str n) (RMs.strs r)
theorem RMs.strs_of{K:Y00}{H:Hp}{j:List Str}{l:List V}(h:RMs K H (j.map MV.str) l):l=j.map V.str:=h.map_of λ_ _ x=>by cases x;rfl
theorem _i5{K:Y00}(f:Nat->Int):∀l:List Nat,RMs K H (l.map λi=>MV.int (f i)) (l.map λi=>V.int (f i))
 |[]=>.nil
 |_::r=>.cons (.int _) (_i5 f r)
theorem _fs{K:Y00}(n:Nat):RMs K H ((Y0A n).map λi=>MV.int (i:Nat)) ((Y0A n).map λi=>V.int (i:Nat)):=_i5 (λi=>(i:Int)) _
inductive B2 where|ssrt|lset|tset|lrng
  deriving DecidableEq
noncomputable def B2.out:B2->String
 |.ssrt=>"sorted"
 |.lset=>"len"
 |.tset=>"len"
 |.lrng=>"list"
noncomputable def B2.inn:B2->String
 |.ssrt=>"set"
 |.lset=>"set"
 |.tset=>"set"
 |.lrng=>"range"
noncomputable def B2.outV:B2->Value
 |.ssrt=>.builtin "sorted"
 |.lset=>.builtin "len"
 |.tset=>.builtin "len"
 |.lrng=>.type "list"
def wB2(f:B2)(v:MV)(M:MH)(Q:QM):Prop:=match f with
 |.ssrt=>∃(a:Addr) (j N:List Str),v=.ref a/\M a=some (.lst (j.map MV.str))/\j.length+1<scanBound/\(∀z∈j,z∈N)/\N.length<64/\
   ∀p (l:List Str),M p=none->l.Nodup->(∀y,y∈l↔y∈j)->sortedS l=true->Q (.ref p) (updM M p (.lst (l.map MV.str)))
 |.lset=>False
 |.tset=>False
 |.lrng=>∃n:Nat,v=.int n/\n<=1000000/\∀p,M p=none->Q (.ref p) (updM M p (.lst ((Y0A n).map λi=>MV.int (i:Nat))))
theorem _in(f:B2):Mon1 (wB2 f):=by
 intro v M Q O w h
 cases f with
 |ssrt=>
  obtain⟨a,y,N,j,l,u,z,m,g⟩:=h
  exact⟨a,y,N,j,l,u,z,m,λp d c q r e=>w _ _ (g p d c q r e)⟩
 |lset=>exact Y0U h
 |tset=>exact Y0U h
 |lrng=>
  obtain⟨n,j,l,u⟩:=h
  exact⟨n,j,l,λp L=>w _ _ (u p L)⟩
section
variable{X:Cx}
theorem _kk(g:X.calm=true)(f:B2):ZgV X f.outV (.type f.inn) (li1 X.K (wB2 f)):=by
 intro d s c H x u Q I r h
 obtain⟨m,M,q,j,h⟩:=h
 cases f with
 |ssrt=>
  obtain⟨a,L,N,rfl,w,y,O,P,R⟩:=h
  obtain rfl:=q.inv
  obtain⟨Z,e,T⟩:=j.lst w
  have:=T.strs_of
  subst this
  refine _gF g d s c H _ u Q I r ⟨_,L,N,rfl,SqL.of e,y,O,P,λp z l U W Y=>?_⟩
  have k:=Kp.new l (.lst (z.map V.str))
  exact R p z (j.free l) U W Y _ _ k (.ref p) (j.put k (RMs.strs z))
 |lset=>exact Y0U h
 |tset=>exact Y0U h
 |lrng=>
  obtain⟨n,rfl,w,y⟩:=h
  obtain rfl:=q.inv
  refine _gJ g d s c H _ u Q I r ⟨n,rfl,w,λp l=>?_⟩
  have k:=Kp.new l (.lst ((Y0A n).map λi=>V.int (i:Nat)))
  exact y p (j.free l) _ _ k (.ref p) (j.put k (_fs n))
end
inductive MT where|append|extend|pop|join|split|starts
  deriving DecidableEq
def wMt(m:MT)(a:Addr)(u:List MV)(M:MH)(Q:QM):Prop:=∃j,M a=some (.lst j)/\match m,u with
 |.append,[y]=>j.length<sizeLine/\Q .non (updM M a (.lst (j++[y])))
 |.extend,[.ref b]=>∃l,M b=some (.lst l)/\j.length+l.length<=sizeLine/\Q .non (updM M a (.lst (j++l)))
 |.pop,[]=>∃y,j[j.length - 1]?=some y/\Q y (updM M a (.lst j.dropLast))
 |_,_=>False
def wMl(m:MT)(x:MV)(j:List MV)(M:MH)(Q:QM):Prop:=match x with
 |.ref a=>wMt m a j M Q
 |_=>False
def wMd(m:MT)(x:MV)(u:List MV)(M:MH)(Q:QM):Prop:=match m with
 |.join=>∃j b l,x=.str j/\u=[.ref b]/\M b=some (.lst (l.map MV.str))/\l.toArray.foldl (λn z=>n+z.length+j.length) 0<=sizeLine/\(Y0R j l).length<=sizeLine/\Q (.str (Y0R j l)) M
 |.split=>∃z y,x=.str z/\u=[.str y]/\(y.length==0)=false/\z.length+2<=sizeLine/\∀p,M p=none->Q (.ref p) (updM M p (.lst ((Txt.split z y).map MV.str)))
 |.starts=>∃z y,x=.str z/\u=[.str y]/\Q (.bl (Txt.startswith z y)) M
 |_=>False
noncomputable def MT.isL:MT->Bool
 |.join=>false|.split=>false|.starts=>false|_=>true
noncomputable def MT.ty:MT->String
 |.join=>"str"|.split=>"str"|.starts=>"str"|_=>"list"
noncomputable def mtOk(m:MT)(x:MV)(M:MH):Prop:=match m with
 |.join=>∃z,x=.str z
 |.split=>∃z,x=.str z
 |.starts=>∃z,x=.str z
 |_=>∃a j,x=.ref a/\M a=some (.lst j)
def wMts(m:MT)(x:MV)(j:List MV)(M:MH)(Q:QM):Prop:=match m with
 |.join=>wMd .join x j M Q
 |.split=>wMd .split x j M Q
 |.starts=>wMd .starts x j M Q
 |m=>wMl m x j M Q
theorem _hY(h:m.isL=true):wMts m x vs M Q=wMl m x vs M Q:=by cases m<;>first|rfl|cases h
theorem _hZ(h:m.isL=false):wMts m x vs M Q=wMd m x vs M Q:=by cases m<;>first|rfl|cases h
theorem _lR(j:∀m l,Q m l->Q' m l)(h:wMl m a vs M Q):wMl m a vs M Q':=by
 cases a<;>try exact h.elim
 obtain⟨u,w,h⟩:=h
 refine⟨u,w,?_⟩
 split at h
 .exact⟨h.1,j _ _ h.2⟩
 .obtain⟨z,a,b,c⟩:=h;exact⟨z,a,b,j _ _ c⟩
 .obtain⟨y,a,b⟩:=h;exact⟨y,a,j _ _ b⟩
 .exact h.elim
theorem _lS(w:∀m f,Q m f->Q' m f)(h:wMd m x vs M Q):wMd m x vs M Q':=by
 cases m<;>try exact h.elim
 .obtain⟨g,b,q,j,l,u,d,c,r⟩:=h;exact⟨g,b,q,j,l,u,d,c,w _ _ r⟩
 .obtain⟨z,y,j,l,u,d,c⟩:=h;exact⟨z,y,j,l,u,d,λp e=>w _ _ (c p e)⟩
 .obtain⟨z,y,j,l,u⟩:=h;exact⟨z,y,j,l,w _ _ u⟩
theorem _fR{m:MT}{a:MV}{j:List MV}{M:MH}{Q l:QM}(u:∀m w,Q m w->l m w)(h:wMts m a j M Q):wMts m a j M l:=by
 cases e:m.isL
 .rw[_hZ e]at h ⊢;exact _lS u h
 .rw[_hY e]at h ⊢;exact _lR u h
noncomputable def MT.id:MT->String
 |.join=>"str.join"|.split=>"str.split"|.starts=>"str.startswith"
 |.append=>"list.append"|.extend=>"list.extend"|.pop=>"list.pop"
def liM(K:Y00)(w:MV->List MV->MH->QM->Prop):V->List V->Hp->VK->Prop:=λx u H Q=>∃j l M,RM K H j x/\RMs K H l u/\RH K M H/\w j l M (Dn K H Q)
theorem RMs.dropLast{K:Y00}{H:Hp}:∀{m:List MV} {v:List V},RMs K H m v->RMs K H m.dropLast v.dropLast:=λr=>by
 rw[Y2j,Y2j,<-r.length];exact r.take _
section
variable{X:Cx}
theorem _jz(m:MT):MtR X m.id (liM X.K (wMl m)):=by
 intro z s g H x W v d Q I f q h
 obtain⟨Y,Z,M,P,r,u,h⟩:=h
 cases P<;>try exact h.elim
 obtain⟨A,R,h⟩:=h
 obtain⟨p,e,l⟩:=u.lst R
 have j:∀o,Kp H (upd H _ o):=λo=>Kp.upd e rfl o
 split at h
 .obtain⟨w,rfl,L⟩:=r.one
  exact _cb z s g H _ _ v d Q I f q ⟨_,p,w,rfl,rfl,e,by rw[<-l.length];exact h.1,h.2 _ _ (j _) .non (u.put (j _) ((l.append (.cons L .nil)).mono (j _)))⟩
 .obtain⟨w,rfl,L⟩:=r.one
  obtain rfl:=L.inv
  obtain⟨B,a,b,c⟩:=h
  obtain⟨ws,N,O⟩:=u.lst a
  exact _fQ z s g H _ _ v d Q I f q ⟨_,_,p,ws,rfl,rfl,e,N,by rw[<-l.length,<-O.length];exact b,c _ _ (j _) .non (u.put (j _) ((l.append O).mono (j _)))⟩
 .obtain rfl:=r.inv
  obtain⟨y,a,b⟩:=h
  obtain⟨T,N,U⟩:=l.get a
  exact _lP z s g H _ _ v d Q I f q ⟨_,p,T,rfl,rfl,e,by rw[<-l.length];exact N,b _ _ (j _) (U.mono (j _)) (u.put (j _) (l.dropLast.mono (j _)))⟩
 .exact h.elim
theorem _ft{K:Y00}{H:Hp}:∀{j:List Str} {l:List V},RMs K H (j.map MV.str) l->l=j.map V.str
 |[],_,.nil=>rfl
 |x::j,_,.cons r t=>by cases r;rw[_ft t];rfl
theorem _jA(Y:X.A.units+1<cLine)(m:MT):MtR X m.id (liM X.K (wMd m)):=by
 intro g s d H x Z v c Q I f r h
 obtain⟨A,B,M,L,N,j,h⟩:=h
 cases m<;>try exact h.elim
 .obtain⟨O,b,U,rfl,rfl,l,P,R,W⟩:=h
  obtain rfl:=L.inv
  obtain⟨w,rfl,u⟩:=N.one
  obtain rfl:=u.inv
  obtain⟨C,e,q⟩:=j.lst l
  have:=_ft q
  subst this
  exact _hr g s d H _ _ v c Q I f r ⟨O,b,U,rfl,rfl,SqL.of e,P,R,W _ _ (Kp.refl _) (.str _) j⟩
 .obtain⟨z,y,rfl,rfl,l,P,R⟩:=h
  obtain rfl:=L.inv
  obtain⟨w,rfl,u⟩:=N.one
  obtain rfl:=u.inv
  refine _hq g s d H _ _ v c Q I f r ⟨z,y,rfl,rfl,l,P,λp T=>?_⟩
  have k:=Kp.new T (.lst ((Txt.split z y).map V.str))
  exact R p (j.free T) _ _ k (.ref p) (j.put k (RMs.strs _))
 .obtain⟨z,y,rfl,rfl,l⟩:=h
  obtain rfl:=L.inv
  obtain⟨w,rfl,u⟩:=N.one
  obtain rfl:=u.inv
  exact _fP g s d H _ _ v c Q I f r ⟨z,y,rfl,rfl,l _ _ (Kp.refl _) (.bl _) j⟩
theorem _ih(r:X.A.units+1<cLine)(m:MT):MtR X m.id (liM X.K (wMts m)):=by
 intro j s l H x u v w Q I y z h
 obtain⟨g,d,M,c,f,q,h⟩:=h
 cases e:m.isL
 .rw[_hZ e]at h;exact _jA r m j s l H x u v w Q I y z ⟨g,d,M,c,f,q,h⟩
 .rw[_hY e]at h;exact _jz m j s l H x u v w Q I y z ⟨g,d,M,c,f,q,h⟩
end
def wPut(o i v:MV)(M:MH)(Q:MH->Prop):Prop:=match o with
 |.ref a=>(∃u k j,M a=some (.lst u)/\i=.int k/\ixN u.length k=some j/\Q (updM M a (.lst (u.set j v))))\/∃l w,M a=some (.dic l)/\keyM i=some w/\l.length<sizeLine/\Q (updM M a (.dic (putM l w v)))
 |_=>False
theorem _jC{o i v:MV}{M:MH}{Q m:MH->Prop}(g:∀d,Q d->m d)(h:wPut o i v M Q):wPut o i v M m:=by
 cases o<;>try exact h.elim
 rcases h with⟨c,k,j,l,u,w,y⟩|⟨z,f,l,u,w,y⟩
 .exact .inl ⟨c,k,j,l,u,w,g _ y⟩
 .exact .inr ⟨z,f,l,u,w,g _ y⟩
section
variable{X:Cx}
end
end L2
namespace L2
set_option genInjectivity false
set_option genCtorIdx false
open PySem PySem.Spec PyProof.Rows
mutual
inductive ITg where|nm (i:Nat)|tup (ts:ITgs)
inductive ITgs where|nil|cons (t:ITg)(ts:ITgs)
end
mutual
inductive IE where
 |var (i:Nat)
 |int (i:Int)|str (x:Str)|bl (b:Bool)|non
 |glb (x:Str)(i:Int)
 |ty (c:Ty7)
 |bin (op:Operator)(a b:IE)
 |neg (a:IE)
 |not (a:IE)
 |cmp (op:CmpOp)(a b:IE)
 |chn (op op':CmpOp)(a b c:IE)
 |and (a b:IE)
 |or (a b:IE)
 |ife (c a b:IE)
 |tup (es:IEs)
 |lst (es:IEs)
 |dic
 |ix (a b:IE)
 |sl (a:IE)(lo hi:IO)
 |call (j:Nat)(e:IE)(es:IEs)
 |bi (f:BI)(e:IE)(es:IEs)
 |b2 (f:B2)(e:IE)
 |mt (m:MT)(o:IE)(es:IEs)
 |comp (own:List Str)(fr:List Nat)(src:ISr)(tg:ITg)(test:IO)(elt:IE)
 |fld (c:Str)(o:IE)(f:Str)
 |mcall (j:Nat)(c m:Str)(o:IE)(es:IEs)
 |make (j:Nat)(c:Str)(e:IE)(es:IEs)
 |disp (ps:IPs)
 |mxd (e:IE)
 |st3 (e:IE)
 |gin (x:Str)(kvs:List (Str×Int))(e:IE)
 |gix (x:Str)(kvs:List (Str×Int))(e:IE)
inductive IPs where|nil|cons (k v:IE)(r:IPs)
inductive IEs where|nil|cons (e:IE)(es:IEs)
inductive IO where|none|some (e:IE)
inductive ISr where|seq (e:IE)|rng (e:IE)|rev (e:IE)
end
def wSt3(v:MV)(M:MH)(Q:QM):Prop:=∃(a:Addr) (j:List MV),v=.ref a/\M a=some (.lst j)/\∀p,M p=none->Q (.ref p) (updM M p (.lst (st3 j)))
theorem _jB(j:∀v M,Q v M->Q' v M)(h:wSt3 v M Q):wSt3 v M Q':=by
 obtain⟨a,l,u,w,y⟩:=h
 exact⟨a,l,u,w,λp z=>j _ _ (y p z)⟩
noncomputable def wMxd(v:MV)(M:MH)(Q:QM):Prop:=∃(a:Addr) (j:List Int),v=.ref a/\M a=some (.lst (j.map MV.int))/\∀m,(j=[]/\m=0\/m∈j/\∀i∈j,i<=m)->Q (.int m) M
theorem _jD(j:∀v M,Q v M->Q' v M)(h:wMxd v M Q):wMxd v M Q':=by
 obtain⟨a,l,u,w,y⟩:=h
 exact⟨a,l,u,w,λm z=>j _ _ (y m z)⟩
inductive Src where|tup (xs:List MV)|lst (a:Addr)(xs:List MV)|rng (lo:Int)(n:Nat)|str (x:Str)|rev (a:Addr)(xs:List MV)
noncomputable def Src.items:Src->List MV
 |.tup xs=>xs
 |.lst _ xs=>xs
 |.rng lo n=>(Y0A n).map λi=>.int (lo+(i:Nat))
 |.str x=>x.cps.toList.map λc=>.str ⟨#[c]⟩
 |.rev _ xs=>xs.reverse
def Src.ok(M:MH):Src->Prop
 |.lst a xs=>M a=some (.lst xs)
 |.rev a xs=>M a=some (.lst xs)
 |_=>True
def Src.okF(M:MH):Src->Prop
 |.lst a xs=>M a=some (.lst xs)
 |.rev a xs=>M a=some (.lst xs)
 |_=>True
def Src.okT(M:MH):Src->Prop
 |_=>True
def Src.thaw(M:MH):Src->MH
 |_=>M
noncomputable def Src.len:Src->Nat
 |.tup xs=>xs.length
 |.lst _ xs=>xs.length
 |.rng _ n=>n
 |.str x=>x.cps.size
 |.rev _ xs=>xs.length
theorem Src.items_len(S:Src):S.items.length=S.len:=by cases S<;>simp[Src.items,Src.len]
abbrev SpM:=List MV->MH->QM->Prop
abbrev TSm:=Sm->MH->(Src->MH->Prop)->Prop
mutual
def wTg:ITg->MV->Sm->(Sm->Prop)->Prop
 |.nm i,v,σ,Q=>Q (σ.set i (some v))
 |.tup ts,v,σ,Q=>∃xs,v=.tup xs/\wTgs ts xs σ Q
def wTgs:ITgs->List MV->Sm->(Sm->Prop)->Prop
 |.nil,xs,σ,Q=>xs=[]/\Q σ
 |.cons t ts,xs,σ,Q=>∃v r,xs=v::r/\wTg t v σ λj=>wTgs ts r j Q
end
noncomputable def sCm(own:List Str)(j:List Nat)(l:Sm):Sm:=own.map (λ_=>none)++j.map (λi=>l.getD i none)
noncomputable def onV(o:Option (Option MV))(k:MV->Prop):Prop:=match o with
 |some (some v)=>k v
 |_=>False
theorem _lK{k:MV->Prop}:onV o k=∃v,o=some (some v)/\k v:=by
 refine propext ⟨λh=>?_,fun⟨v,e,h⟩=>by subst e;exact h⟩
 match o,h with
 |some (some v),h=>exact⟨v,rfl,h⟩
noncomputable def onB(x:MV)(k:Bool->Prop):Prop:=match x with
 |.bl c=>k c
 |_=>False
theorem _ao{k:Bool->Prop}:onB x k=∃c,x=.bl c/\k c:=by
 refine propext ⟨λh=>?_,fun⟨v,e,h⟩=>by subst e;exact h⟩
 cases x<;>first|exact⟨_,rfl,h⟩|exact h.elim
noncomputable def onF(o:Option (Str×SpM))(k:SpM->Prop):Prop:=match o with
 |some p=>k p.2
 |none=>False
theorem _lL{k:SpM->Prop}:onF o k=∃f j,o=some (f,j)/\k j:=by
 refine propext ⟨λh=>?_,fun⟨f,v,e,h⟩=>by subst e;exact h⟩
 match o,h with
 |some (f,j),h=>exact⟨f,j,rfl,h⟩
mutual
def wE(Φ:List (Str×SpM)):IE->TEm
 |.var i,σ,M,Q=>onV σ[i]? λv=>Q v M
 |.int i,_,M,Q=>Q (.int i) M
 |.str x,_,M,Q=>Q (.str x) M
 |.bl b,_,M,Q=>Q (.bl b) M
 |.non,_,M,Q=>Q .non M
 |.glb _ i,_,M,Q=>Q (.int i) M
 |.ty c,_,M,Q=>Q (.ty c) M
 |.bin op a b,σ,M,Q=>wE Φ a σ M λx M1=>wE Φ b σ M1 λy M2=>wBin op x y M2 Q
 |.neg a,σ,M,Q=>wE Φ a σ M λx M1=>∃i,x=.int i/\Q (.int (-i)) M1
 |.not a,σ,M,Q=>wE Φ a σ M λx M1=>onB x λb=>Q (.bl (!b)) M1
 |.cmp op a b,σ,M,Q=>wE Φ a σ M λx M1=>wE Φ b σ M1 λy M2=>wCmp op x y M2 Q
 |.chn op op' a b c,σ,M,Q=>wE Φ a σ M λx M1=>wE Φ b σ M1 λy M2=>wCmp op x y M2 λz g=>onB z λk=>(if k=true then wE Φ c σ g λw q=>wCmp op' y w q Q else Q (.bl false) g)
 |.and a b,σ,M,Q=>wE Φ a σ M λx M1=>onB x λc=>(if c=true then wE Φ b σ M1 Q else Q (.bl false) M1)
 |.or a b,σ,M,Q=>wE Φ a σ M λx M1=>onB x λc=>(if c=true then Q (.bl true) M1 else wE Φ b σ M1 Q)
 |.ife c a b,σ,M,Q=>wE Φ c σ M λx M1=>onB x λk=>(if k=true then wE Φ a σ M1 Q else wE Φ b σ M1 Q)
 |.tup es,σ,M,Q=>wEs Φ es σ M λvs M1=>vs.length<=sizeLine/\Q (.tup vs) M1
 |.lst es,σ,M,Q=>wEs Φ es σ M λvs M1=>vs.length<=sizeLine/\∀p,M1 p=none->Q (.ref p) (updM M1 p (.lst vs))
 |.dic,_,M,Q=>∀p,M p=none->Q (.ref p) (updM M p (.dic []))
 |.ix a b,σ,M,Q=>wE Φ a σ M λx M1=>wE Φ b σ M1 λy M2=>wIx x y M2 Q
 |.sl a lo hi,σ,M,Q=>wE Φ a σ M λx M1=>wO Φ lo σ M1 λl M2=>wO Φ hi σ M2 λh g=>wSl x l h g Q
 |.call j e es,σ,M,Q=>wE Φ e σ M λv M1=>wEs Φ es σ M1 λvs M2=>onF Φ[j]? λsp=>sp (v::vs) M2 Q
 |.bi f e es,σ,M,Q=>wE Φ e σ M λv M1=>wEs Φ es σ M1 λvs M2=>wBi f (v::vs) M2 Q
 |.b2 f e,σ,M,Q=>wE Φ e σ M λv M1=>wB2 f v M1 Q
 |.mxd e,σ,M,Q=>wE Φ e σ M λv M1=>wMxd v M1 Q
 |.st3 e,σ,M,Q=>wE Φ e σ M λv M1=>wSt3 v M1 Q
 |.gin _ kvs e,σ,M,Q=>wE Φ e σ M λv M1=>∃z,v=.str z/\Q (.bl (kvs.lookup z).isSome) M1
 |.gix _ kvs e,σ,M,Q=>wE Φ e σ M λv M1=>∃z n,v=.str z/\kvs.lookup z=some n/\Q (.int n) M1
 |.mt m o es,σ,M,Q=>wE Φ o σ M λx M1=>mtOk m x M1/\wEs Φ es σ M1 λvs M2=>wMts m x vs M2 Q
 |.comp own fr src tg test elt,σ,M,Q=>wSr Φ src σ M λS M1=>S.len<sizeLine/\∀D,M1 D=none->∃J:Nat->List MV->MH->Prop,J 0 [] (updM M1 D (.lst []))/\
   (∀i ys M2,J i ys M2->M2 D=some (.lst ys)/\ys.length<=i/\S.ok M2)/\
   (∀i x ys M2,S.items[i]?=some x->J i ys M2->wTg tg x (sCm own fr σ) λd=>wI Φ test d M2 λb q=>
    if b=true then wE Φ elt d q λy L=>L D=some (.lst ys)/\J (i+1) (ys++[y]) (updM L D (.lst (ys++[y])))else J (i+1) ys q)/\
   ∀ys M2,J S.len ys M2->Q (.ref D) (S.thaw M2)
 |.fld c o f,σ,M,Q=>wE Φ o σ M λx M1=>∃a fs v,x=.ref a/\M1 a=some (.ins c fs)/\valM fs f=some v/\Q v M1
 |.mcall j c m o es,σ,M,Q=>wE Φ o σ M λx M1=>∃a fs,x=.ref a/\M1 a=some (.ins c fs)/\valM fs m=none/\wEs Φ es σ M1 λvs M2=>∃f sp,Φ[j]?=some (f,sp)/\sp (.ref a::vs) M2 Q
 |.make j c e es,σ,M,Q=>wE Φ e σ M λv M1=>wEs Φ es σ M1 λvs M2=>∃f sp,Φ[j]?=some (f,sp)/\∀p,M2 p=none->sp (.ref p::v::vs) (updM M2 p (.ins c [])) λu g=>u=.non/\Q (.ref p) g
 |.disp ps,σ,M,Q=>∀p,M p=none->wPs Φ ps σ (updM M p (.dic [])) λl M2=>M2 p=some (.dic [])/\l.length<=15/\Q (.ref p) (updM M2 p (.dic (Z8R l)))
def wPs(Φ:List (Str×SpM)):IPs->Sm->MH->(List (Key×MV)->MH->Prop)->Prop
 |.nil,_,M,Q=>Q [] M
 |.cons k v r,σ,M,Q=>wE Φ k σ M λx M1=>∃N,keyM x=some N/\wE Φ v σ M1 λy M2=>wPs Φ r σ M2 λl g=>Q ((N,y)::l) g
def wEs(Φ:List (Str×SpM)):IEs->TAm
 |.nil,_,M,Q=>Q [] M
 |.cons e es,σ,M,Q=>wE Φ e σ M λv M1=>wEs Φ es σ M1 λvs M2=>Q (v::vs) M2
def wO(Φ:List (Str×SpM)):IO->Sm->MH->(Option Int->MH->Prop)->Prop
 |.none,_,M,Q=>Q none M
 |.some e,σ,M,Q=>wE Φ e σ M λv M1=>∃i,v=.int i/\Q (some i) M1
def wI(Φ:List (Str×SpM)):IO->Sm->MH->(Bool->MH->Prop)->Prop
 |.none,_,M,Q=>Q true M
 |.some e,σ,M,Q=>wE Φ e σ M λv M1=>∃b,v=.bl b/\Q b M1
def wSr(Φ:List (Str×SpM)):ISr->TSm
 |.seq e,σ,M,Q=>wE Φ e σ M λv M1=>(∃xs,(v=.tup xs\/v=.frl xs)/\Q (.tup xs) M1)\/(∃a xs,v=.ref a/\M1 a=some (.lst xs)/\Q (.lst a xs) M1)\/False\/∃z,v=.str z/\Q (.str z) M1
 |.rng e,σ,M,Q=>wE Φ e σ M λv M1=>∃j,v=.int j/\ -(2^62)<=j/\j<2^62/\Q (.rng 0 j.toNat) M1
 |.rev e,σ,M,Q=>wE Φ e σ M λv M1=>∃a xs,v=.ref a/\M1 a=some (.lst xs)/\Q (.rev a xs) M1
end
section
variable{Φ:List (Str×SpM)}{σ:Sm}{M:MH}{Q:QM}
theorem _kx{i:Nat}:wE Φ (.var i) σ M Q=∃v,σ[i]?=some (some v)/\Q v M:=_lK
theorem _iK{a:IE}:wE Φ (.not a) σ M Q=wE Φ a σ M λx M1=>∃b,x=.bl b/\Q (.bl (!b)) M1:=congrArg (wE Φ a σ M) (funext λ_=>funext λ_=>_ao)
theorem _kz:wE Φ (.chn op op' a b c) σ M Q=wE Φ a σ M λx M1=>wE Φ b σ M1 λy M2=>wCmp op x y M2 λz j=>∃k,z=.bl k/\(if k=true then wE Φ c σ j λw l=>wCmp op' y w l Q else Q (.bl false) j):=congrArg (wE Φ a σ M) (funext λ_=>funext λ_=>congrArg (wE Φ b σ _) (funext λ_=>funext λ_=>congrArg (wCmp op _ _ _) (funext λ_=>funext λ_=>_ao)))
theorem _iL{a b:IE}:wE Φ (.and a b) σ M Q=wE Φ a σ M λx M1=>∃c,x=.bl c/\(if c=true then wE Φ b σ M1 Q else Q (.bl false) M1):=congrArg (wE Φ a σ M) (funext λ_=>funext λ_=>_ao)
theorem x_or{a b:IE}:wE Φ (.or a b) σ M Q=wE Φ a σ M λx M1=>∃c,x=.bl c/\(if c=true then Q (.bl true) M1 else wE Φ b σ M1 Q):=congrArg (wE Φ a σ M) (funext λ_=>funext λ_=>_ao)
theorem _mu{a b c:IE}:wE Φ (.ife c a b) σ M Q=wE Φ c σ M λx M1=>∃k,x=.bl k/\(if k=true then wE Φ a σ M1 Q else wE Φ b σ M1 Q):=congrArg (wE Φ c σ M) (funext λ_=>funext λ_=>_ao)
theorem _hX{j:Nat}{e:IE}{l:IEs}:wE Φ (.call j e l) σ M Q=wE Φ e σ M λv M1=>wEs Φ l σ M1 λw M2=>∃f u,Φ[j]?=some (f,u)/\u (v::w) M2 Q:=congrArg (wE Φ e σ M) (funext λ_=>funext λ_=>congrArg (wEs Φ l σ _) (funext λ_=>funext λ_=>_lL))
end
mutual
theorem _90:∀(t:ITg){v:MV} {j:Sm} {Q l:Sm->Prop},(∀j,Q j->l j)->wTg t v j Q->wTg t v j l
 |.nm i,v,j,Q,l,hq,h=>by exact hq _ h
 |.tup ts,v,j,Q,l,hq,h=>by
  obtain⟨xs,e,h⟩:=h
  exact⟨xs,e,mon_tgs ts hq h⟩
theorem mon_tgs:∀(t:ITgs){v:List MV} {j:Sm} {Q l:Sm->Prop},(∀j,Q j->l j)->wTgs t v j Q->wTgs t v j l
 |.nil,v,j,Q,l,hq,h=>by exact⟨h.1,hq _ h.2⟩
 |.cons t ts,v,j,Q,l,hq,h=>by
  obtain⟨x,r,e,h⟩:=h
  exact⟨x,r,e,_90 t (λu h'=>mon_tgs ts hq h') h⟩
end
theorem _1x{c:Prop} [Decidable c] {A B j l:Prop}(u:A->j)(w:B->l)(h:if c then A else B):if c then j else l:=by
 split at h
 .rw[if_pos (by assumption)];exact u h
 .rw[if_neg (by assumption)];exact w h
mutual
theorem _07{Φ:List (Str×SpM)}(u:∀(j:Nat)f sp,Φ[j]?=some (f,sp)->MonW sp):∀e:IE,MonE (wE Φ e)
 |.var i,g,M,Q,d,hq,h=>by rw[_kx]at h ⊢;obtain⟨v,e,h⟩:=h;exact⟨v,e,hq _ _ h⟩
 |.int _,g,M,Q,d,hq,h=>by exact hq _ _ h
 |.str _,g,M,Q,d,hq,h=>by exact hq _ _ h
 |.bl _,g,M,Q,d,hq,h=>by exact hq _ _ h
 |.non,g,M,Q,d,hq,h=>by exact hq _ _ h
 |.glb _ _,g,M,Q,d,hq,h=>by exact hq _ _ h
 |.ty _,g,M,Q,d,hq,h=>by exact hq _ _ h
 |.bin op a b,g,M,Q,d,hq,h=>by
  exact _07 u a (λx M1 h1=>_07 u b (λy M2 h2=>_fS op hq h2) h1) h
 |.neg a,g,M,Q,d,hq,h=>by
  exact _07 u a (λx M1 ⟨i,e,h1⟩=>⟨i,e,hq _ _ h1⟩) h
 |.not a,g,M,Q,d,hq,h=>by
  rw[_iK]at h ⊢
  exact _07 u a (λx M1 ⟨i,e,h1⟩=>⟨i,e,hq _ _ h1⟩) h
 |.cmp op a b,g,M,Q,d,hq,h=>by
  exact _07 u a (λx M1 h1=>_07 u b (λy M2 h2=>_79 op hq h2) h1) h
 |.chn op op' a b c,g,M,Q,d,hq,h=>by
  rw[_kz]at h ⊢
  exact _07 u a (λx M1 h1=>_07 u b (λy M2 h2=>_79 op (λz O ⟨k,e,h3⟩=>⟨k,e,_1x (_07 u c λw C h4=>_79 op' hq h4) (hq _ _) h3⟩) h2) h1) h
 |.and a b,g,M,Q,d,hq,h=>by
  rw[_iL]at h ⊢
  exact _07 u a (λx M1 ⟨c,e,h1⟩=>⟨c,e,_1x (_07 u b hq) (hq _ _) h1⟩) h
 |.or a b,g,M,Q,d,hq,h=>by
  rw[x_or]at h ⊢
  exact _07 u a (λx M1 ⟨c,e,h1⟩=>⟨c,e,_1x (hq _ _) (_07 u b hq) h1⟩) h
 |.ife c a b,g,M,Q,d,hq,h=>by
  rw[_mu]at h ⊢
  exact _07 u c (λx M1 ⟨k,e,h1⟩=>⟨k,e,_1x (_07 u a hq) (_07 u b hq) h1⟩) h
 |.tup es,g,M,Q,d,hq,h=>by
  exact mon_es u es (λvs M1 ⟨e,h1⟩=>⟨e,hq _ _ h1⟩) h
 |.lst es,g,M,Q,d,hq,h=>by
  exact mon_es u es (λvs M1 ⟨e,h1⟩=>⟨e,λp L=>hq _ _ (h1 p L)⟩) h
 |.dic,g,M,Q,d,hq,h=>by
  exact λp L=>hq _ _ (h p L)
 |.ix a b,g,M,Q,d,hq,h=>by
  exact _07 u a (λx M1 h1=>_07 u b (λy M2 h2=>_ij hq h2) h1) h
 |.sl a lo hi,g,M,Q,d,hq,h=>by
  exact _07 u a (λx M1 h1=>mon_o u lo (λy M2 h2=>mon_o u hi (λz O h3=>_ii hq h3) h2) h1) h
 |.call j e es,g,M,Q,d,hq,h=>by
  rw[_hX]at h ⊢
  exact _07 u e (λx M1 h1=>mon_es u es (λy M2 ⟨f,sp,e,h2⟩=>⟨f,sp,e,u _ _ _ e hq h2⟩) h1) h
 |.bi f e es,g,M,Q,d,hq,h=>by
  exact _07 u e (λx M1 h1=>mon_es u es (λy M2 h2=>_im f hq h2) h1) h
 |.b2 f e,g,M,Q,d,hq,h=>by
  exact _07 u e (λx M1 h1=>_in f hq h1) h
 |.mxd e,g,M,Q,d,hq,h=>by
  exact _07 u e (λx M1 h1=>_jD hq h1) h
 |.st3 e,g,M,Q,d,hq,h=>by
  exact _07 u e (λx M1 h1=>_jB hq h1) h
 |.gin _ _ e,g,M,Q,d,hq,h=>by
  exact _07 u e (λx M1 ⟨z,e,h1⟩=>⟨z,e,hq _ _ h1⟩) h
 |.gix _ _ e,g,M,Q,d,hq,h=>by
  exact _07 u e (λx M1 ⟨z,n,e,q,h1⟩=>⟨z,n,e,q,hq _ _ h1⟩) h
 |.mt m o es,g,M,Q,d,hq,h=>by
  exact _07 u o (λx M1 ⟨P,h1⟩=>⟨P,mon_es u es (λy M2 h2=>_fR hq h2) h1⟩) h
 |.comp own fr src tg test elt,g,M,Q,d,hq,h=>by
  exact mon_sr u src (λS M1 ⟨R,h1⟩=>⟨R,λD T=>by
   obtain⟨J,U,W,Y,Z⟩:=h1 D T
   exact⟨J,U,W,Y,λys M2 A=>hq _ _ (Z ys M2 A)⟩⟩) h
 |.fld c o f,g,M,Q,d,hq,h=>by
  exact _07 u o (λx M1 ⟨a,fs,v,e,q,N,h1⟩=>⟨a,fs,v,e,q,N,hq _ _ h1⟩) h
 |.mcall j c m o es,g,M,Q,d,hq,h=>by
  exact _07 u o (λx M1 ⟨a,fs,e,q,N,h1⟩=>⟨a,fs,e,q,N,mon_es u es (λy M2 ⟨f,sp,e,h2⟩=>⟨f,sp,e,u _ _ _ e hq h2⟩) h1⟩) h
 |.make j c e es,g,M,Q,d,hq,h=>by
  exact _07 u e (λx M1 h1=>mon_es u es (λy M2 ⟨f,sp,e,h2⟩=>⟨f,sp,e,λp L=>u _ _ _ e (λm M' z=>⟨z.1,hq _ _ z.2⟩) (h2 p L)⟩) h1) h
 |.disp ps,g,M,Q,d,hq,h=>by
  exact λp L=>mon_ps u ps (λl M2 ⟨e,q,h1⟩=>⟨e,q,hq _ _ h1⟩) (h p L)
theorem mon_ps(u:∀(j:Nat)f sp,Φ[j]?=some (f,sp)->MonW sp):∀(e:IPs){g M} {Q d:List (Key×MV)->MH->Prop},(∀m M',Q m M'->d m M')->wPs Φ e g M Q->wPs Φ e g M d
 |.nil,g,M,Q,d,hq,h=>by exact hq _ _ h
 |.cons k v r,g,M,Q,d,hq,h=>by
  exact _07 u k (λx M1 ⟨B,e,h1⟩=>⟨B,e,_07 u v (λy M2 h2=>mon_ps u r (λl O h3=>hq _ _ h3) h2) h1⟩) h
theorem mon_es{Φ:List (Str×SpM)}(u:∀(j:Nat)f sp,Φ[j]?=some (f,sp)->MonW sp):∀e:IEs,MonA (wEs Φ e)
 |.nil,g,M,Q,d,hq,h=>by exact hq _ _ h
 |.cons e es,g,M,Q,d,hq,h=>by
  exact _07 u e (λx M1 h1=>mon_es u es (λy M2 h2=>hq _ _ h2) h1) h
theorem mon_o{Φ:List (Str×SpM)}(u:∀(j:Nat)f sp,Φ[j]?=some (f,sp)->MonW sp):∀(e:IO){g M} {Q d:Option Int->MH->Prop},(∀m M',Q m M'->d m M')->wO Φ e g M Q->wO Φ e g M d
 |.none,g,M,Q,d,hq,h=>by exact hq _ _ h
 |.some e,g,M,Q,d,hq,h=>by
  exact _07 u e (λx M1 ⟨i,e,h1⟩=>⟨i,e,hq _ _ h1⟩) h
theorem mon_i(u:∀(j:Nat)f sp,Φ[j]?=some (f,sp)->MonW sp):∀(e:IO){g M} {Q d:Bool->MH->Prop},(∀m M',Q m M'->d m M')->wI Φ e g M Q->wI Φ e g M d
 |.none,g,M,Q,d,hq,h=>by exact hq _ _ h
 |.some e,g,M,Q,d,hq,h=>by
  exact _07 u e (λx M1 ⟨i,e,h1⟩=>⟨i,e,hq _ _ h1⟩) h
theorem mon_sr{Φ:List (Str×SpM)}(u:∀(j:Nat)f sp,Φ[j]?=some (f,sp)->MonW sp):∀(e:ISr){g M} {Q d:Src->MH->Prop},(∀m M',Q m M'->d m M')->wSr Φ e g M Q->wSr Φ e g M d
 |.seq e,g,M,Q,d,hq,h=>by
  exact _07 u e (λx M1 h1=>by
   rcases h1 with⟨xs,e,h1⟩|⟨a,xs,e,q,h1⟩|h1|⟨z,e,h1⟩
   .exact .inl ⟨xs,e,hq _ _ h1⟩
   .exact .inr (.inl ⟨a,xs,e,q,hq _ _ h1⟩)
   .exact h1.elim
   .exact .inr (.inr (.inr ⟨z,e,hq _ _ h1⟩))) h
 |.rng e,g,M,Q,d,hq,h=>by
  exact _07 u e (λx M1 ⟨j,e,a,b,h1⟩=>⟨j,e,a,b,hq _ _ h1⟩) h
 |.rev e,g,M,Q,d,hq,h=>by
  exact _07 u e (λx M1 ⟨a,xs,e,q,h1⟩=>⟨a,xs,e,q,hq _ _ h1⟩) h
end
end L2
namespace L2
open PySem PySem.Spec PyProof.Rows
structure GI where
 bl:List Str
 gl:List (Str×Int)
 fns:List Str
 mts:List (Nat×Str×Str):=[]
 mks:List (Nat×Str):=[]
 cls:List (Str×Str):=[]
 gds:List (Str×List (Str×Int)):=[]
noncomputable def visB(j:Scope)(x:Str):Bool:=match j.names.lookup x with
 |some .local=>true|some .cell=>true|some .free=>true|_=>false
noncomputable def locB(j:Scope)(x:Str):Bool:=match j.names.lookup x with
 |some .local=>true|some .cell=>true|_=>false
noncomputable def glB(j:Scope)(x:Str):Bool:=decide (j.names.lookup x=some .globalImplicit)&& !(x==("__debug__":Str))&&decide (x≠"__name__")
noncomputable def Zet(j l:Scope):Scope:={j with names:=j.names.map fun(n,k)=>if(k==.free&&l.kind==.function&&l.names.lookup n==some .cell)then(n,.cell)else(n,k)}
noncomputable def BI.name:BI->String
 |.len=>"len"|.isinst=>"isinstance"|.max=>"max"|.min=>"min"|.sum=>"sum"|.abs=>"abs"|.int=>"int"|.list=>"list"|.tuple=>"tuple"|.dict=>"dict"|.sorted=>"sorted"|.dictL=>"dict"|.all=>"all"|.str=>"str"
noncomputable def MT.name:MT->String
 |.join=>"join"|.split=>"split"|.starts=>"startswith"
 |.append=>"append"|.extend=>"extend"|.pop=>"pop"
noncomputable def ZfM:Expr->Bool
 |.Slice ..=>false|_=>true
noncomputable def Zc9:Expr->Bool
 |.Set ..=>false|_=>true
noncomputable def tok:IE->Bool
 |.ife ..=>false
 |.not a=>tok a
 |.and a b=>tok a&&tok b
 |.or a b=>tok a&&tok b
 |_=>true
noncomputable def Z2f:Expr->Option Str|.Name x _=>some x|_=>none
noncomputable def Z6g:Expr->Option Const|.Constant c _ _=>some c|_=>none
noncomputable def ZhT:Expr->Option (Expr×Operator×Expr)|.BinOp l o r _=>some (l,o,r)|_=>none
noncomputable def asUn:Expr->Option (UnaryOp×Expr)|.UnaryOp o x _=>some (o,x)|_=>none
noncomputable def ZeX:Expr->Option (Expr×List CmpOp×List Expr)|.Compare l o r _=>some (l,o,r)|_=>none
noncomputable def ZgP:Expr->Option (BoolOp×List Expr×Pos)|.BoolOp o vs p=>some (o,vs,p)|_=>none
noncomputable def asIf:Expr->Option (Expr×Expr×Expr)|.IfExp t x y _=>some (t,x,y)|_=>none
noncomputable def ZeV:Expr->Option (List Expr)|.Tuple xs _ _=>some xs|_=>none
noncomputable def ZhP:Expr->Option (List Expr)|.List xs _=>some xs|_=>none
noncomputable def Zkr:Expr->Option (List (Option Expr)×List Expr)|.Dict ks vs _=>some (ks,vs)|_=>none
noncomputable def ZeW:Expr->Option (Expr×Expr)|.Subscript x y _=>some (x,y)|_=>none
noncomputable def asSl:Expr->Option (Option Expr×Option Expr×Option Expr)|.Slice l u s _=>some (l,u,s)|_=>none
noncomputable def Z5P:Expr->Option (Expr×List Expr×List Keyword×Pos)|.Call f xs ks p=>some (f,xs,ks,p)|_=>none
noncomputable def ZhU:Expr->Option (Expr×Str×Pos)|.Attribute o n p=>some (o,n,p)|_=>none
noncomputable def asLC:Expr->Option (Expr×List Comprehension×Scope)|.ListComp e gs sc _=>some (e,gs,sc)|_=>none
noncomputable def the1{j:Type}:List j->Option j|[x]=>some x|_=>none
noncomputable def the2{j:Type}:List j->Option (j×j)|[x,y]=>some (x,y)|_=>none
noncomputable def hd1{j:Type}:List j->Option (j×List j)|x::r=>some (x,r)|_=>none
noncomputable def hd2{j:Type}:List j->Option (j×j×List j)|x::y::r=>some (x,y,r)|_=>none
noncomputable def non0{j:Type}:List j->Bool|[]=>true|_=>false
theorem nos{j:Type}{x:j}{C:Prop}(h:none=some x):C:=nomatch h
theorem nob{C:Prop}(h:false=true):C:=nomatch h
theorem _05{j:Type}{o:Option j}{p:j->Bool}(h:o.any p=true):∃x,o=some x/\p x=true:=by
 cases o with
 |none=>cases h
 |some x=>exact⟨x,rfl,h⟩
section
variable{e:Expr}
theorem _0G{x:Str}(h:Z2f e=some x):∃p,e=.Name x p:=by revert h;cases e<;>first|exact nos|(intro h;cases h;exact⟨_,rfl⟩)
theorem _3B{x:Const}(h:Z6g e=some x):∃k p,e=.Constant x k p:=by revert h;cases e<;>first|exact nos|(intro h;cases h;exact⟨_,_,rfl⟩)
theorem _ej{x:Expr×Operator×Expr}(h:ZhT e=some x):∃p,e=.BinOp x.1 x.2.1 x.2.2 p:=by revert h;cases e<;>first|exact nos|(intro h;cases h;exact⟨_,rfl⟩)
theorem _dK{x:UnaryOp×Expr}(h:asUn e=some x):∃p,e=.UnaryOp x.1 x.2 p:=by revert h;cases e<;>first|exact nos|(intro h;cases h;exact⟨_,rfl⟩)
theorem _8J{x:Expr×List CmpOp×List Expr}(h:ZeX e=some x):∃p,e=.Compare x.1 x.2.1 x.2.2 p:=by revert h;cases e<;>first|exact nos|(intro h;cases h;exact⟨_,rfl⟩)
theorem _by{x:BoolOp×List Expr×Pos}(h:ZgP e=some x):e=.BoolOp x.1 x.2.1 x.2.2:=by revert h;cases e<;>first|exact nos|(intro h;cases h;rfl)
theorem _kp{x:Expr×Expr×Expr}(h:asIf e=some x):∃p,e=.IfExp x.1 x.2.1 x.2.2 p:=by revert h;cases e<;>first|exact nos|(intro h;cases h;exact⟨_,rfl⟩)
theorem _8H{x:List Expr}(h:ZeV e=some x):∃k p,e=.Tuple x k p:=by revert h;cases e<;>first|exact nos|(intro h;cases h;exact⟨_,_,rfl⟩)
theorem _ei{x:List Expr}(h:ZhP e=some x):∃p,e=.List x p:=by revert h;cases e<;>first|exact nos|(intro h;cases h;exact⟨_,rfl⟩)
theorem _hS{x:List (Option Expr)×List Expr}(h:Zkr e=some x):∃p,e=.Dict x.1 x.2 p:=by revert h;cases e<;>first|exact nos|(intro h;cases h;exact⟨_,rfl⟩)
theorem _8I{x:Expr×Expr}(h:ZeW e=some x):∃p,e=.Subscript x.1 x.2 p:=by revert h;cases e<;>first|exact nos|(intro h;cases h;exact⟨_,rfl⟩)
theorem _ko{x:Option Expr×Option Expr×Option Expr}(h:asSl e=some x):∃p,e=.Slice x.1 x.2.1 x.2.2 p:=by revert h;cases e<;>first|exact nos|(intro h;cases h;exact⟨_,rfl⟩)
theorem _21{x:Expr×List Expr×List Keyword×Pos}(h:Z5P e=some x):e=.Call x.1 x.2.1 x.2.2.1 x.2.2.2:=by revert h;cases e<;>first|exact nos|(intro h;cases h;rfl)
theorem _ek{x:Expr×Str×Pos}(h:ZhU e=some x):e=.Attribute x.1 x.2.1 x.2.2:=by revert h;cases e<;>first|exact nos|(intro h;cases h;rfl)
theorem _gO{x:Expr×List Comprehension×Scope}(h:asLC e=some x):∃p,e=.ListComp x.1 x.2.1 x.2.2 p:=by revert h;cases e<;>first|exact nos|(intro h;cases h;exact⟨_,rfl⟩)
theorem _22{j:Type}{l:List j}{x:j}(h:the1 l=some x):l=[x]:=by
 match l,h with
 |[_],h=>cases h;rfl
theorem _f9{j:Type}{l:List j}{x:j×j}(h:the2 l=some x):l=[x.1,x.2]:=by
 match l,h with
 |[_,_],h=>cases h;rfl
theorem _8e{j:Type}{l:List j}{x:j×List j}(h:hd1 l=some x):l=x.1::x.2:=by
 match l,h with
 |_::_,h=>cases h;rfl
theorem _ix{j:Type}{l:List j}{x:j×j×List j}(h:hd2 l=some x):l=x.1::x.2.1::x.2.2:=by
 match l,h with
 |_::_::_,h=>cases h;rfl
theorem _10{j:Type}{l:List j}(h:non0 l=true):l=[]:=by
 match l,h with
 |[],_=>rfl
end
def Z1S(e:Expr):Bool:=(Z2f e).isSome||(Z6g e).isSome||(ZhT e).isSome||(asUn e).isSome||(ZeX e).isSome||(ZgP e).isSome||(asIf e).isSome||(ZeV e).isSome||(ZhP e).isSome||(Zkr e).isSome||(ZeW e).isSome||(Z5P e).isSome||(asLC e).isSome||(ZhU e).isSome
mutual
def Z8C(j:Scope)(N:List Str)(lim:Nat)(all:Bool):ITg->Expr->Bool
 |.nm i,e=>(Z2f e).any λx=>decide (N[i]?=some x)&&decide (i<lim)&&(if all then locB j x else decide (j.names.lookup x=some .local))
 |.tup ts,e=>(ZeV e).any λes=>chkTgs j N lim all ts es
def chkTgs(j:Scope)(N:List Str)(lim:Nat)(all:Bool):ITgs->List Expr->Bool
 |.nil,l=>non0 l
 |.cons t ts,l=>(hd1 l).any λq=>Z8C j N lim all t q.1&&chkTgs j N lim all ts q.2
end
mutual
def chkE(G:GI):IE->Scope->List Str->Expr->Bool
 |.var i,sc,N,e=>(Z2f e).any fun x=>decide (N[i]?=some x)&&visB sc x&& !(x==("__debug__":Str))&& !(x==("__classdict__":Str))
 |.int i,_,_,e=>(Z6g e).any λc=>decide (c=.int i)
 |.str x,_,_,e=>(Z6g e).any λc=>decide (c=.str x)
 |.bl b,_,_,e=>(Z6g e).any λc=>decide (c=.bool b)
 |.non,_,_,e=>(Z6g e).any λc=>decide (c=.none)
 |.glb x i,sc,_,e=>(Z2f e).any λy=>decide (x=y)&&decide (G.gl.lookup x=some i)&&glB sc x
 |.ty c,sc,_,e=>(Z2f e).any λy=>decide (y=(c.name:Str))&&decide (c≠.none)&&G.bl.contains y&&glB sc y
 |.bin op a b,sc,N,e=>(ZhT e).any λq=>decide (op=q.2.1)&&chkE G a sc N q.1&&chkE G b sc N q.2.2
 |.neg a,sc,N,e=>(asUn e).any λq=>decide (q.1=.USub)&&chkE G a sc N q.2
 |.not a,sc,N,e=>(asUn e).any λq=>decide (q.1=.Not)&&chkE G a sc N q.2
 |.cmp op a b,sc,N,e=>(ZeX e).any λq=>(the1 q.2.1).any λo=>(the1 q.2.2).any λr=>decide (op=o)&&chkE G a sc N q.1&&chkE G b sc N r&& !behindInMarks op r
 |.chn op op' a b c,sc,N,e=>(ZeX e).any λq=>(the2 q.2.1).any λo=>(the2 q.2.2).any λr=>decide (op=o.1)&&decide (op'=o.2)&&chkE G a sc N q.1&&chkE G b sc N r.1&&chkE G c sc N r.2&& !lastMarks [op,op'] [r.1,r.2]
 |.and a b,sc,N,e=>(ZgP e).any λq=>(hd2 q.2.1).any λv=>decide (q.1=.And)&&chkE G a sc N v.1&&chkE G b sc N (if non0 v.2.2 then v.2.1 else .BoolOp .And (v.2.1::v.2.2) q.2.2)
 |.or a b,sc,N,e=>(ZgP e).any λq=>(hd2 q.2.1).any λv=>decide (q.1=.Or)&&chkE G a sc N v.1&&chkE G b sc N (if non0 v.2.2 then v.2.1 else .BoolOp .Or (v.2.1::v.2.2) q.2.2)
 |.ife c a b,_,_,_=>false
 |.tup es,sc,N,e=>(ZeV e).any λxs=>chkEs G es sc N xs
 |.lst es,sc,N,e=>(ZhP e).any λxs=>chkEs G es sc N xs
 |.dic,_,_,_=>false
 |.ix a b,sc,N,e=>(ZeW e).any λq=>chkE G a sc N q.1&&chkE G b sc N q.2&&ZfM q.2
 |.sl a lo hi,sc,N,e=>(ZeW e).any λq=>(asSl q.2).any λs=>chkE G a sc N q.1&&chkO G lo sc N s.1&&chkO G hi sc N s.2.1&& !s.2.2.isSome
 |.call j f es,sc,N,e=>(Z5P e).any λq=>(Z2f q.1).any λg=>(hd1 q.2.1).any λx=>non0 q.2.2.1&&decide (G.fns[j]?=some g)&&glB sc g&&chkE G f sc N x.1&&chkEs G es sc N x.2
 |.bi f a es,sc,N,e=>(Z5P e).any λq=>(Z2f q.1).any λg=>(hd1 q.2.1).any λx=>non0 q.2.2.1&&decide (g=(f.name:Str))&&G.bl.contains g&&glB sc g&&chkE G a sc N x.1&&chkEs G es sc N x.2
 |.b2 f a,sc,N,e=>(Z5P e).any λq=>(Z2f q.1).any λg=>(the1 q.2.1).any λy=>(Z5P y).any λr=>(Z2f r.1).any λk=>(the1 r.2.1).any λx=>non0 q.2.2.1&&non0 r.2.2.1&&decide (g=(f.out:Str))&&decide (k=(f.inn:Str))&&G.bl.contains g&&G.bl.contains k&&glB sc g&&glB sc k&&chkE G a sc N x
 |.st3 a,_,_,_=>false
 |.mxd a,_,_,_=>false
 |.mt m o es,sc,N,e=>(Z5P e).any λq=>(ZhU q.1).any λa=>non0 q.2.2.1&&decide (a.2.1=(m.name:Str))&&(a.2.2.endLine==q.2.2.2.line)&&chkE G o sc N a.1&&chkEs G es sc N q.2.1&&decide (q.2.1.length<20)
 |.comp own fr src tg test elt,sc,N,e=>(asLC e).any λq=>(the1 q.2.1).any λg=>ZaK sc q.2.2 N own fr&&Zc9 g.iter&&decide (nC own fr N).Nodup&&chkSr G src sc N g.iter&&Z8C (Zet q.2.2 sc) (nC own fr N) own.length false tg g.target&&
   chkI G test (Zet q.2.2 sc) (nC own fr N) g.ifs&&chkE G elt (Zet q.2.2 sc) (nC own fr N) q.1&&decide (g.is_async=0)
 |.fld c o f,_,_,_=>false
 |.mcall j c m o es,_,_,_=>false
 |.make j c a es,_,_,_=>false
 |.disp ps,_,_,_=>false
 |.gin x kvs a,sc,N,e=>(ZeX e).any λq=>(the1 q.2.1).any λo=>(the1 q.2.2).any λr=>(Z2f r).any λy=>decide (o=.In)&&decide (x=y)&&decide (G.gds.lookup x=some kvs)&&glB sc x&&chkE G a sc N q.1&& !behindInMarks .In r
 |.gix x kvs a,sc,N,e=>(ZeW e).any λq=>(Z2f q.1).any λy=>decide (x=y)&&decide (G.gds.lookup x=some kvs)&&glB sc x&&chkE G a sc N q.2&&ZfM q.2
def ZgE(G:GI):IPs->Scope->List Str->List (Option Expr)->List Expr->Bool
 |.nil,_,_,l,r=>non0 l&&non0 r
 |.cons k v ps,sc,N,l,r=>(hd1 l).any λq=>(hd1 r).any λs=>q.1.any λx=>chkE G k sc N x&&chkE G v sc N s.1&&ZgE G ps sc N q.2 s.2
def chkEs(G:GI):IEs->Scope->List Str->List Expr->Bool
 |.nil,_,_,l=>non0 l
 |.cons e es,sc,N,l=>(hd1 l).any λq=>chkE G e sc N q.1&&chkEs G es sc N q.2
def chkO(G:GI):IO->Scope->List Str->Option Expr->Bool
 |.none,_,_,o=>!o.isSome
 |.some e,sc,N,o=>o.any λx=>chkE G e sc N x
def chkI(G:GI):IO->Scope->List Str->List Expr->Bool
 |.none,_,_,l=>non0 l
 |.some e,sc,N,l=>(the1 l).any λx=>tok e&&chkE G e sc N x
def chkSr(G:GI):ISr->Scope->List Str->Expr->Bool
 |.seq a,sc,N,e=>chkE G a sc N e
 |.rng a,sc,N,e=>(Z5P e).any fun q=>(Z2f q.1).any fun f=>(the1 q.2.1).any fun x=>non0 q.2.2.1&&decide (f=("range":Str))&&G.bl.contains f&&glB sc f&&chkE G a sc N x
 |.rev a,sc,N,e=>(Z5P e).any fun q=>(Z2f q.1).any fun f=>(the1 q.2.1).any fun x=>non0 q.2.2.1&&decide (f=("reversed":Str))&&G.bl.contains f&&glB sc f&&chkE G a sc N x
end
def liSp(K:Y00)(l:SpM):Sp:=λu H Q _=>∃j M,RMs K H j u/\RH K M H/\l j M (Dn K H Q)
structure Cok (X:Cx)(G:GI)(Φ:List (Str×SpM)):Prop where
 room:X.A.units+70<cLine
 calm:X.calm=true
 nox:X.xe=λ_ _=>False
 blk:X.env.blockKind=.function
 nd:X.N.Nodup
 bls:∀x,G.bl.contains x=true->X.mg x=none
 gls:∀x i,G.gl.lookup x=some i->∃tk,X.mg x=some (.int i tk)
 gds:∀x kvs,G.gds.lookup x=some kvs->∃a,X.mg x=some (.ref a)/\GDict X.prog X.w X.K a kvs
 fnn:∀(j:Nat)f,G.fns[j]?=some f->∃sp,Φ[j]?=some (f,sp)
 mon:∀(j:Nat)f sp,Φ[j]?=some (f,sp)->MonW sp
 fns:∀(j:Nat)f sp,G.fns[j]?=some f->Φ[j]?=some (f,sp)->∃k fa fd ps,Room k X.A/\FnOk X.prog X.w X.K X.mg X.base CX0 k fa fd ps (liSp X.K sp)/\X.mg f=some (.ref fa)/\Y1j X.K (.ref fa)=true/\Binds X.K fd ps []
 mts:∀(j:Nat)c m,G.mts.contains (j,c,m)=true->∃f sp,Φ[j]?=some (f,sp)/\∃k C fa fd ps,Room k X.A/\FnOk X.prog X.w X.K X.mg X.base CX0 k fa fd ps (liSp X.K sp)/\Y0n X.K mainGlobals c=some (some (.ref C))/\Cls X.K C/\Meth X.K C m fa/\Binds X.K fd ps []
 mks:∀(j:Nat)c,G.mks.contains (j,c)=true->∃f sp,Φ[j]?=some (f,sp)/\∃k C fa fd ps,Room (k+1) X.A/\FnOk X.prog X.w X.K X.mg X.base CX0 k fa fd ps (liSp X.K sp)/\Y0n X.K mainGlobals c=some (some (.ref C))/\X.mg c=some (.ref C)/\Mk X.K C fa/\Binds X.K fd ps []
 cls:∀c f,G.cls.contains (c,f)=true->∃C,Y0n X.K mainGlobals c=some (some (.ref C))/\Cls X.K C/\ZgU X.K C f
section
variable{X:Cx}{G:GI}{Φ:List (Str×SpM)}
theorem _kE{j:Scope}{x:Str}(h:visB j x=true):Vis j x:=by
 unfold visB at h
 unfold Vis
 cases e:j.names.lookup x with
 |none=>rw[e]at h;cases h
 |some k=>rw[e]at h;cases k<;>first|exact .inl rfl|exact .inr (.inl rfl)|exact .inr (.inr rfl)|cases h
theorem _e2{j:Scope}{x:Str}(h:locB j x=true):Loc j x:=by
 unfold locB at h
 unfold Loc
 cases e:j.names.lookup x with
 |none=>rw[e]at h;cases h
 |some k=>rw[e]at h;cases k<;>first|exact .inl rfl|exact .inr rfl|cases h
theorem _a7{x:Str}(h:glB X.env.scope x=true):Gl X x/\(x==("__debug__":Str))=false/\x≠"__name__":=by
 unfold glB at h
 simp only[Y0r,decide_eq_true_eq,Bool.not_eq_true']at h
 exact⟨h.1.1,h.1.2,h.2⟩
theorem _km(f:BI):bootBuiltins (f.name:Str)=some f.val:=by cases f<;>(show bootBuiltins _=some _;decide+kernel)
theorem _kl{c:Ty7}(h:c≠.none):bootBuiltins (c.name:Str)=some (.type c.name):=by cases c<;>first|exact absurd rfl h|decide+kernel
theorem boot_range:bootBuiltins ("range":Str)=some (.type "range"):=by decide+kernel
theorem _eT:∀{l:IE} {m:Scope} {N:List Str} {e:Expr},chkE G l m N e=true->Z1S e=true:=by
 intro l m N e h
 have j:∀{d:Type} {o:Option d} {p:d->Bool},o.any p=true->(∀x,o=some x->Z1S e=true)->Z1S e=true:=λh g=>let⟨x,e,_⟩:=_05 h;g x e
 have c:∀x,Z2f e=some x->Z1S e=true:=λx h=>by obtain⟨p,rfl⟩:=_0G h;rfl
 have f:∀x,Z6g e=some x->Z1S e=true:=λx h=>by obtain⟨k,p,rfl⟩:=_3B h;rfl
 have q:∀x,ZhT e=some x->Z1S e=true:=λx h=>by obtain⟨p,rfl⟩:=_ej h;rfl
 have r:∀x,asUn e=some x->Z1S e=true:=λx h=>by obtain⟨p,rfl⟩:=_dK h;rfl
 have L:∀x,ZeX e=some x->Z1S e=true:=λx h=>by obtain⟨p,rfl⟩:=_8J h;rfl
 have O:∀x,ZgP e=some x->Z1S e=true:=λx h=>by obtain rfl:=_by h;rfl
 have P:∀x,asIf e=some x->Z1S e=true:=λx h=>by obtain⟨p,rfl⟩:=_kp h;rfl
 have R:∀x,ZeV e=some x->Z1S e=true:=λx h=>by obtain⟨k,p,rfl⟩:=_8H h;rfl
 have T:∀x,ZhP e=some x->Z1S e=true:=λx h=>by obtain⟨p,rfl⟩:=_ei h;rfl
 have U:∀x,Zkr e=some x->Z1S e=true:=λx h=>by obtain⟨p,rfl⟩:=_hS h;rfl
 have u:∀x,ZeW e=some x->Z1S e=true:=λx h=>by obtain⟨p,rfl⟩:=_8I h;rfl
 have w:∀x,Z5P e=some x->Z1S e=true:=λx h=>by obtain rfl:=_21 h;rfl
 have y:∀x,asLC e=some x->Z1S e=true:=λx h=>by obtain⟨p,rfl⟩:=_gO h;rfl
 have z:∀x,ZhU e=some x->Z1S e=true:=λx h=>by obtain rfl:=_ek h;rfl
 cases l<;>first|exact nob h|exact j h c|exact j h f|exact j h q|exact j h r|exact j h L|exact j h O|exact j h P|exact j h R|exact j h T|exact j h U|exact j h u|exact j h w|exact j h y|exact j h z
theorem _0Z:∀{u:IE} {w:Scope} {N:List Str} {e:Expr} {l:List Expr} {j:Env},chkE G u w N e=true->starEach (e::l) j=(false,eval e j)::starEach l j:=by
 intro u w N e l j h
 cases e<;>first|rfl|cases _eT h
theorem _55:∀{w:IEs} {y:Scope} {N:List Str} {u:List Expr} {j:Env} {l:Pos},chkEs G w y N u=true->(starEach u j).all (λx=>!x.1)=true
 |.nil,y,N,u,_,_,h=>by
  cases _10 h
  rfl
 |.cons e u,y,N,xs,j,l,h=>by
  replace h:=_05 h
  obtain⟨q,m,z⟩:=h
  cases _8e m
  rw[Y0r]at z
  rw[_0Z z.1,Y13]
  exact _55 (l:=l) z.2
theorem _ho:∀{j:IE} {l:Scope} {N:List Str} {x:Str} {u p:Pos} {w:List Keyword},chkE G j l N (.Call (.Name x u) [] w p)=true->False:=by
 intro j l N x u p w h
 revert h
 cases j<;>exact nob
set_option tactic.hygienic true in
theorem _cS{u:IE}{w:Scope}{N:List Str}{o:Expr}{nm:Str}{j:Env}(h:chkE G u w N o=true):attributeBase o nm j (eval o j)=eval o j:=by
 cases o<;>try rfl
 rename_i y l m z
 cases y<;>try rfl
 cases l with
 |cons a r=>rfl
 |nil=>exact(_ho h).elim
theorem _6W{j:Pos}{l:List (Bool×Sem Value)}(h:l.all (λx=>!x.1)=true):(backTo j l).all (λx=>!x.1)=true/\(backTo j l).any (·.1)=false:=by
 induction l with
 |nil=>exact⟨rfl,rfl⟩
 |cons a r y=>
  rw[Y13,Y0r]at h
  obtain⟨u,w⟩:=y h.2
  have e:a.1=false:=by simpa using h.1
  unfold backTo at u w ⊢
  rw[Y0a,Y13,Y1l,u,w]
  obtain⟨b,t⟩:=a
  cases e
  exact⟨rfl,rfl⟩
end
end L2
namespace L2
open PySem PySem.Spec PyProof.Rows
def tCW2(own:List Str)(z:List Nat)(g:TG)(L:TT)(O:TE)(d:St)(P:Hp)(Q:VK)(J:It)(D:Addr):Prop:=∃W:Nat->Nat->List V->Hp->Prop,
 (∃m,W 0 m [] (upd P D (.lst [])))/\∀i m c l,W i m c l->
  ((J.stop i l/\Q (.ref D) l)\/(J.go i l/\∃N:List V->Hp->Prop,(∀u f,N u f->∃q,q<m/\W (i+1) q u f)/\∀x r,J.yld i l x r->g x (sC own z d) r λj R=>Keep (sC own z d) j/\L j R λb p=>
   if b=true then O j p λy e=>∃w,e D=some (.lst w)/\w.length<sizeLine/\N (w++[y]) (upd e D (.lst (w++[y])))else N c p))
def Zfb(own:List Str)(u:List Nat)(w:TI)(g:TG)(y:TT)(z:TE):TE:=λj H Q=>w j H λJ l=>∀D,l D=none->tCW2 own u g y z j l Q J D
section
variable{X:Cx}{pz:List (Addr×Obj)}{σ:St}{H1:Hp}{s2:Shared}{tg elt iter:Expr}{ifs:List Expr}{scope:Scope}{pos:Pos}{own:List Str}{fr:List Nat}{g:TG}{tt:TT}{te:TE}
theorem _aJ{J:It}{j:List Addr}{it:Addr}{S:Nat->Heap->Prop}{RR:Value->Addr->Result->Shared->Prop}{Q:VK}{E:Value->Shared->Prop}(hc:X.calm=true)(ok:CompOk X.env.scope scope X.N fr)
  (hg:∀C j f L,PG (cxC X scope own fr C j f L) tg g)(ht:∀C j f L,PTs (cxC X scope own fr C j f L) ifs tt)(he:∀C j f L,PE (cxC X scope own fr C j f L) elt te)
  (I2:Inv X pz σ H1 s2)(T:Turn X.prog X.w X.K tg J j it S)(st:S 0 s2.heap)(Z:∀b∈j,FpOk X pz H1 b)
  (h:∀D,H1 D=none->tCW2 own fr g tt te σ H1 Q J D)
  (hRR:∀D C w s',Inv X pz σ w s'->(∃m,s'.heap.Ns C m)->w C=none->C≠X.env.locals->X.s₀.heap.objs.size<=C->(∀x c,X.env.cells.lookup x=some c->c≠C)->(∀p∈X.pn++pz,p.1≠C)->Q (.ref D) w->RR (.ref D) C (.ok .next) s'):
  wpAny (model X.prog X.w) X.A (newList []) (λacc f=>wpAny (model X.prog X.w) X.A (newFunctionEnv scope X.env.globals (clOf X.env.cells scope.names []) [] X.env.qual none .none (some X.env)) (λB R=>
   codeAny (model X.prog X.w) X.A (.compStart (.ListComp elt [⟨tg,iter,ifs,0⟩] scope pos) 0 (.ref it) acc {B with scope:=relabel scope X.env}) (RR acc B.locals) R) E f) E s2:=by
 have hD:H1 s2.heap.objs.size=none:=I2.hok.fresh (Y09 _)
 obtain⟨W,⟨m0,w0⟩,step⟩:=h _ hD
 refine wpAny_newObj_type (wpAny_newFunctionEnv ok.nocell (by intro y hy;simp at hy) (λh4 H s=>?_) ok.kind)
 dsimp only at H s ⊢
 have a:Inv X pz σ (upd H1 s2.heap.objs.size (.lst [])) {s2 with heap:=s2.heap.push {cls:=.type "list",dict:=none,data:=.seq ([]:List Value).toArray},toks:=s2.toks}:=
  I2.laid (λb u e=>Y03 _ e) (Y09 _) ⟨Y1e _,[],0,.nil,Y0d _ rfl⟩
 have fpo:∀b∈j,∃o,s2.heap.get? b=some o:=λb l=>let⟨o,e,_⟩:=T.obj 0 _ st b l;⟨o,e⟩
 have fpD:∀b∈j,b≠s2.heap.objs.size:=λb l=>let⟨o,e⟩:=fpo b l;Y0p (Y0g e)
 have hf3:∀b∈j,FpOk X pz (upd H1 s2.heap.objs.size (.lst [])) b:=λb l=>⟨by rw[_0B (fpD b l)];exact(Z b l).1,(Z b l).2⟩
 generalize hs3:({s2 with heap:=s2.heap.push {cls:=.type "list",dict:=none,data:=.seq ([]:List Value).toArray},toks:=s2.toks}:Shared)=s3 at*
 have e3:s2.heap.push {cls:=.type "list",dict:=none,data:=.seq ([]:List Value).toArray}=s3.heap:=by rw[<-hs3]
 rw[e3]at H s ⊢
 have kp:∀b o,s3.heap.get? b=some o->h4.get? b=some o:=λb o e=>(s.2 b (Y0p (Y0g e))).trans (Y03 _ e)
 have F:∀b∈j,∃o,s3.heap.get? b=some o:=λb l=>let⟨o,e⟩:=fpo b l;⟨o,by rw[<-e3];exact Y03 _ e⟩
 have I4:=_eO (own:=own) (scope:=scope) (fr:=fr) (tk:=s2.toks+0) ok a rfl hf3 F H kp
 have st4:S 0 h4:=T.keep _ _ _ st λb l o e=>kp b o (by rw[<-e3];exact Y03 _ e)
 have fpC:∀b∈j,b≠s3.heap.objs.size:=λb l=>let⟨o,e⟩:=F b l;Y0p (Y0g e)
 have U:∀{w:Hp},(∀b∈j,w b=none)->∀b∈j,FpOk (cxC X scope own fr s3.heap.objs.size j s3 (upd H1 s2.heap.objs.size (.lst []))) pz w b:=λhn b l=>by
  refine⟨hn b l,fpC b l,λz=>?_,.inl l,λx c e=>?_,(Z b l).2.2.2.2.2⟩
  .rcases Y06.mp (a.stkSub b z)with z|z
   .exact(Z b l).2.1 z
   .exact(Z b l).2.2.1 z
  .exact(Z b l).2.2.2.2.1 x c ((_4Z _ _ _ _ _ e).elim (λz=>by simp at z) id)
 have G:codeAny (model X.prog X.w) X.A (.compLoop (.ListComp elt [⟨tg,iter,ifs,0⟩] scope pos) 0 (.ref it) (.ref s2.heap.objs.size) (compEnvC scope (clOf X.env.cells scope.names []) s3.heap.objs.size X.env))
   (RR (.ref s2.heap.objs.size) s3.heap.objs.size) {s3 with heap:=h4,toks:=s2.toks+0}:=by
  refine _cv (λn s'=>∃i A w,Inv (cxC X scope own fr s3.heap.objs.size j s3 (upd H1 s2.heap.objs.size (.lst []))) pz (sC own fr σ) w s'/\S i s'.heap/\(∀b∈j,w b=none)/\W i n A w) ?_ m0
   ⟨0,[],_,I4,st4,λb l=>(hf3 b l).1,w0⟩
  rintro n s5 ⟨i,A,H5,I5,st5,fr5,w5⟩
  have way:=step i n A H5 w5
  rcases way with⟨stop,q⟩|⟨go,N,hN,turn⟩
  .refine thn (T.done (cxC X scope own fr s3.heap.objs.size j s3 (upd H1 s2.heap.objs.size (.lst []))) rfl rfl rfl hc i pz s5 _ H5 _ I5 (U fr5) st5 stop) λr s6 ⟨hr,I6⟩=>?_
   subst hr
   have J6:Inv X pz σ H5 s6:=a.call' I6.os I6.base I6.hok I6.bare λb l=>⟨(Z b l).2.2.2.1,(Z b l).2.1,(Z b l).2.2.2.2.1,(Z b l).2.2.2.2.2⟩
   obtain⟨m6,ns6,_⟩:=I6.loc
   refine hRR _ _ H5 s6 J6 ⟨m6,ns6⟩ I6.free (Y3m a.lt) a.sz (λx c e=>?_) (λp hp=>?_) q
   .obtain⟨v,z⟩:=a.cell x c e
    exact Y0p z.lt
   .exact Y0p (Y0g (a.pin p hp).1)
  .refine thn (T.item (cxC X scope own fr s3.heap.objs.size j s3 (upd H1 s2.heap.objs.size (.lst []))) rfl rfl rfl hc i pz s5 _ H5 _ I5 (U fr5) st5 go) λr s6 ⟨u,hr,h6⟩=>?_
   subst hr
   refine thn h6 λ_ s7 ⟨x,H7,I7,r7,y7,st7,fr7⟩=>?_
   have I7':=I7.pinned (U fr7) (T.obj _ _ st7)
   refine thn (hg _ _ _ _ _ s7 _ H7 x u _ I7' r7 (turn x H7 y7)) λ_ s8 ⟨O,H8,I8,kp8,q8⟩=>?_
   have again:∀{Y:Hp} {P:Shared},Inv (cxC X scope own fr s3.heap.objs.size j s3 (upd H1 s2.heap.objs.size (.lst []))) (pz++Zam j s7.heap) O Y P->∀{ys'},(∃m',m'<n/\W (i+1) m' ys' Y)->
     ∃m,m<n/\∃i A w,Inv (cxC X scope own fr s3.heap.objs.size j s3 (upd H1 s2.heap.objs.size (.lst []))) pz (sC own fr σ) w P/\S i P.heap/\(∀b∈j,w b=none)/\W i m A w:=fun{Y P} I {ys'} ⟨m',hm,w9⟩=>by
    refine⟨m',hm,i+1,ys',Y,(I.unpinned).weak kp8.1 kp8.2,T.keep _ _ _ st7 λb l o e=>(I.pin (b,o) (Y0I _ (Y0I _ (_58 l e)))).1,λb l=>?_,w9⟩
    obtain⟨o,e,d⟩:=T.obj _ _ st7 b l
    exact(I.pin (b,o) (Y0I _ (Y0I _ (_58 l e)))).2.1
   have fin:∀{ok:Bool} {P:Shared} {Y:Hp},Inv (cxC X scope own fr s3.heap.objs.size j s3 (upd H1 s2.heap.objs.size (.lst []))) (pz++Zam j s7.heap) O Y P->
     (if ok=true then te O Y λy H6=>∃zs,H6 s2.heap.objs.size=some (.lst zs)/\zs.length<sizeLine/\N (zs++[y]) (upd H6 s2.heap.objs.size (.lst (zs++[y])))else N A Y)->
     (if ok=true then wpAny (model X.prog X.w) X.A (eval elt (compEnvC scope (clOf X.env.cells scope.names []) s3.heap.objs.size X.env)) (λx R=>
      wpAny (model X.prog X.w) X.A (call (.builtin "list.append") [.ref s2.heap.objs.size,x]) (fun _ M=>∃m,m<n/\∃i A w,Inv (cxC X scope own fr s3.heap.objs.size j s3 (upd H1 s2.heap.objs.size (.lst []))) pz (sC own fr σ) w M/\S i M.heap/\(∀b∈j,w b=none)/\W i m A w) (fun _ _=>False) R) (fun _ _=>False) P
      else∃m,m<n/\∃i A w,Inv (cxC X scope own fr s3.heap.objs.size j s3 (upd H1 s2.heap.objs.size (.lst []))) pz (sC own fr σ) w P/\S i P.heap/\(∀b∈j,w b=none)/\W i m A w):=fun{ok P Y} I q9=>by
    cases ok with
    |false=>
     rw[if_neg Y05]at q9 ⊢
     exact again I (hN _ _ q9)
    |true=>
     rw[if_pos rfl]at q9 ⊢
     refine thn (he _ _ _ _ _ P O Y _ I q9) λv s10 ⟨y,H10,I10,r10,zs,hl10,hz5,w10⟩=>?_
     refine thn (_cb (X:=cxC X scope own fr s3.heap.objs.size j s3 (upd H1 s2.heap.objs.size (.lst []))) _ s10 O H10 (.ref s2.heap.objs.size) [y] (.ref s2.heap.objs.size) [v] (λ_ w=>w=upd H10 s2.heap.objs.size (.lst (zs++[y]))) I10 rfl (.cons r10 .nil) ⟨_,zs,y,rfl,rfl,hl10,hz5,rfl⟩) λ_ s11 ⟨_,H11,I11,_,e11⟩=>?_
     subst e11
     exact again I11 (hN _ _ w10)
   rcases ht s3.heap.objs.size j s3 (upd H1 s2.heap.objs.size (.lst []))with⟨e,et⟩|⟨c,e,hcT⟩
   .subst e et
    exact wpAny_tests_nil (fin (ok:=true) I8 q8)
   .subst e
    exact wpAny_tests_one (thn (hcT _ s8 O H8 _ I8 q8) λb P ⟨Y,I,q9⟩=>fin I q9)
 subst hs3
 exact codeAny_compStart_list G (T.self _ 0 _ _ _ st4 G)
theorem _hf(own:List Str)(fr:List Nat){c:TI}(hx:∀e s,¬X.xe e s)(f:X.calm=true)(ok:ZaK X.env.scope scope X.N own fr=true)(r:PI X tg iter c)
  (p:∀C w j l,PG (cxC X scope own fr C w j l) tg g)(L:∀C w j l,PTs (cxC X scope own fr C w j l) ifs tt)(N:∀C w j l,PE (cxC X scope own fr C w j l) elt te)
  (O:∀x,foldedSetIterable iter X.env x=pure x:=by intro _;rfl):
  PE X (.ListComp elt [⟨tg,iter,ifs,0⟩] scope pos) (Zfb own fr c g tt te):=by
 have u:=_3A ok
 intro pz s σ H Q I h
 rw[eval_ListComp]
 refine wpAny_comprehension_free (use:=none) (cl:=clOf X.env.cells scope.names []) rfl O (_aL λy P U=>I.ok.has y.1 (u.has y P U)) u.kind u.names (thn (r pz s σ H _ I h) λv s1 W=>thn W λY s2 Z=>?_)
 obtain⟨it,w,tn,J,H2,e,A,T,z,B,R⟩:=Z
 subst e
 refine _aJ (RR:=λd C=>compPost (model X.prog X.w) X.A X.xe none (EP X pz σ Q) d C) (Q:=Q) f u p L N A T z B R ?_
 rintro D C E F G ⟨m,M⟩ S i n a c5 q
 refine⟨m,M,λh' sb=>⟨.ref D,E,?_,rfl,q⟩⟩
 exact G.turned (g:=F.toks) (λb o hb e=>(sb.2 b hb).trans e) S i (.inr n) a c5
theorem _da(own:List Str)(fr:List Nat){i:Nat}{y:Str}{c d:Pos}{F:TI}(S:X.N.Nodup)(n:X.N[i]?=some y)(p:Loc X.env.scope y)(hx:∀e s,¬X.xe e s)(hc:X.calm=true)(ok:ZaK X.env.scope scope X.N own fr=true)(L:PI X tg iter F)
  (hg:∀C f j l,PG (cxC X scope own fr C f j l) tg g)(ht:∀C f j l,PTs (cxC X scope own fr C f j l) ifs tt)(he:∀C f j l,PE (cxC X scope own fr C f j l) elt te)
  (N:swapsWith (.ListComp elt [⟨tg,iter,ifs,0⟩] scope pos) (some (.Name y c)) d.line X.env=pure true:=by rfl)(hs:∀x,foldedSetIterable iter X.env x=pure x:=by intro _;rfl)
  (hf:X.fn y=true\/X.env.scope.names.lookup y=some .local:=by first|exact .inl rfl|exact .inr rfl|assumption):
  PS X (.Assign [.Name y c] (.ListComp elt [⟨tg,iter,ifs,0⟩] scope pos) d) (tAsg (Zfb own fr F g tt te) (ZhE i)):=by
 have w:=_3A ok
 intro pz s σ H D I h
 rw[exec_Assign_Name_used _ _ _ _ N]
 refine wpAny_bind (wpAny_standAt (wpAny_bind ?_))
 show wpAny _ X.A (do let _<- comprehension (.ListComp elt [⟨tg,iter,ifs,0⟩] scope pos) scope X.env _ (newList []) false (eval iter X.env) (some (assign (.Name y c) X.env))) _ _ s
 refine wpAny_bind (wpAny_mono (wpAny_comprehension_free (use:=some (assign (.Name y c) X.env)) (cl:=clOf X.env.cells scope.names []) (Q:=λ_ r=>SP X pz D .next r) rfl hs (_aL λy p hk=>I.ok.has y.1 (w.has y p hk)) w.kind w.names
  (thn (L pz s σ H _ I h) λv s1 h1=>thn h1 λitv s2 h2=>?_)) (λ_ r hq=>wpAny_pure (wpAny_pure hq)) λ_ _ e=>e)
 obtain⟨it,f,tn,J,H2,e,I2,T,O,f2,R⟩:=h2
 subst e
 refine _aJ (RR:=λP C=>compPost (model X.prog X.w) X.A X.xe (some (assign (.Name y c) X.env)) (λ_ r=>SP X pz D .next r) P C) (Q:=λv U=>D.nx (σ.set i (some v)) U) hc w hg ht he I2 T O f2 R ?_
 rintro E C U r I' ⟨m,ns⟩ c1 G c3 M c5 q
 show wpAny _ X.A (assign (.Name y c) X.env (.ref E)) _ _ _
 refine wpAny_assign_Name (_bI I' S n p (v:=.ref E) (u:=.ref E) rfl (λW Y Z=>?_) hf)
 obtain⟨a,Z,ha⟩:=Z
 have A:C≠a:=by
  rcases ha with z|z
  .rw[z];exact G
  .exact λe=>M _ _ z e.symm
 refine⟨m,ns.sameBut Z A,λh' B=>⟨_,U,?_,q⟩⟩
 exact Y.turned (g:=W.toks) (λb o hb e=>(B.2 b hb).trans e) c1 G (.inr c3) M c5
end
end L2
namespace L2
open PySem PySem.Spec PyProof.Rows
theorem hide{G:Prop}(h:∀j:Prop,(G->j)->j):G:=h G id
section
variable{G:GI}{sc:Scope}{N:List Str}{e:Expr}
theorem _02{a b:Bool}(h:(a&&b)=true):a=true/\b=true:=by rwa [Y0r]at h
theorem _0h{p:Prop} [Decidable p] (h:decide p=true):p:=of_decide_eq_true h
theorem not_of{b:Bool}(h:(!b)=true):b=false:=by cases b with|false=>rfl|true=>cases h
theorem _jP{i:Nat}(h:chkE G (.var i) sc N e=true):∃x p,e=.Name x p/\N[i]?=some x/\visB sc x=true/\(x==("__debug__":Str))=false/\(x==("__classdict__":Str))=false:=by
 refine hide λ_ k=>?_
 replace h:=_05 h
 obtain⟨x,j,h⟩:=h
 obtain⟨p,rfl⟩:=_0G j
 replace h:=_02 h
 obtain⟨h,l⟩:=h
 replace h:=_02 h
 obtain⟨h,u⟩:=h
 replace h:=_02 h
 obtain⟨w,y⟩:=h
 exact k ⟨x,p,rfl,_0h w,y,not_of u,not_of l⟩
theorem _jY{i:Int}(h:chkE G (.int i) sc N e=true):∃k p,e=.Constant (.int i) k p:=by
 replace h:=_05 h
 obtain⟨x,j,h⟩:=h
 obtain⟨k,p,rfl⟩:=_3B j
 exact⟨k,p,by rw[_0h h]⟩
theorem _jR{i:Str}(h:chkE G (.str i) sc N e=true):∃k p,e=.Constant (.str i) k p:=by
 replace h:=_05 h
 obtain⟨x,j,h⟩:=h
 obtain⟨k,p,rfl⟩:=_3B j
 exact⟨k,p,by rw[_0h h]⟩
theorem _m8{i:Bool}(h:chkE G (.bl i) sc N e=true):∃k p,e=.Constant (.bool i) k p:=by
 replace h:=_05 h
 obtain⟨x,j,h⟩:=h
 obtain⟨k,p,rfl⟩:=_3B j
 exact⟨k,p,by rw[_0h h]⟩
theorem _jV(h:chkE G .non sc N e=true):∃k p,e=.Constant .none k p:=by
 replace h:=_05 h
 obtain⟨x,j,h⟩:=h
 obtain⟨k,p,rfl⟩:=_3B j
 exact⟨k,p,by rw[_0h h]⟩
theorem _jZ{x:Str}{i:Int}(h:chkE G (.glb x i) sc N e=true):∃p,e=.Name x p/\G.gl.lookup x=some i/\glB sc x=true:=by
 refine hide λ_ k=>?_
 replace h:=_05 h
 obtain⟨y,j,h⟩:=h
 obtain⟨p,rfl⟩:=_0G j
 replace h:=_02 h
 obtain⟨h,l⟩:=h
 replace h:=_02 h
 obtain⟨u,w⟩:=h
 obtain rfl:=_0h u
 exact k ⟨p,rfl,_0h w,l⟩
theorem _m3{c:Ty7}(h:chkE G (.ty c) sc N e=true):∃p,e=.Name (c.name:Str) p/\c≠.none/\G.bl.contains (c.name:Str)=true/\glB sc (c.name:Str)=true:=by
 refine hide λ_ k=>?_
 replace h:=_05 h
 obtain⟨y,j,h⟩:=h
 obtain⟨p,rfl⟩:=_0G j
 replace h:=_02 h
 obtain⟨h,l⟩:=h
 replace h:=_02 h
 obtain⟨h,u⟩:=h
 replace h:=_02 h
 obtain⟨w,z⟩:=h
 obtain rfl:=_0h w
 exact k ⟨p,rfl,_0h z,u,l⟩
theorem _k4{op:Operator}{a b:IE}(h:chkE G (.bin op a b) sc N e=true):∃l r p,e=.BinOp l op r p/\chkE G a sc N l=true/\chkE G b sc N r=true:=by
 refine hide λ_ k=>?_
 replace h:=_05 h
 obtain⟨⟨l,o,r⟩,j,h⟩:=h
 obtain⟨p,rfl⟩:=_ej j
 replace h:=_02 h
 obtain⟨h,u⟩:=h
 replace h:=_02 h
 obtain⟨w,y⟩:=h
 obtain rfl:=_0h w
 exact k ⟨l,r,p,rfl,y,u⟩
theorem _jW{a:IE}(h:chkE G (.neg a) sc N e=true):∃l p,e=.UnaryOp .USub l p/\chkE G a sc N l=true:=by
 refine hide λ_ k=>?_
 replace h:=_05 h
 obtain⟨⟨o,l⟩,j,h⟩:=h
 obtain⟨p,rfl⟩:=_dK j
 replace h:=_02 h
 obtain⟨u,w⟩:=h
 obtain rfl:=_0h u
 exact k ⟨l,p,rfl,w⟩
theorem _jU{a:IE}(h:chkE G (.not a) sc N e=true):∃l p,e=.UnaryOp .Not l p/\chkE G a sc N l=true:=by
 refine hide λ_ k=>?_
 replace h:=_05 h
 obtain⟨⟨o,l⟩,j,h⟩:=h
 obtain⟨p,rfl⟩:=_dK j
 replace h:=_02 h
 obtain⟨u,w⟩:=h
 obtain rfl:=_0h u
 exact k ⟨l,p,rfl,w⟩
theorem _k2{op:CmpOp}{a b:IE}(h:chkE G (.cmp op a b) sc N e=true):∃l r p,e=.Compare l [op] [r] p/\chkE G a sc N l=true/\chkE G b sc N r=true/\behindInMarks op r=false:=by
 refine hide λ_ k=>?_
 replace h:=_05 h
 obtain⟨⟨l,os,d⟩,j,h⟩:=h
 obtain⟨p,rfl⟩:=_8J j
 replace h:=_05 h
 obtain⟨o,u,h⟩:=h
 replace h:=_05 h
 obtain⟨r,w,h⟩:=h
 obtain rfl:=_22 u
 obtain rfl:=_22 w
 replace h:=_02 h
 obtain⟨h,y⟩:=h
 replace h:=_02 h
 obtain⟨h,z⟩:=h
 replace h:=_02 h
 obtain⟨m,g⟩:=h
 obtain rfl:=_0h m
 exact k ⟨l,r,p,rfl,g,z,not_of y⟩
theorem _k3{op j:CmpOp}{a b c:IE}(h:chkE G (.chn op j a b c) sc N e=true):∃l m r p,e=.Compare l [op,j] [m,r] p/\chkE G a sc N l=true/\chkE G b sc N m=true/\chkE G c sc N r=true/\lastMarks [op,j] [m,r]=false:=by
 refine hide λ_ k=>?_
 replace h:=_05 h
 obtain⟨⟨l,os,O⟩,u,h⟩:=h
 obtain⟨p,rfl⟩:=_8J u
 replace h:=_05 h
 obtain⟨⟨o,P⟩,w,h⟩:=h
 replace h:=_05 h
 obtain⟨⟨m,r⟩,y,h⟩:=h
 obtain rfl:=_f9 w
 obtain rfl:=_f9 y
 replace h:=_02 h
 obtain⟨h,z⟩:=h
 replace h:=_02 h
 obtain⟨h,g⟩:=h
 replace h:=_02 h
 obtain⟨h,d⟩:=h
 replace h:=_02 h
 obtain⟨h,f⟩:=h
 replace h:=_02 h
 obtain⟨q,L⟩:=h
 obtain rfl:=_0h q
 obtain rfl:=_0h L
 exact k ⟨l,m,r,p,rfl,f,d,g,not_of z⟩
theorem _k5{a b:IE}(h:chkE G (.and a b) sc N e=true):∃l r rest p,e=.BoolOp .And (l::r::rest) p/\chkE G a sc N l=true/\((rest=[]/\chkE G b sc N r=true)\/chkE G b sc N (.BoolOp .And (r::rest) p)=true):=by
 replace h:=_05 h
 obtain⟨⟨o,z,p⟩,w,h⟩:=h
 obtain rfl:=_by w
 replace h:=_05 h
 obtain⟨⟨l,r,rest⟩,j,h⟩:=h
 obtain rfl:=_ix j
 replace h:=_02 h
 obtain⟨h,u⟩:=h
 replace h:=_02 h
 obtain⟨j,y⟩:=h
 obtain rfl:=_0h j
 refine⟨l,r,rest,p,rfl,y,?_⟩
 cases rest with
 |nil=>exact .inl ⟨rfl,u⟩
 |cons _ _=>exact .inr u
theorem _m5{a b:IE}(h:chkE G (.or a b) sc N e=true):∃l r rest p,e=.BoolOp .Or (l::r::rest) p/\chkE G a sc N l=true/\((rest=[]/\chkE G b sc N r=true)\/chkE G b sc N (.BoolOp .Or (r::rest) p)=true):=by
 replace h:=_05 h
 obtain⟨⟨o,z,p⟩,w,h⟩:=h
 obtain rfl:=_by w
 replace h:=_05 h
 obtain⟨⟨l,r,rest⟩,j,h⟩:=h
 obtain rfl:=_ix j
 replace h:=_02 h
 obtain⟨h,u⟩:=h
 replace h:=_02 h
 obtain⟨j,y⟩:=h
 obtain rfl:=_0h j
 refine⟨l,r,rest,p,rfl,y,?_⟩
 cases rest with
 |nil=>exact .inl ⟨rfl,u⟩
 |cons _ _=>exact .inr u
theorem _jQ{l:IEs}(h:chkE G (.tup l) sc N e=true):∃j k p,e=.Tuple j k p/\chkEs G l sc N j=true:=by
 replace h:=_05 h
 obtain⟨j,u,h⟩:=h
 obtain⟨k,p,rfl⟩:=_8H u
 exact⟨j,k,p,rfl,h⟩
theorem _jX{l:IEs}(h:chkE G (.lst l) sc N e=true):∃j p,e=.List j p/\chkEs G l sc N j=true:=by
 replace h:=_05 h
 obtain⟨j,u,h⟩:=h
 obtain⟨p,rfl⟩:=_ei u
 exact⟨j,p,rfl,h⟩
theorem _m7{a b:IE}(h:chkE G (.ix a b) sc N e=true):∃x y p,e=.Subscript x y p/\chkE G a sc N x=true/\chkE G b sc N y=true/\ZfM y=true:=by
 refine hide λ_ k=>?_
 replace h:=_05 h
 obtain⟨⟨x,y⟩,j,h⟩:=h
 obtain⟨p,rfl⟩:=_8I j
 replace h:=_02 h
 obtain⟨h,l⟩:=h
 replace h:=_02 h
 obtain⟨u,w⟩:=h
 exact k ⟨x,y,p,rfl,u,w,l⟩
theorem _m4{a:IE}{lo w:IO}(h:chkE G (.sl a lo w) sc N e=true):∃x l u p j,e=.Subscript x (.Slice l u none j) p/\chkE G a sc N x=true/\chkO G lo sc N l=true/\chkO G w sc N u=true:=by
 replace h:=_05 h
 obtain⟨⟨x,y⟩,z,h⟩:=h
 obtain⟨p,rfl⟩:=_8I z
 replace h:=_05 h
 obtain⟨⟨l,u,st⟩,m,h⟩:=h
 obtain⟨j,rfl⟩:=_ko m
 replace h:=_02 h
 obtain⟨h,g⟩:=h
 replace h:=_02 h
 obtain⟨h,d⟩:=h
 replace h:=_02 h
 obtain⟨c,f⟩:=h
 cases st with
 |some _=>cases g
 |none=>exact⟨x,l,u,p,j,rfl,c,f,d⟩
theorem _hx{j:Nat}{a:IE}{y:IEs}(h:chkE G (.call j a y) sc N e=true):∃f p x u w,e=.Call (.Name f p) (x::u) [] w/\G.fns[j]?=some f/\glB sc f=true/\chkE G a sc N x=true/\chkEs G y sc N u=true:=by
 refine hide λ_ k=>?_
 replace h:=_05 h
 obtain⟨⟨f,l,P,w⟩,z,h⟩:=h
 obtain rfl:=_21 z
 replace h:=_05 h
 obtain⟨g,m,h⟩:=h
 obtain⟨p,rfl⟩:=_0G m
 replace h:=_05 h
 obtain⟨⟨x,u⟩,d,h⟩:=h
 obtain rfl:=_8e d
 replace h:=_02 h
 obtain⟨h,c⟩:=h
 replace h:=_02 h
 obtain⟨h,q⟩:=h
 replace h:=_02 h
 obtain⟨h,r⟩:=h
 replace h:=_02 h
 obtain⟨L,O⟩:=h
 obtain rfl:=_10 L
 exact k ⟨g,p,x,u,w,rfl,_0h O,r,q,c⟩
theorem _m9{f:BI}{a:IE}{w:IEs}(h:chkE G (.bi f a w) sc N e=true):∃p x j u,e=.Call (.Name (f.name:Str) p) (x::j) [] u/\G.bl.contains (f.name:Str)=true/\glB sc (f.name:Str)=true/\chkE G a sc N x=true/\chkEs G w sc N j=true:=by
 refine hide λ_ k=>?_
 replace h:=_05 h
 obtain⟨⟨P,l,R,u⟩,y,h⟩:=h
 obtain rfl:=_21 y
 replace h:=_05 h
 obtain⟨g,z,h⟩:=h
 obtain⟨p,rfl⟩:=_0G z
 replace h:=_05 h
 obtain⟨⟨x,j⟩,m,h⟩:=h
 obtain rfl:=_8e m
 replace h:=_02 h
 obtain⟨h,d⟩:=h
 replace h:=_02 h
 obtain⟨h,c⟩:=h
 replace h:=_02 h
 obtain⟨h,q⟩:=h
 replace h:=_02 h
 obtain⟨h,r⟩:=h
 replace h:=_02 h
 obtain⟨L,O⟩:=h
 obtain rfl:=_10 L
 obtain rfl:=_0h O
 exact k ⟨p,x,j,u,rfl,r,q,c,d⟩
theorem _ma{f:B2}{a:IE}(h:chkE G (.b2 f a) sc N e=true):∃p u x w j,e=.Call (.Name (f.out:Str) p) [.Call (.Name (f.inn:Str) u) [x] [] j] [] w/\G.bl.contains (f.out:Str)=true/\G.bl.contains (f.inn:Str)=true/\glB sc (f.out:Str)=true/\glB sc (f.inn:Str)=true/\chkE G a sc N x=true:=by
 refine hide λ_ k=>?_
 replace h:=_05 h
 obtain⟨⟨C,l,D,w⟩,z,h⟩:=h
 obtain rfl:=_21 z
 replace h:=_05 h
 obtain⟨g,m,h⟩:=h
 obtain⟨p,rfl⟩:=_0G m
 replace h:=_05 h
 obtain⟨y,d,h⟩:=h
 obtain rfl:=_22 d
 replace h:=_05 h
 obtain⟨⟨c,E,q,j⟩,r,h⟩:=h
 obtain rfl:=_21 r
 replace h:=_05 h
 obtain⟨k,L,h⟩:=h
 obtain⟨u,rfl⟩:=_0G L
 replace h:=_05 h
 obtain⟨x,O,h⟩:=h
 obtain rfl:=_22 O
 simp only[Y0r]at h
 obtain⟨⟨⟨⟨⟨⟨⟨⟨P,R⟩,T⟩,U⟩,W⟩,Y⟩,Z⟩,A⟩,B⟩:=h
 obtain rfl:=_10 P
 obtain rfl:=_10 R
 obtain rfl:=_0h T
 obtain rfl:=_0h U
 exact k ⟨p,u,x,w,j,rfl,W,Y,Z,A,B⟩
theorem _m6{m:MT}{o:IE}{y:IEs}(h:chkE G (.mt m o y) sc N e=true):∃l u j w,e=.Call (.Attribute l (m.name:Str) u) j [] w/\(u.endLine==w.line)=true/\chkE G o sc N l=true/\chkEs G y sc N j=true/\j.length<20:=by
 refine hide λ_ k=>?_
 replace h:=_05 h
 obtain⟨⟨L,j,O,w⟩,z,h⟩:=h
 obtain rfl:=_21 z
 replace h:=_05 h
 obtain⟨⟨l,P,u⟩,g,h⟩:=h
 obtain rfl:=_ek g
 replace h:=_02 h
 obtain⟨h,d⟩:=h
 replace h:=_02 h
 obtain⟨h,c⟩:=h
 replace h:=_02 h
 obtain⟨h,f⟩:=h
 replace h:=_02 h
 obtain⟨h,q⟩:=h
 replace h:=_02 h
 obtain⟨r,p⟩:=h
 obtain rfl:=_10 r
 obtain rfl:=_0h p
 exact k ⟨l,u,j,w,rfl,q,f,c,_0h d⟩
theorem _e7{own:List Str}{w:List Nat}{y:ISr}{d:ITg}{u:IO}{z:IE}(h:chkE G (.comp own w y d u z) sc N e=true):∃x t m l j p,e=.ListComp x [⟨t,m,l,0⟩] j p/\ZaK sc j N own w=true/\Zc9 m=true/\
  (nC own w N).Nodup/\chkSr G y sc N m=true/\Z8C (Zet j sc) (nC own w N) own.length false d t=true/\chkI G u (Zet j sc) (nC own w N) l=true/\chkE G z (Zet j sc) (nC own w N) x=true:=by
 replace h:=_05 h
 obtain⟨⟨x,T,j⟩,c,h⟩:=h
 obtain⟨p,rfl⟩:=_gO c
 replace h:=_05 h
 obtain⟨⟨t,m,l,k⟩,g,h⟩:=h
 obtain rfl:=_22 g
 replace h:=_02 h
 obtain⟨h,f⟩:=h
 replace h:=_02 h
 obtain⟨h,q⟩:=h
 replace h:=_02 h
 obtain⟨h,r⟩:=h
 replace h:=_02 h
 obtain⟨h,L⟩:=h
 replace h:=_02 h
 obtain⟨h,O⟩:=h
 replace h:=_02 h
 obtain⟨h,P⟩:=h
 replace h:=_02 h
 obtain⟨g,R⟩:=h
 obtain rfl:=_0h f
 exact⟨x,t,m,l,j,p,rfl,g,R,_0h P,O,L,r,q⟩
theorem _eE{j:List (Option Expr)}{l:List Expr}(h:ZgE G .nil sc N j l=true):j=[]/\l=[]:=by
 replace h:=_02 h
 exact⟨_10 h.1,_10 h.2⟩
theorem _dv{k v:IE}{u:IPs}{w:List (Option Expr)}{z:List Expr}(h:ZgE G (.cons k v u) sc N w z=true):∃x j y l,w=some x::j/\z=y::l/\chkE G k sc N x=true/\chkE G v sc N y=true/\ZgE G u sc N j l=true:=by
 refine hide λ_ k=>?_
 replace h:=_05 h
 obtain⟨⟨o,j⟩,g,h⟩:=h
 replace h:=_05 h
 obtain⟨⟨y,l⟩,d,h⟩:=h
 replace h:=_05 h
 obtain⟨x,m,h⟩:=h
 replace h:=_02 h
 obtain⟨h,c⟩:=h
 replace h:=_02 h
 obtain⟨f,q⟩:=h
 dsimp only at m
 subst m
 exact k ⟨x,j,y,l,_8e g,_8e d,f,q,c⟩
theorem _aF{l:List Expr}(h:chkEs G .nil sc N l=true):l=[]:=by
 exact _10 h
theorem _9g{a:IE}{u:IEs}{l:List Expr}(h:chkEs G (.cons a u) sc N l=true):∃x j,l=x::j/\chkE G a sc N x=true/\chkEs G u sc N j=true:=by
 replace h:=_05 h
 obtain⟨⟨x,j⟩,w,h⟩:=h
 exact⟨x,j,_8e w,_02 h⟩
theorem _eG(h:chkO G .none sc N o=true):o=none:=by
 cases o with
 |none=>rfl
 |some _=>cases h
theorem _eF{a:IE}{o:Option Expr}(h:chkO G (.some a) sc N o=true):∃x,o=some x/\chkE G a sc N x=true:=by
 exact _05 h
theorem _eI{l:List Expr}(h:chkI G .none sc N l=true):l=[]:=by
 exact _10 h
theorem _eH{a:IE}{l:List Expr}(h:chkI G (.some a) sc N l=true):∃x,l=[x]/\tok a=true/\chkE G a sc N x=true:=by
 replace h:=_05 h
 obtain⟨x,j,h⟩:=h
 exact⟨x,_22 j,_02 h⟩
theorem _k1{x:Str}{j:List (Str×Int)}{a:IE}(h:chkE G (.gin x j a) sc N e=true):∃l u p,e=.Compare l [.In] [.Name x u] p/\G.gds.lookup x=some j/\glB sc x=true/\chkE G a sc N l=true/\behindInMarks .In (.Name x u)=false:=by
 refine hide λ_ k=>?_
 replace h:=_05 h
 obtain⟨⟨l,os,O⟩,z,h⟩:=h
 obtain⟨p,rfl⟩:=_8J z
 replace h:=_05 h
 obtain⟨o,m,h⟩:=h
 replace h:=_05 h
 obtain⟨r,g,h⟩:=h
 obtain rfl:=_22 m
 obtain rfl:=_22 g
 replace h:=_05 h
 obtain⟨y,w,h⟩:=h
 obtain⟨u,rfl⟩:=_0G w
 replace h:=_02 h
 obtain⟨h,d⟩:=h
 replace h:=_02 h
 obtain⟨h,c⟩:=h
 replace h:=_02 h
 obtain⟨h,f⟩:=h
 replace h:=_02 h
 obtain⟨h,q⟩:=h
 replace h:=_02 h
 obtain⟨w,L⟩:=h
 obtain rfl:=_0h w
 obtain rfl:=_0h L
 exact k ⟨l,u,p,rfl,_0h q,f,c,not_of d⟩
theorem _k0{x:Str}{j:List (Str×Int)}{a:IE}(h:chkE G (.gix x j a) sc N e=true):∃y l p,e=.Subscript (.Name x l) y p/\G.gds.lookup x=some j/\glB sc x=true/\chkE G a sc N y=true/\ZfM y=true:=by
 refine hide λ_ k=>?_
 replace h:=_05 h
 obtain⟨⟨f,y⟩,u,h⟩:=h
 obtain⟨p,rfl⟩:=_8I u
 replace h:=_05 h
 obtain⟨z,w,h⟩:=h
 obtain⟨l,rfl⟩:=_0G w
 replace h:=_02 h
 obtain⟨h,m⟩:=h
 replace h:=_02 h
 obtain⟨h,g⟩:=h
 replace h:=_02 h
 obtain⟨h,d⟩:=h
 replace h:=_02 h
 obtain⟨c,q⟩:=h
 obtain rfl:=_0h c
 exact k ⟨y,l,p,rfl,_0h q,d,g,m⟩
theorem _jT{a:IE}(h:chkSr G (.rev a) sc N e=true):∃p x j,e=.Call (.Name ("reversed":Str) p) [x] [] j/\G.bl.contains ("reversed":Str)=true/\glB sc ("reversed":Str)=true/\chkE G a sc N x=true:=by
 refine hide λ_ k=>?_
 replace h:=_05 h
 obtain⟨⟨q,l,r,j⟩,u,h⟩:=h
 obtain rfl:=_21 u
 replace h:=_05 h
 obtain⟨g,w,h⟩:=h
 obtain⟨p,rfl⟩:=_0G w
 replace h:=_05 h
 obtain⟨x,y,h⟩:=h
 obtain rfl:=_22 y
 replace h:=_02 h
 obtain⟨h,z⟩:=h
 replace h:=_02 h
 obtain⟨h,m⟩:=h
 replace h:=_02 h
 obtain⟨h,d⟩:=h
 replace h:=_02 h
 obtain⟨c,f⟩:=h
 obtain rfl:=_10 c
 obtain rfl:=_0h f
 exact k ⟨p,x,j,rfl,d,m,z⟩
theorem _jS{a:IE}(h:chkSr G (.rng a) sc N e=true):∃p x j,e=.Call (.Name ("range":Str) p) [x] [] j/\G.bl.contains ("range":Str)=true/\glB sc ("range":Str)=true/\chkE G a sc N x=true:=by
 refine hide λ_ k=>?_
 replace h:=_05 h
 obtain⟨⟨q,l,r,j⟩,u,h⟩:=h
 obtain rfl:=_21 u
 replace h:=_05 h
 obtain⟨g,w,h⟩:=h
 obtain⟨p,rfl⟩:=_0G w
 replace h:=_05 h
 obtain⟨x,y,h⟩:=h
 obtain rfl:=_22 y
 replace h:=_02 h
 obtain⟨h,z⟩:=h
 replace h:=_02 h
 obtain⟨h,m⟩:=h
 replace h:=_02 h
 obtain⟨h,d⟩:=h
 replace h:=_02 h
 obtain⟨c,f⟩:=h
 obtain rfl:=_10 c
 obtain rfl:=_0h f
 exact k ⟨p,x,j,rfl,d,m,z⟩
theorem _9f{j:Nat}{all:Bool}{i:Nat}(h:Z8C sc N j all (.nm i) e=true):∃x p,e=.Name x p/\N[i]?=some x/\i<j/\(if all then locB sc x else decide (sc.names.lookup x=some .local))=true:=by
 refine hide λ_ k=>?_
 replace h:=_05 h
 obtain⟨x,l,h⟩:=h
 obtain⟨p,rfl⟩:=_0G l
 replace h:=_02 h
 obtain⟨h,u⟩:=h
 replace h:=_02 h
 obtain⟨w,y⟩:=h
 exact k ⟨x,p,rfl,_0h w,_0h y,u⟩
theorem _7f{j:Nat}{all:Bool}{u:ITgs}(h:Z8C sc N j all (.tup u) e=true):∃l k p,e=.Tuple l k p/\chkTgs sc N j all u l=true:=by
 replace h:=_05 h
 obtain⟨l,w,h⟩:=h
 obtain⟨k,p,rfl⟩:=_8H w
 exact⟨l,k,p,rfl,h⟩
theorem _du{j:Nat}{all:Bool}{l:List Expr}(h:chkTgs sc N j all .nil l=true):l=[]:=by
 exact _10 h
theorem _7M{j:Nat}{all:Bool}{t:ITg}{w:ITgs}{l:List Expr}(h:chkTgs sc N j all (.cons t w) l=true):∃x u,l=x::u/\Z8C sc N j all t x=true/\chkTgs sc N j all w u=true:=by
 replace h:=_05 h
 obtain⟨⟨x,u⟩,y,h⟩:=h
 exact⟨x,u,_8e y,_02 h⟩
end
end L2
namespace L2
open PySem PySem.Spec PyProof.Rows
def liT(K:Y00)(t:TEm):TT:=λu H Q=>∃j M,RS K H j u/\RH K M H/\t j M (λm w=>∃b,m=.bl b/\∀l,Kp H l->RH K w l->Q b l)
def liO(K:Y00)(t:Sm->MH->(Option Int->MH->Prop)->Prop):TO:=λu H Q=>∃j M,RS K H j u/\RH K M H/\t j M (λo w=>∀l,Kp H l->RH K w l->Q o l)
section
variable{K:Y00}
theorem _bf{t:TEm}(m:MonE t){u:St}{H:Hp}{Q:Bool->Hp->Prop}(h:liT K t u H Q):liE K t u H λx w=>∃c,x=.bl c/\Q c w:=by
 obtain⟨j,M,y,z,h⟩:=h
 refine⟨j,M,y,z,m (λx M1 ⟨b,e,g⟩=>?_) h⟩
 subst e
 intro v d f q l
 obtain rfl:=q.inv
 exact⟨b,rfl,g d f l⟩
theorem _ip{t:TEm}(m:MonE t){l:Sm}{M:MH}{H w:Hp}{Q:Bool->Hp->Prop}(k:Kp H w)(h:t l M λx u=>∃b,x=.bl b/\∀j,Kp H j->RH K u j->Q b j):
  t l M λx u=>∃b,x=.bl b/\∀j,Kp w j->RH K u j->Q b j:=
 m (λx u ⟨b,e,q⟩=>⟨b,e,λj y=>q j (k.trans y)⟩) h
theorem _jJ{t:TAm}(d:MonE te)(mt:MonA t)(h:liA K (λl M Q=>te l M λv M1=>t l M1 λu M2=>Q (v::u) M2) l H Q):Zfa (liE K te) (liA K t) l H Q:=by
 obtain⟨j,M,z,c,h⟩:=h
 refine⟨j,M,z,c,d (λx M1 f=>?_) h⟩
 intro v L m q w
 refine⟨j,M1,z.mono m,w,mt (λN M2 r=>?_) f⟩
 intro u p g e y
 exact r (v::u) p (m.trans g) (.cons (q.mono g) e) y
end
def Zkw(X:Cx)(H:Hp):Src->It->Prop
 |.tup xs,J=>(∃a j,H a=some (.tup j)/\RMs X.K H xs j/\J=Itt X.K a)\/∃a j,FrL X.K H a j/\RMs X.K H xs j/\J=Itl X.K a
 |.lst a _,J=>J=Itl X.K a
 |.rng lo n,J=>J=Itr lo n
 |.str x,J=>J=Its x
 |.rev a xs,J=>J=Itv X.K a xs.length
theorem _aX{X:Cx}{w H:Hp}{M:MH}{S:Src}{J:It}(s:Zkw X w S J)(j:RH X.K M H)(ok:S.okT M):∃l,Thw X H l/\Kp H l/\RH X.K (S.thaw M) l:=by
 cases S with
 |tup u=>exact⟨H,.inl rfl,Kp.refl _,j⟩
 |lst a u=>exact⟨H,.inl rfl,Kp.refl _,j⟩
 |rng a u=>exact⟨H,.inl rfl,Kp.refl _,j⟩
 |str x=>exact⟨H,.inl rfl,Kp.refl _,j⟩
 |rev a u=>exact⟨H,.inl rfl,Kp.refl _,j⟩
theorem _if{M:MH}{S:Src}(ok:S.ok M):S.okT M:=by
 cases S<;>first|trivial|exact ok
theorem _dO{X:Cx}{f H:Hp}{M:MH}{S:Src}{J:It}(s:Zkw X f S J)(k:Kp f H)(q:RH X.K M H)(ok:S.ok M):
  (∀i,i<S.len->J.go i H/\∀x u,J.yld i H x u->u=H/\∃m,S.items[i]?=some m/\RM X.K H m x)/\∀i,S.len<=i->J.stop i H:=by
 have g:∀{a:Addr} {w:List MV} {l:List V},SqL X.K H a l->RMs X.K H w l->(∀i,i<w.length->(Itl X.K a).go i H/\∀x u,(Itl X.K a).yld i H x u->u=H/\∃m,w[i]?=some m/\RM X.K H m x)/\∀i,w.length<=i->(Itl X.K a).stop i H:=by
  intro a w l d r
  refine⟨λi j=>⟨⟨l,_,d,Y02 (by rw[<-r.length];exact j)⟩,λx u y=>?_⟩,λi j=>⟨l,d,by rw[<-r.length];exact j⟩⟩
  exact⟨y.1,r.get' (y.2 l d)⟩
 cases S with
 |tup w=>
  rcases s with⟨a,l,h,r,rfl⟩|⟨a,l,h,r,rfl⟩
  .have h:=SqT.of (K:=X.K) (k _ _ h rfl)
   have r:=r.mono k
   refine⟨λi j=>⟨⟨l,_,h,Y02 (by rw[<-r.length];exact j)⟩,λx u y=>?_⟩,λi j=>⟨l,h,by rw[<-r.length];exact j⟩⟩
   exact⟨y.1,r.get' (y.2 l h)⟩
  .refine g (FrL.sq ?_) (r.mono k)
   rcases h with⟨o,h⟩|h
   .exact .inl ⟨o,k _ _ h rfl⟩
   .exact .inr h
 |lst a w=>
  cases s
  obtain⟨l,h,r⟩:=q.lst ok
  exact g (SqL.of h) r
 |rng lo n=>
  cases s
  refine⟨λi j=>⟨j,λx u y=>⟨y.1,.int (lo+(i:Nat)),?_,?_⟩⟩,λi j=>j⟩
  .show((Y0A n).map _)[i]?=_
   rw[Y08,Y02 (by simpa using(show i<n from j))]
   simp
  .rw[y.2];exact .int _
 |str z=>
  cases s
  refine⟨λi j=>⟨j,λx u y=>?_⟩,λi j=>j⟩
  obtain⟨e,c,p,rfl⟩:=y
  refine⟨e,.str ⟨#[c]⟩,?_,.str _⟩
  show(z.cps.toList.map _)[i]?=_
  rw[Y08,Y2h,p]
  rfl
 |rev a w=>
  cases s
  obtain⟨l,h,r⟩:=q.lst ok
  have L:=r.length
  refine⟨λi j=>⟨⟨j,l,SqL.of h,L.symm⟩,λx u y=>⟨y.1,?_⟩⟩,λi j=>j⟩
  obtain⟨m,N,O⟩:=r.get' (y.2 l (SqL.of h))
  refine⟨m,?_,O⟩
  show w.reverse[i]?=_
  rw[Y2k j];exact N
def liSr(X:Cx)(t:TSm):TI:=λu H R=>∃j M,RS X.K H j u/\RH X.K M H/\t j M (λS w=>∀J l,Kp H l->RH X.K w l->Zkw X l S J->R J l)
section
variable{X:Cx}{tg:Expr}
theorem PI.weak{t:TI}(h:PI X tg e t)(i:∀j H R,t' j H R->t j H R):PI X tg e t':=λl s j H R I q=>h l s j H R I (i _ _ _ q)
end
mutual
def gOf(K:Y00):ITg->TG
 |.nm i=>ZhE i
 |.tup ts=>gTup K (ITgs.len ts) (gsOf K ts)
def gsOf(K:Y00):ITgs->TGs
 |.nil=>gNil
 |.cons t ts=>Zme (gOf K t) (gsOf K ts)
def ITgs.len:ITgs->Nat
 |.nil=>0
 |.cons _ ts=>ts.len+1
end
mutual
theorem sTg{X:Cx}{lim:Nat}{all:Bool}(u:X.calm=true)(j:X.N.Nodup)(w:all=true->∀x,X.fn x=true):∀(t:ITg){e:Expr},Z8C X.env.scope X.N lim all t e=true->PG X e (gOf X.K t)
 |.nm i,e,h=>by
  obtain⟨x,p,rfl,h1,h2,h3⟩:=_9f h
  cases all with
  |true=>
   rw[if_pos rfl]at h3
   exact _fF j h1 (_e2 h3) (.inl (w rfl _))
  |false=>
   rw[if_neg Y05,decide_eq_true_eq]at h3
   exact _fF j h1 (.inl h3) (.inr h3)
 |.tup ts,e,h=>by
  obtain⟨es,k,p,rfl,h⟩:=_7f h
  obtain⟨h1,h2,h3⟩:=sTgs u j w ts h
  exact _lu u h1 h2 h3
theorem sTgs{all:Bool}(u:X.calm=true)(j:X.N.Nodup)(w:all=true->∀x,X.fn x=true):∀(t:ITgs){es:List Expr},chkTgs X.env.scope X.N lim all t es=true->PGs X es (gsOf X.K t)/\(assignEach es X.env).length=t.len/\(assignEach es X.env).findIdx? (·.1)=none
 |.nil,l,h=>by
  cases _du h
  rw[gsOf,ITgs.len];exact⟨_ji,rfl,rfl⟩
 |.cons t ts,l,h=>by
  obtain⟨e,es,rfl,y,m⟩:=_7M h
  obtain⟨h1,h2,h3⟩:=sTgs u j w ts m
  have h4:=sTg u j w t y
  have z:assignEach (e::es) X.env=(false,assign e X.env)::assignEach es X.env:=by
   cases t with
   |nm i=>obtain⟨x,p,rfl,_⟩:=_9f y;rfl
   |tup ts=>obtain⟨x,k,p,rfl,_⟩:=_7f y;rfl
  rw[gsOf,ITgs.len]
  refine⟨_hd h4 h1 (by rw[z];rfl),by rw[z,Y0e,h2],?_⟩
  rw[z,List.findIdx?_cons,if_neg Y05,h3]
  rfl
end
theorem RMs.len_tgs{K:Y00}:∀{u:ITgs} {w:List MV} {l:Sm} {P:Sm->Prop},wTgs u w l P->w.length=u.len
 |.nil,w,l,P,h=>by rw[h.1,ITgs.len];rfl
 |.cons t u,w,l,P,h=>by
  obtain⟨v,r,rfl,h⟩:=h
  rw[Y0e,ITgs.len]
  have z:∀(t:ITg){v:MV} {l:Sm},wTg t v l (λj=>wTgs u r j P)->∃j,wTgs u r j P:=by
   have y:(∀(t:ITg){v:MV} {l:Sm} {P:Sm->Prop},wTg t v l P->∃j,P j)/\(∀(t:ITgs){v:List MV} {l:Sm} {P:Sm->Prop},wTgs t v l P->∃j,P j):=by
    refine⟨λt=>?_,λt=>?_⟩
    .exact ITg.rec (motive_1:=λt=>∀{v:MV} {l:Sm} {P:Sm->Prop},wTg t v l P->∃j,P j) (motive_2:=λt=>∀{v:List MV} {l:Sm} {P:Sm->Prop},wTgs t v l P->∃j,P j)
      (λi v l P h=>⟨_,h⟩) (λu m v l P h=>by obtain⟨w,_,h⟩:=h;exact m h)
      (fun{v l P} h=>⟨_,h.2⟩) (λt u g d v l P h=>by obtain⟨x,r,_,h⟩:=h;obtain⟨j,h⟩:=g h;exact d h) t
    .exact ITgs.rec (motive_1:=λt=>∀{v:MV} {l:Sm} {P:Sm->Prop},wTg t v l P->∃j,P j) (motive_2:=λt=>∀{v:List MV} {l:Sm} {P:Sm->Prop},wTgs t v l P->∃j,P j)
      (λi v l P h=>⟨_,h⟩) (λu m v l P h=>by obtain⟨w,_,h⟩:=h;exact m h)
      (fun{v l P} h=>⟨_,h.2⟩) (λt u g d v l P h=>by obtain⟨x,r,_,h⟩:=h;obtain⟨j,h⟩:=g h;exact d h) t
   exact λt {v l} h=>y.1 t h
  obtain⟨j,c⟩:=z t h
  rw[RMs.len_tgs (K:=K) c]
mutual
theorem _h0{K:Y00}{H:Hp}{lim:Nat}{g:Scope}{N:List Str}{all:Bool}{Ψ:St->Prop}(y:∀u i v,i<lim->Ψ u->Ψ (u.set i (some v))):∀(t:ITg){e:Expr} {mv:MV} {v:V} {l:Sm} {u:St} {P:Sm->Prop} {Q:St->Hp->Prop},Z8C g N lim all t e=true->
  RM K H mv v->RS K H l u->Ψ u->wTg t mv l P->(∀j w,P j->RS K H j w->Ψ w->Q w H)->gOf K t v u H Q
 |.nm i,e,mv,v,l,u,P,Q,m,r,rs,ps,h,hq=>by
  obtain⟨x,p,rfl,_,O,_⟩:=_9f m
  exact hq _ _ h (rs.set r i) (y _ _ _ O ps)
 |.tup ts,e,mv,v,l,u,P,Q,m,r,rs,ps,h,hq=>by
  obtain⟨es,k,p,rfl,m⟩:=_7f m
  obtain⟨xs,rfl,h⟩:=h
  obtain⟨_,_,rfl,h1,L⟩:=r.inv
  exact⟨_,_,rfl,SqT.of h1,by rw[<-L.length];exact RMs.len_tgs (K:=K) h,tgs_ok y ts m L rs ps h hq⟩
theorem tgs_ok{K:Y00}{H:Hp}{lim:Nat}{g:Scope}{N:List Str}{all:Bool}{Ψ:St->Prop}(y:∀u i v,i<lim->Ψ u->Ψ (u.set i (some v))):∀(t:ITgs){es:List Expr} {z:List MV} {vs:List V} {l:Sm} {u:St} {P:Sm->Prop} {Q:St->Hp->Prop},chkTgs g N lim all t es=true->
  RMs K H z vs->RS K H l u->Ψ u->wTgs t z l P->(∀j w,P j->RS K H j w->Ψ w->Q w H)->gsOf K t vs u H Q
 |.nil,es,z,vs,l,u,P,Q,m,r,rs,ps,h,hq=>by
  obtain⟨rfl,h⟩:=h
  obtain rfl:=r.inv
  rw[gsOf]
  exact⟨rfl,hq _ _ h rs ps⟩
 |.cons t ts,es,z,vs,l,u,P,Q,m,r,rs,ps,h,hq=>by
  obtain⟨e,es,rfl,d,c⟩:=_7M m
  obtain⟨x,U,rfl,h⟩:=h
  obtain⟨_,_,rfl,R,T⟩:=r.inv
  rw[gsOf]
  exact⟨_,_,rfl,_h0 y t d R rs ps h λj w h' f q=>tgs_ok y ts c T f q h' hq⟩
end
end L2
namespace L2
open PySem PySem.Spec PyProof.Rows
theorem _mJ{K:Y00}{u:List Nat}(y:RS K H σm σ):RS K H (sCm own u σm) (sC own u σ):=by
 refine⟨by simp[sCm,sC],λi m e=>?_⟩
 unfold sCm at e
 unfold sC
 by_cases hi:i<own.length
 .rw[Y0H (by simpa using hi),Y08]at e
  cases q:own[i]? with
  |none=>rw[q]at e;cases e
  |some z=>rw[q]at e;cases e
 .rw[Y0C (by simpa using hi),Y01,Y08]at e
  rw[Y0C (by simpa using hi),Y01,Y08]
  cases q:u[i - own.length]? with
  |none=>rw[q]at e;cases e
  |some j=>
   rw[q]at e
   have l:σm.getD j none=some m:=Y0z e
   have g:σm[j]?=some (some m):=by
    rw[Y0N]at l
    cases w:σm[j]? with
    |none=>rw[w]at l;cases l
    |some o=>rw[w]at l;rw[show o=some m from l]
   obtain⟨v,d,r⟩:=y.2 j m g
   refine⟨v,?_,r⟩
   show some (σ.getD j none)=_
   rw[Y0N,d]
   rfl
theorem _hu{l:List Nat}(u:i<own.length)(k:Keep (sC own l σ) σ'):Keep (sC own l σ) (σ'.set i (some v)):=by
 refine⟨by rw[List.length_set];exact k.1,λj w h=>?_⟩
 by_cases hij:i=j
 .subst hij
  exfalso
  unfold sC at h
  rw[Y0H (by simpa using u),Y08]at h
  cases q:own[i]? with
  |none=>rw[q]at h;cases h
  |some z=>rw[q]at h;cases h
 .rw[Y2d,if_neg hij]
  exact k.2 j w h
theorem _dV{y:Expr}(h:ZfM y=true):ZgS y:=by
 intro o i
 cases y<;>first|rfl|cases h
theorem _bl{j:Expr}(h:Zc9 j=true)(l:Env):∀x,foldedSetIterable j l x=pure x:=by
 intro x
 cases j<;>first|rfl|cases h
theorem Cok.comp(c:Cok X G Φ){j:List Nat}(l:scope.kind=.function)(u:(nC own j X.N).Nodup):Cok (cxC X scope own j C fp s₃ H₃) G Φ:=
 ⟨c.room,c.calm,rfl,(by show(if scope.kind.isAnnotationScope then Y3Q else scope.kind)=.function;rw[l];rfl),u,c.bls,c.gls,c.gds,c.fnn,c.mon,c.fns,c.mts,c.mks,c.cls⟩
def ttOf(K:Y00)(j:List (Str×SpM)):IO->TT
 |.none=>tAll
 |.some e=>liT K (wE j e)
theorem _ct{X:Cx}{p:List (Str×SpM)}(L:∀(j:Nat)f sp,p[j]?=some (f,sp)->MonW sp){own:List Str} {fr:List Nat} {O:ISr} {tg:ITg} {u:IO} {w:IE} {sc:Scope} {N:List Str} {t:Expr}
  (h5:Z8C sc N own.length false tg t=true){σ:St} {H:Hp} {Q:VK} (hw:liE X.K (wE p (.comp own fr O tg u w)) σ H Q):Zfb own fr (liSr X (wSr p O)) (gOf X.K tg) (ttOf X.K p u) (liE X.K (wE p w)) σ H (λv P=>∃W,Thw X P W/\Q v W):=by
 obtain⟨σm,M,rs,rh,hw⟩:=hw
 refine⟨σm,M,rs,rh,mon_sr L O (λS M1 ⟨hz,q⟩=>?_) hw⟩
 intro J H1 k1 Y Z D hD
 obtain⟨Jm,j0,j1,j2,j3⟩:=q D (Y.free hD)
 refine⟨λi m ys W=>m=S.len - i/\i<=S.len/\Kp H1 W/\∃l M2,RH X.K M2 W/\Jm i l M2,⟨S.len,rfl,Y1e _,Kp.new hD _,[],_,Y.put (Kp.new hD (.lst [])) (o:=.lst []) RMs.nil,j0⟩,?_⟩
 rintro i m ys W ⟨rfl,hi,A,l,M2,g,hj⟩
 obtain⟨d1,d2,d3⟩:=j1 i l M2 hj
 obtain⟨B,R⟩:=_dO Z A g d3
 by_cases hlt:i<S.len
 .obtain⟨go,yld⟩:=B i hlt
  refine .inr ⟨go,λys' P=>Kp H1 P/\∃l T,RH X.K T P/\Jm (i+1) l T,λys' P ⟨a,C,T,b,c⟩=>⟨S.len - (i+1),by lia,rfl,hlt,a,C,T,b,c⟩,λx H3 y=>?_⟩
  obtain⟨e3,m,hm,rm⟩:=yld x H3 y
  subst e3
  have ht:=j2 i m l M2 hm hj
  refine _h0 (Ψ:=Keep (sC own fr σ)) (lim:=own.length) (λE i v hi k=>_hu hi k) tg h5 rm (_mJ (rs.mono (k1.trans A))) ⟨rfl,λ_ _ h=>h⟩ ht λz E hP F keep=>⟨keep,?_⟩
  have r:∀{G:MH} {I:Hp},Kp H3 I->RH X.K G I->(wE p w z G λy M5=>M5 D=some (.lst l)/\Jm (i+1) (l++[y]) (updM M5 D (.lst (l++[y]))))->
    liE X.K (wE p w) E I λy H6=>∃U,H6 D=some (.lst U)/\U.length<sizeLine/\Kp H1 (upd H6 D (.lst (U++[y])))/\∃l T,RH X.K T (upd H6 D (.lst (U++[y])))/\Jm (i+1) l T:=fun{G I} s d q=>by
   refine⟨z,G,F.mono s,d,_07 L w (λy M5 ⟨hd,hj'⟩=>?_) q⟩
   intro v H6 k6 r6 n
   obtain⟨U,e,rz⟩:=n.lst hd
   have ku:=Kp.upd e rfl (.lst (U++[v]))
   exact⟨U,e,by rw[<-rz.length];lia,A.trans (s.trans (k6.trans ku)),_,_,n.put ku (o:=.lst (l++[y])) ((rz.append (.cons r6 .nil)).mono ku),hj'⟩
  cases u with
  |none=>
   rw[wI]at hP
   rw[if_pos rfl]at hP
   rw[ttOf]
   refine _mr ?_
   dsimp only
   rw[if_pos rfl]
   exact r (Kp.refl _) g hP
  |some e=>
   refine⟨z,M2,F,g,_07 L e (λv G ⟨b,eb,q⟩=>⟨b,eb,λI s d=>_1x (λq=>r s d q) (λq=>⟨A.trans s,_,_,d,q⟩) q⟩) hP⟩
 .refine .inl ⟨R i (by lia),?_⟩
  have e:i=S.len:=by lia
  subst e
  obtain⟨P,th,k3,rh3⟩:=_aX Z g (_if d3)
  exact⟨P,th,j3 l M2 hj _ _ (k1.trans (A.trans k3)) (.ref D) rh3⟩
theorem _ef{K:Y00}{r:List (Str×SpM)}(l:∀(j:Nat)f W,r[j]?=some (f,W)->MonW W){op g:CmpOp} {a b d:IE} {Y:St} {H:Hp} {Q:VK} (hw:liE K (wE r (.chn op g a b d)) Y H Q):
  Zfc (li2 K (wCmp op)) (li2 K (wCmp g)) (liE K (wE r a)) (liE K (wE r b)) (liE K (wE r d)) Y H Q:=by
 obtain⟨c,M,P,B,hw⟩:=hw
 rw[_kz]at hw
 refine⟨c,M,P,B,_07 l a (λx M1 C=>?_) hw⟩
 intro v s L D R
 refine⟨c,M1,P.mono L,R,_07 l b (λy M2 E=>?_) C⟩
 intro u i N Z T
 refine⟨x,y,M2,D.mono N,Z,T,_79 op (λz F ⟨k,e,G⟩=>?_) E⟩
 subst e
 intro z n O I p
 obtain rfl:=I.inv
 refine⟨k,rfl,_1x (λq=>?_) (λq=>?_) G⟩
 .refine⟨c,F,P.mono (L.trans (N.trans O)),p,_07 l d (λw J S=>?_) q⟩
  intro h H4 A X U
  exact⟨y,w,J,Z.mono (O.trans A),X,U,_79 g (λm M' o=>o.on (L.trans (N.trans (O.trans A)))) S⟩
 .exact q _ _ (L.trans (N.trans O)) (.bl _) p
def trOf(K:Y00)(j:List (Str×SpM)):IPs->List (TE×TE)
 |.nil=>[]
 |.cons k v r=>(liE K (wE j k),liE K (wE j v))::trOf K j r
noncomputable def aob:IE->Bool
 |.and ..=>true
 |.or ..=>true
 |_=>false
structure Snd (X:Cx)(Φ:List (Str×SpM))(ie:IE)(e:Expr):Prop where
 pe:PE X e (liE X.K (wE Φ ie))
 pt:tok ie=true->PT X e (liT X.K (wE Φ ie))
 pw:tok ie=true->aob ie=true->PW X e (liT X.K (wE Φ ie))
theorem Snd.plain(c:Cok X G Φ)(l:PE X e (liE X.K (wE Φ ie)))(u:∀j,isTrue e X.env j=(do let v<- j;standAt e.pos;holding [v] (truthy v)))(w:aob ie=false):Snd X Φ ie e:=
 ⟨l,λ_=>(_ln l u).weak λy H Q h=>_bf (t:=wE Φ ie) (_07 c.mon ie) h,λ_ h=>by rw[w]at h;cases h⟩
theorem _mn(f:BI):(∃n,f.val=.builtin n)\/∃n,f.val=.type n:=by cases f<;>first|exact .inl ⟨_,rfl⟩|exact .inr ⟨_,rfl⟩
theorem _mm{G:GI}{b:IE}{j:Scope}{N:List Str}{op:BoolOp}{l:List Expr}{p:Pos}(h:chkE G b j N (.BoolOp op l p)=true):aob b=true:=by revert h;cases b<;>first|exact λ_=>rfl|exact nob
mutual
theorem sE{G:GI}{Φ:List (Str×SpM)}:∀(ie:IE){X:Cx} {e:Expr},Cok X G Φ->chkE G ie X.env.scope X.N e=true->Snd X Φ ie e
 |.var i,X,e,c,h=>by
  obtain⟨x,p,rfl,h1,h2,h3,h4⟩:=_jP h
  refine .plain c ?_ (λ_=>rfl) rfl
  refine(_ic h1 (_kE h2) h3 h4).weak λO H Q hw=>?_
  obtain⟨L,M,rs,P,hw⟩:=hw
  rw[_kx]at hw
  obtain⟨v,e,q⟩:=hw
  obtain⟨u,hu,r⟩:=rs.2 i v e
  exact⟨u,hu,q _ _ (Kp.refl _) r P⟩
 |.int i,X,e,c,h=>by
  obtain⟨k,p,rfl⟩:=_jY h
  refine .plain c ?_ (λ_=>rfl) rfl
  refine pe_int.weak λO H Q hw=>?_
  obtain⟨L,M,rs,P,hw⟩:=hw
  exact hw _ _ (Kp.refl _) (.int i) P
 |.str i,X,e,c,h=>by
  obtain⟨k,p,rfl⟩:=_jR h
  refine .plain c ?_ (λ_=>rfl) rfl
  refine pe_str.weak λO H Q hw=>?_
  obtain⟨L,M,rs,P,hw⟩:=hw
  exact hw _ _ (Kp.refl _) (.str i) P
 |.bl i,X,e,c,h=>by
  obtain⟨k,p,rfl⟩:=_m8 h
  refine .plain c ?_ (λ_=>rfl) rfl
  refine pe_bl.weak λO H Q hw=>?_
  obtain⟨L,M,rs,P,hw⟩:=hw
  exact hw _ _ (Kp.refl _) (.bl i) P
 |.non,X,e,c,h=>by
  obtain⟨k,p,rfl⟩:=_jV h
  refine .plain c ?_ (λ_=>rfl) rfl
  refine pe_non.weak λO H Q hw=>?_
  obtain⟨L,M,rs,P,hw⟩:=hw
  exact hw _ _ (Kp.refl _) .non P
 |.glb x i,X,e,c,h=>by
  obtain⟨p,rfl,h1,h2⟩:=_jZ h
  obtain⟨g1,g2,g3⟩:=_a7 h2
  obtain⟨tk,hm⟩:=c.gls x i h1
  refine .plain c ?_ (λ_=>rfl) rfl
  refine(_db (v:=.int i) g1 hm ⟨tk,rfl⟩ g2).weak λO H Q hw=>?_
  obtain⟨L,M,rs,P,hw⟩:=hw
  exact hw _ _ (Kp.refl _) (.int i) P
 |.ty t,X,e,c,h=>by
  obtain⟨p,rfl,h0,h1,h2⟩:=_m3 h
  obtain⟨g1,g2,g3⟩:=_a7 h2
  refine .plain c ?_ (λ_=>rfl) rfl
  refine(_jk (v:=.ty t.name) g1 (c.bls _ h1) (_kl h0) rfl g3 g2).weak λO H Q hw=>?_
  obtain⟨L,M,rs,P,hw⟩:=hw
  exact hw _ _ (Kp.refl _) (.ty t) P
 |.bin op a b,X,e,c,h=>by
  obtain⟨l,r,p,rfl,h1,h2⟩:=_k4 h
  refine .plain c ?_ (λ_=>rfl) rfl
  refine(_nD (_lI op) (sE a c h1).pe (sE b c h2).pe).weak λO H Q hw=>?_
  have:wE Φ (.bin op a b)=λO M Q=>wE Φ a O M λx M1=>wE Φ b O M1 λy M2=>wBin op x y M2 Q:=rfl
  rw[this]at hw
  exact _jI (z:=wE Φ a) (g:=wE Φ b) (w:=wBin op) (_07 c.mon a) (_07 c.mon b) (_fS op) hw
 |.neg a,X,e,c,h=>by
  obtain⟨l,p,rfl,h1⟩:=_jW h
  refine .plain c ?_ (λ_=>rfl) rfl
  refine(_nB _kF (sE a c h1).pe).weak λO H Q hw=>?_
  obtain⟨L,M,rs,P,hw⟩:=hw
  refine⟨L,M,rs,P,_07 c.mon a (λx M1 ⟨i,e,q⟩=>?_) hw⟩
  subst e
  intro v W T U N
  obtain rfl:=U.inv
  exact⟨i,rfl,q _ _ T (.int _) N⟩
 |.not a,X,e,c,h=>by
  obtain⟨l,p,rfl,h1⟩:=_jU h
  have ih:=sE a c h1
  refine⟨(_lw ih.pe).weak λO H Q hw=>?_,λZ=>(_lo (ih.pt Z)).weak λO H Q hw=>?_,λ_ z=>by cases z⟩
  .obtain⟨L,M,rs,P,hw⟩:=hw
   rw[_iK]at hw
   refine⟨L,M,rs,P,_07 c.mon a (λx M1 ⟨i,e,q⟩=>?_) hw⟩
   subst e
   intro v W T U N
   obtain rfl:=U.inv
   exact⟨i,rfl,q _ _ T (.bl _) N⟩
  .obtain⟨L,M,rs,P,hw⟩:=hw
   rw[_iK]at hw
   refine⟨L,M,rs,P,_07 c.mon a (λx M1 ⟨i,e,b,e2,q⟩=>⟨i,e,λH' k rh'=>?_⟩) hw⟩
   cases e2
   exact q H' k rh'
 |.cmp op a b,X,e,c,h=>by
  obtain⟨l,r,p,rfl,h1,h2,h3⟩:=_k2 h
  have rd:∀O H Q,liE X.K (wE Φ (.cmp op a b)) O H Q->tOp (li2 X.K (wCmp op)) (liE X.K (wE Φ a)) (liE X.K (wE Φ b)) O H Q:=λO H Q hw=>by
   have:wE Φ (.cmp op a b)=λO M Q=>wE Φ a O M λx M1=>wE Φ b O M1 λy M2=>wCmp op x y M2 Q:=rfl
   rw[this]at hw
   exact _jI (z:=wE Φ a) (g:=wE Φ b) (w:=wCmp op) (_07 c.mon a) (_07 c.mon b) (_79 op) hw
  refine⟨(_fG (_an c.room op) (sE a c h1).pe (sE b c h2).pe h3).weak rd,λ_=>(_fB (_an c.room op) (sE a c h1).pe (sE b c h2).pe h3).weak λO H Q hw=>?_,λ_ z=>by cases z⟩
  exact rd O H _ (_bf (t:=wE Φ (.cmp op a b)) (_07 c.mon _) hw)
 |.chn op op' a b d,X,e,c,h=>by
  obtain⟨l,m,r,p,rfl,h1,h2,h3,h4⟩:=_k3 h
  refine⟨(_hg (_an c.room op) (_an c.room op') (sE a c h1).pe (sE b c h2).pe (sE d c h3).pe h4).weak λO H Q hw=>_ef c.mon hw,
   λ_=>(_h7 (_an c.room op) (_an c.room op') (sE a c h1).pe (sE b c h2).pe (sE d c h3).pe h4).weak λO H Q hw=>?_,λ_ z=>by cases z⟩
  exact _ef c.mon (_bf (t:=wE Φ (.chn op op' a b d)) (_07 c.mon _) hw)
 |.and a b,X,e,c,h=>by
  obtain⟨l,r,rest,p,rfl,h1,h2⟩:=_k5 h
  have ih:=sE a c h1
  have hb:PE X (.BoolOp .And (r::rest) p) (liE X.K (wE Φ b)):=by
   rcases h2 with⟨rfl,h2⟩|h2
   .exact _id (sE b c h2).pe
   .exact(sE b c h2).pe
  have hw':tok (.and a b)=true->PW X (.BoolOp .And (l::r::rest) p) (liT X.K (wE Φ (.and a b))):=λZ=>by
   have Z:(tok a&&tok b)=true:=Z
   rw[Y0r]at Z
   have hb2:PW X (.BoolOp .And (r::rest) p) (liT X.K (wE Φ b)):=by
    rcases h2 with⟨rfl,h2⟩|h2
    .exact pw_and1 ((sE b c h2).pt Z.2)
    .refine(sE b c h2).pw Z.2 ?_
     exact _mm h2
   refine(pw_and (ih.pt Z.1) hb2).weak λO H Q hw=>?_
   obtain⟨L,M,rs,P,hw⟩:=hw
   rw[_iL]at hw
   refine⟨L,M,rs,P,_07 c.mon a (λx M1 ⟨k,e,q⟩=>⟨k,e,λW T N=>?_⟩) hw⟩
   refine _1x (λq=>⟨L,M1,rs.mono T,N,_ip (t:=wE Φ b) (_07 c.mon b) T q⟩) (λq=>let⟨b,e,q⟩:=q;MV.noConfusion e λeb=>eb▸q W T N) q
  refine⟨(_lA ih.pe hb).weak λO H Q hw=>?_,λZ=>(hw' Z).pt,λZ _=>hw' Z⟩
  obtain⟨L,M,rs,P,hw⟩:=hw
  rw[_iL]at hw
  refine⟨L,M,rs,P,_07 c.mon a (λx M1 ⟨k,e,q⟩=>?_) hw⟩
  subst e
  intro v W T U N
  obtain rfl:=U.inv
  refine⟨k,rfl,_1x (λq=>⟨L,M1,rs.mono T,N,_07 c.mon b (λm M' S=>S.on T) q⟩) (λq=>q _ _ T (.bl _) N) q⟩
 |.or a b,X,e,c,h=>by
  obtain⟨l,r,rest,p,rfl,h1,h2⟩:=_m5 h
  have ih:=sE a c h1
  have hb:PE X (.BoolOp .Or (r::rest) p) (liE X.K (wE Φ b)):=by
   rcases h2 with⟨rfl,h2⟩|h2
   .exact _id (sE b c h2).pe
   .exact(sE b c h2).pe
  have hw':tok (.or a b)=true->PW X (.BoolOp .Or (l::r::rest) p) (liT X.K (wE Φ (.or a b))):=λZ=>by
   have Z:(tok a&&tok b)=true:=Z
   rw[Y0r]at Z
   have hb2:PW X (.BoolOp .Or (r::rest) p) (liT X.K (wE Φ b)):=by
    rcases h2 with⟨rfl,h2⟩|h2
    .exact pw_or1 ((sE b c h2).pt Z.2)
    .refine(sE b c h2).pw Z.2 ?_
     exact _mm h2
   refine(pw_or (ih.pt Z.1) hb2).weak λO H Q hw=>?_
   obtain⟨L,M,rs,P,hw⟩:=hw
   rw[x_or]at hw
   refine⟨L,M,rs,P,_07 c.mon a (λx M1 ⟨k,e,q⟩=>⟨k,e,λW T N=>?_⟩) hw⟩
   refine _1x (λq=>let⟨b,e,q⟩:=q;MV.noConfusion e λeb=>eb▸q W T N) (λq=>⟨L,M1,rs.mono T,N,_ip (t:=wE Φ b) (_07 c.mon b) T q⟩) q
  refine⟨(_nC ih.pe hb).weak λO H Q hw=>?_,λZ=>(hw' Z).pt,λZ _=>hw' Z⟩
  obtain⟨L,M,rs,P,hw⟩:=hw
  rw[x_or]at hw
  refine⟨L,M,rs,P,_07 c.mon a (λx M1 ⟨k,e,q⟩=>?_) hw⟩
  subst e
  intro v W T U N
  obtain rfl:=U.inv
  refine⟨k,rfl,_1x (λq=>q _ _ T (.bl _) N) (λq=>⟨L,M1,rs.mono T,N,_07 c.mon b (λm M' S=>S.on T) q⟩) q⟩
 |.ife d a b,X,e,c,h=>absurd h Y05
 |.tup es,X,e,c,h=>by
  obtain⟨xs,k,p,rfl,h1⟩:=_jQ h
  refine .plain c ?_ (λ_=>rfl) rfl
  refine(_lv (sA es c h1)).weak λO H Q hw=>?_
  obtain⟨L,M,rs,P,hw⟩:=hw
  refine⟨L,M,rs,P,mon_es c.mon es (λms M1 ⟨hz,q⟩=>?_) hw⟩
  intro vs W T U N
  refine⟨by rw[<-U.length];exact hz,λp hp=>?_⟩
  have Y:=Kp.new hp (.tup vs)
  exact q _ _ (T.trans Y) (.tup _2R (U.mono Y)) (N.kept hp _)
 |.lst es,X,e,c,h=>by
  obtain⟨xs,p,rfl,h1⟩:=_jX h
  refine .plain c ?_ (λ_=>rfl) rfl
  refine(_lx (sA es c h1)).weak λO H Q hw=>?_
  obtain⟨L,M,rs,P,hw⟩:=hw
  refine⟨L,M,rs,P,mon_es c.mon es (λms M1 ⟨hz,q⟩=>?_) hw⟩
  intro vs W T U N
  refine⟨by rw[<-U.length];exact hz,λp hp=>?_⟩
  have Y:=Kp.new hp (.lst vs)
  exact q p (N.free hp) _ _ (T.trans Y) (.ref p) (N.put Y (U.mono Y))
 |.dic,X,e,c,h=>absurd h Y05
 |.ix a b,X,e,c,h=>by
  obtain⟨l,r,p,rfl,h1,h2,h3⟩:=_m7 h
  refine .plain c ?_ (λ_=>rfl) rfl
  refine(_nE (_m1 (by have:=c.room;lia)) (sE a c h1).pe (sE b c h2).pe (_dV h3)).weak λO H Q hw=>?_
  have:wE Φ (.ix a b)=λO M Q=>wE Φ a O M λx M1=>wE Φ b O M1 λy M2=>wIx x y M2 Q:=rfl
  rw[this]at hw
  exact _jI (z:=wE Φ a) (g:=wE Φ b) (w:=wIx) (_07 c.mon a) (_07 c.mon b) _ij hw
 |.sl a lo hi,X,e,c,h=>by
  obtain⟨x,l,u,p,J,rfl,h1,h2,h3⟩:=_m4 h
  refine .plain c ?_ (λ_=>rfl) rfl
  refine(_he _kM (sE a c h1).pe (sO lo c h2) (sO hi c h3)).weak λO H Q hw=>?_
  obtain⟨L,M,rs,P,hw⟩:=hw
  refine⟨L,M,rs,P,_07 c.mon a (λx M1 A=>?_) hw⟩
  intro v W T U N
  refine⟨L,M1,rs.mono T,N,mon_o c.mon lo (λl M2 q2=>?_) A⟩
  intro H2 Y rh2
  refine⟨L,M2,rs.mono (T.trans Y),rh2,mon_o c.mon hi (λu M3 q3=>?_) q2⟩
  intro H3 k3 rh3
  exact⟨x,M3,U.mono (Y.trans k3),rh3,_ii (λm M' S=>S.on (T.trans (Y.trans k3))) q3⟩
 |.call j a es,X,e,c,h=>by
  obtain⟨f,p,x,xs,J,rfl,h1,h2,h3,h4⟩:=_hx h
  obtain⟨g1,g2,g3⟩:=_a7 h2
  obtain⟨sp,hj⟩:=c.fnn j f h1
  obtain⟨k,fa,fd,ps,hr,F,hm,hk,hb⟩:=c.fns j f sp h1 hj
  have ha:PA X (x::xs) (Zfa (liE X.K (wE Φ a)) (liA X.K (wEs Φ es))):=_8T (sE a c h3).pe (sA es c h4) (_0Z h3)
  refine .plain c ?_ (λ_=>rfl) rfl
  refine(_jj (E:=E0) F hr g1 hm hk hb .nil _nG ha g2 (_0Z h3) (_6W (_55 (l:=J) h4)).2).weak λO H Q hw=>?_
  obtain⟨L,M,rs,P,hw⟩:=hw
  rw[_hX]at hw
  refine⟨L,M,rs,P,_07 c.mon a (λv M1 A=>?_) hw⟩
  intro u W T U N
  refine⟨L,M1,rs.mono T,N,mon_es c.mon es (λvs M2 ⟨f',sp',e,q2⟩=>?_) A⟩
  rw[hj]at e
  cases e
  intro us H2 Y r2 rh2
  refine⟨v::vs,M2,?_,rh2,c.mon j f sp hj (λm M' S=>S.on (T.trans Y)) q2⟩
  rw[Y18]
  exact .cons (U.mono Y) r2
 |.bi f a es,X,e,c,h=>by
  obtain⟨p,x,xs,J,rfl,h1,h2,h3,h4⟩:=_m9 h
  obtain⟨g1,g2,g3⟩:=_a7 h2
  have ha:PA X (x::xs) (Zfa (liE X.K (wE Φ a)) (liA X.K (wEs Φ es))):=_8T (sE a c h3).pe (sA es c h4) (_0Z h3)
  have hv:=_km f
  have hcall:=_kj (X:=X) c.calm f
  have hp:PE X (.Call (.Name (f.name:Str) p) (x::xs) [] J) (tCB (liW X.K (wBi f)) (Zfa (liE X.K (wE Φ a)) (liA X.K (wEs Φ es)))):=by
   rcases _mn f with⟨n,hf⟩|⟨n,hf⟩<;>rw[hf]at hv hcall
   .exact _hh hcall g1 (c.bls _ h1) hv ha g3 g2 (_0Z h3) (_6W (_55 (l:=J) h4)).2
   .exact _fH hcall g1 (c.bls _ h1) hv ha g3 g2 (_0Z h3) (_6W (_55 (l:=J) h4)).2
  refine .plain c ?_ (λ_=>rfl) rfl
  refine hp.weak λO H Q hw=>?_
  obtain⟨L,M,rs,P,hw⟩:=hw
  refine⟨L,M,rs,P,_07 c.mon a (λv M1 A=>?_) hw⟩
  intro u W T U N
  refine⟨L,M1,rs.mono T,N,mon_es c.mon es (λvs M2 q2=>?_) A⟩
  intro us H2 Y r2 rh2
  exact⟨v::vs,M2,.cons (U.mono Y) r2,rh2,_im f (λm M' S=>S.on (T.trans Y)) q2⟩
 |.b2 f a,X,e,c,h=>by
  obtain⟨p,p',x,J,p2',rfl,h1,h2,h3,h4,h5⟩:=_ma h
  obtain⟨g1,g2,g3⟩:=_a7 h3
  obtain⟨T,Y,k3⟩:=_a7 h4
  have hv:bootBuiltins (f.out:Str)=some f.outV:=by cases f<;>decide+kernel
  have hv':bootBuiltins (f.inn:Str)=some (.type f.inn):=by cases f<;>decide+kernel
  have hp:PE X (.Call (.Name (f.out:Str) p) [.Call (.Name (f.inn:Str) p') [x] [] p2'] [] J) (λO H Q=>liE X.K (wE Φ a) O H λv W=>li1 X.K (wB2 f) v W Q):=by
   have hc:=_kk (X:=X) c.calm f
   cases f with
   |lrng=>exact _fI (p:=p) (L:=p') (l:=J) (j:=p2') hc g1 (c.bls _ h1) hv T (c.bls _ h2) hv' (sE a c h5).pe g3 g2 k3 Y (_0Z h5)
   |ssrt=>exact _b7 (p:=p) (L:=p') (l:=J) (j:=p2') hc g1 (c.bls _ h1) hv T (c.bls _ h2) hv' (sE a c h5).pe g3 g2 k3 Y (_0Z h5)
   |lset=>exact _b7 (p:=p) (L:=p') (l:=J) (j:=p2') hc g1 (c.bls _ h1) hv T (c.bls _ h2) hv' (sE a c h5).pe g3 g2 k3 Y (_0Z h5)
   |tset=>exact _b7 (p:=p) (L:=p') (l:=J) (j:=p2') hc g1 (c.bls _ h1) hv T (c.bls _ h2) hv' (sE a c h5).pe g3 g2 k3 Y (_0Z h5)
  refine .plain c ?_ (λ_=>rfl) rfl
  refine hp.weak λO H Q hw=>?_
  obtain⟨L,M,rs,P,hw⟩:=hw
  refine⟨L,M,rs,P,_07 c.mon a (λv M1 A=>?_) hw⟩
  intro u W T U N
  exact⟨v,M1,U,N,_in f (λm M' S=>S.on T) A⟩
 |.st3 a,X,e,c,h=>absurd h Y05
 |.gin x kvs a,X,e,c,h=>by
  obtain⟨l,J,p,rfl,h1,h2,h3,h4⟩:=_k1 h
  obtain⟨g1,g2,g3⟩:=_a7 h2
  obtain⟨ad,hm,gd⟩:=c.gds x kvs h1
  have rd:∀O H Q,liE X.K (wE Φ (.gin x kvs a)) O H Q->tOp (rGin ad kvs) (liE X.K (wE Φ a)) (tC (.ref ad)) O H Q:=λO H Q hw=>by
   obtain⟨L,M,rs,P,hw⟩:=hw
   refine⟨L,M,rs,P,_07 c.mon a (λx M1 ⟨z,e,q⟩=>?_) hw⟩
   subst e
   intro v W T U N
   obtain rfl:=U.inv
   exact⟨z,rfl,rfl,q _ _ T (.bl _) N⟩
  refine⟨(_fG (_ie gd) (sE a c h3).pe (_db (v:=.ref ad) g1 hm rfl g2) h4).weak rd,λ_=>(_fB (_ie gd) (sE a c h3).pe (_db (v:=.ref ad) g1 hm rfl g2) h4).weak λO H Q hw=>?_,λ_ z=>by cases z⟩
  exact rd O H _ (_bf (t:=wE Φ (.gin x kvs a)) (_07 c.mon _) hw)
 |.gix x kvs a,X,e,c,h=>by
  obtain⟨y,J,p,rfl,h1,h2,h3,h4⟩:=_k0 h
  obtain⟨g1,g2,g3⟩:=_a7 h2
  obtain⟨ad,hm,gd⟩:=c.gds x kvs h1
  refine .plain c ?_ (λ_=>rfl) rfl
  refine(_ly (sE a c h3).pe g1 hm gd g2 (_dV h4)).weak λO H Q hw=>?_
  obtain⟨L,M,rs,P,hw⟩:=hw
  refine⟨L,M,rs,P,_07 c.mon a (λv M1 ⟨z,n,e,l,q⟩=>?_) hw⟩
  subst e
  intro u W T U N
  obtain rfl:=U.inv
  exact⟨z,n,rfl,l,q _ _ T (.int _) N⟩
 |.mxd a,X,e,c,h=>absurd h Y05
 |.mt m o es,X,e,c,h=>by
  obtain⟨ob,ap,args,cp,rfl,h1,h2,h3,h4⟩:=_m6 h
  have slot:PySem.Slot m.ty (m.name:Str) m.id/\typeOf (.builtin m.id)=pure (.type "method_descriptor"):=by
   cases m
   .exact⟨PySem.F.slot_list_append,PySem.F.type_list_append⟩
   .exact⟨PySem.F.slot_list_extend,PySem.F.type_list_extend⟩
   .exact⟨PySem.F.slot_list_pop,PySem.F.type_list_pop⟩
   .exact⟨Y3r,PySem.F.type_str_join⟩
   .exact⟨PySem.F.slot_str_split,PySem.F.type_str_split⟩
   .exact⟨PySem.F.slot_str_startswith,PySem.F.type_str_startswith⟩
  have plain:PlainAttrs m.ty:=by
   cases m<;>first|exact PySem.F.plainAttrs_list|exact PySem.F.plainAttrs_dict|exact PySem.F.plainAttrs_str
  have hu1:X.A.units+1<cLine:=by have:=c.room;lia
  have tyL:∀{W:Hp} {M1:MH} {mx:MV} {v:V},RH X.K M1 W->RM X.K W mx v->mtOk m mx M1->tyV X.K m.ty v W:=by
   intro W M1 mx v P r hm
   cases m
   case join|split|starts=>
    obtain⟨z,rfl⟩:=hm
    obtain rfl:=r.inv
    exact rfl
   all_goals
    obtain⟨a,xs,rfl,hm⟩:=hm
    obtain rfl:=r.inv
    obtain⟨vs,e,_⟩:=P.lst hm
    exact .inl ⟨rfl,vs,SqL.of e⟩
  refine .plain c ?_ (λ_=>rfl) rfl
  cases args with
  |nil=>
   refine(_lz plain slot.1 slot.2 (_ih hu1 m) (sE o c h2).pe (_cS h2) h1).weak λO H Q hw=>?_
   obtain⟨L,M,rs,P,hw⟩:=hw
   refine⟨L,M,rs,P,_07 c.mon o (λv M1 ⟨q0,A⟩=>?_) hw⟩
   intro u W T U N
   cases es with
   |cons _ _=>exact absurd h3 Y05
   |nil=>
    exact⟨tyL N U q0,v,[],M1,U,.nil,N,_fR (λm M' S=>S.on T) A⟩
  |cons x xs=>
   cases es with
   |nil=>cases _aF h3
   |cons a es=>
    have h3':=h3
    obtain⟨x',xs',e',h3⟩:=_9g h3
    cases e'
    have ha:=sA (.cons a es) c h3'
    have hall:=_6W (j:=cp) (_55 (j:=X.env) (l:=cp) h3')
    refine(_nF plain slot.1 slot.2 (_ih hu1 m) (sE o c h2).pe ha (_cS h2) ?_ h1 (_0Z h3.1) (_6W (_55 (l:=cp) h3.2)).2).weak λO H Q hw=>?_
    .rw[hall.1]
     simp only[Y3O,Y0r,decide_eq_true_eq]
     refine⟨rfl,?_⟩
     simp at h4 ⊢
     lia
    obtain⟨L,M,rs,P,hw⟩:=hw
    refine⟨L,M,rs,P,_07 c.mon o (λv M1 ⟨q0,A⟩=>?_) hw⟩
    intro u W T U N
    refine⟨tyL N U q0,L,M1,rs.mono T,N,mon_es c.mon (.cons a es) (λvs M2 q2=>?_) A⟩
    intro us H2 Y r2 rh2
    exact⟨v,vs,M2,U.mono Y,r2,rh2,_fR (λm M' S=>S.on (T.trans Y)) q2⟩
 |.comp own fr src tg test elt,X,e,c,h=>by
  obtain⟨x,t,it,ifs,scope,p,rfl,h1,h2,h3,h4,h5,h6,h7⟩:=_e7 h
  refine .plain c ?_ (λ_=>rfl) rfl
  refine(_hf own fr (g:=gOf X.K tg) (te:=liE X.K (wE Φ elt)) (λe s h=>by rw[c.nox]at h;exact h) c.calm h1 (sSr src (tg:=t) c h4) (λC fp B D=>sTg (X:=cxC X scope own fr C fp B D) (lim:=own.length) (all:=false) c.calm h3 (λz=>by cases z) tg h5) (tt:=ttOf X.K Φ test) (λC fp B D=>sI (X:=cxC X scope own fr C fp B D) test (c.comp (_3A h1).kind h3) h6)
   (λC fp B D=>(sE (X:=cxC X scope own fr C fp B D) elt (c.comp (_3A h1).kind h3) h7).pe) (_bl h2 _)).thaw.weak λO H Q hw=>?_
  exact _ct c.mon h5 hw
 |.fld cn o f,X,e,c,h=>absurd h Y05
 |.mcall j cn m o es,X,e,c,h=>absurd h Y05
 |.make j cn a es,X,e,c,h=>absurd h Y05
 |.disp ps,X,e,c,h=>absurd h Y05
theorem sP:∀(ps:IPs){X:Cx} {pos:Pos} {ks:List (Option Expr)} {vs:List Expr},Cok X G Φ->ZgE G ps X.env.scope X.N ks vs=true->PPs X pos ks vs (trOf X.K Φ ps)
 |.nil,X,pos,ks,vs,c,h=>by
  obtain⟨rfl,rfl⟩:=_eE h
  exact _jb
 |.cons k v r,X,pos,ks,vs,c,h=>by
  obtain⟨x,ks',y,vs',rfl,rfl,h1,h2,h3⟩:=_dv h
  exact _ha (sE k c h1).pe (sE v c h2).pe (sP r c h3)
theorem sA{G:GI}{Φ:List (Str×SpM)}:∀(ies:IEs){X:Cx} {es:List Expr},Cok X G Φ->chkEs G ies X.env.scope X.N es=true->PA X es (liA X.K (wEs Φ ies))
 |.nil,X,es,c,h=>by
  cases es with
  |cons _ _=>cases _aF h
  |nil=>
   refine pa_nil.weak λO H Q hw=>?_
   obtain⟨L,M,rs,P,hw⟩:=hw
   exact hw _ _ (Kp.refl _) .nil P
 |.cons a as,X,es,c,h=>by
  cases es with
  |nil=>cases h
  |cons x xs=>
   obtain⟨x',xs',e',h⟩:=_9g h
   cases e'
   refine(_8T (sE a c h.1).pe (sA as c h.2) (_0Z h.1)).weak λO H Q hw=>?_
   have:wEs Φ (.cons a as)=λO M Q=>wE Φ a O M λv M1=>wEs Φ as O M1 λvs M2=>Q (v::vs) M2:=rfl
   rw[this]at hw
   exact _jJ (te:=wE Φ a) (t:=wEs Φ as) (_07 c.mon a) (mon_es c.mon as) hw
theorem sO{G:GI}{Φ:List (Str×SpM)}:∀(io:IO){X:Cx} {e:Option Expr},Cok X G Φ->chkO G io X.env.scope X.N e=true->PO X e (liO X.K (wO Φ io))
 |.none,X,e,c,h=>by
  cases e with
  |some _=>cases _eG h
  |none=>
   intro pz s O H Q I hw
   refine _je pz s O H Q I ?_
   obtain⟨L,M,rs,P,hw⟩:=hw
   exact hw _ (Kp.refl _) P
 |.some a,X,e,c,h=>by
  cases e with
  |none=>exact absurd h Y05
  |some x=>
   obtain⟨x',e',h⟩:=_eF h
   cases e'
   intro pz s O H Q I hw
   refine _jd (sE a c h).pe pz s O H Q I ?_
   obtain⟨L,M,rs,P,hw⟩:=hw
   refine⟨L,M,rs,P,_07 c.mon a (λv M1 ⟨i,e,q⟩=>?_) hw⟩
   subst e
   intro u W T U N
   obtain rfl:=U.inv
   exact⟨i,rfl,q W T N⟩
theorem sI{G:GI}{Φ:List (Str×SpM)}:∀(io:IO){X:Cx} {es:List Expr},Cok X G Φ->chkI G io X.env.scope X.N es=true->PTs X es (ttOf X.K Φ io)
 |.none,X,es,c,h=>by
  cases es with
  |cons _ _=>cases _eI h
  |nil=>exact .inl ⟨rfl,rfl⟩
 |.some a,X,es,c,h=>by
  obtain⟨x,rfl,h1,h2⟩:=_eH h
  exact .inr ⟨x,rfl,(sE a c h2).pt h1⟩
theorem sSr{G:GI}{Φ:List (Str×SpM)}:∀(s:ISr){X:Cx} {tg e:Expr},Cok X G Φ->chkSr G s X.env.scope X.N e=true->PI X tg e (liSr X (wSr Φ s))
 |.seq a,X,tg,e,c,h=>by
  refine(_jh (sE a c h).pe).weak λO H R hw=>?_
  obtain⟨L,M,rs,P,hw⟩:=hw
  refine⟨L,M,rs,P,_07 c.mon a (λv M1 q=>?_) hw⟩
  intro u W T U N
  rcases q with⟨xs,e,q⟩|⟨b,xs,e,hb,q⟩|q|⟨z,e,q⟩
  .rcases e with e|e
   .subst e
    obtain⟨_,_,rfl,h1,A⟩:=U.inv
    exact .inl ⟨_,rfl,.inr (.inl ⟨_,SqT.of h1,q _ _ T N (.inl ⟨_,_,h1,A,rfl⟩)⟩)⟩
   .subst e
    obtain⟨_,_,rfl,h1,A⟩:=U.inv
    exact .inl ⟨_,rfl,.inl ⟨_,h1.sq,q _ _ T N (.inr ⟨_,_,h1,A,rfl⟩)⟩⟩
  .subst e
   obtain rfl:=U.inv
   obtain⟨vs,e2,_⟩:=N.lst hb
   exact .inl ⟨_,rfl,.inl ⟨_,SqL.of e2,q _ _ T N rfl⟩⟩
  .exact q.elim
  .subst e
   obtain rfl:=U.inv
   exact .inr ⟨z,rfl,q _ _ T N rfl⟩
 |.rng a,X,tg,e,c,h=>by
  obtain⟨p,x,J,rfl,h2,h3,h4⟩:=_jS h
  refine(_fE (_a7 h3).1 (c.bls _ h2) (_8T (sE a c h4).pe pa_nil (_0Z h4)) (_0Z h4)).weak λO H R hw=>?_
  obtain⟨L,M,rs,P,hw⟩:=hw
  refine⟨L,M,rs,P,_07 c.mon a (λv M1 ⟨j,e,A,q2,q⟩=>?_) hw⟩
  subst e
  intro u W T U N
  obtain rfl:=U.inv
  exact⟨j,rfl,A,q2,q _ _ T N rfl⟩
 |.rev a,X,tg,e,c,h=>by
  obtain⟨p,x,J,rfl,h2,h3,h4⟩:=_jT h
  refine(_lt (_a7 h3).1 (c.bls _ h2) (_8T (sE a c h4).pe pa_nil (_0Z h4)) (_0Z h4)).weak λO H R hw=>?_
  obtain⟨L,M,rs,P,hw⟩:=hw
  refine⟨L,M,rs,P,_07 c.mon a (λv M1 ⟨b,xs,e,hb,q⟩=>?_) hw⟩
  subst e
  intro u W T U N
  obtain rfl:=U.inv
  obtain⟨vs,e2,r2⟩:=N.lst hb
  exact⟨b,vs,rfl,SqL.of e2,q _ _ T N (by rw[<-r2.length];rfl)⟩
end
end L2
namespace L2
set_option genInjectivity false
set_option genCtorIdx false
open PySem PySem.Spec PyProof.Rows
mutual
inductive IS where
 |pass|brk|cnt|never
 |ret (e:IE)|retN
 |set (i:Nat)(e:IE)
 |asg (t:ITgs)(e:IE)
 |put (o i e:IE)
 |fset (c:Str)(o:IE)(f:Str)(e:IE)
 |expr (e:IE)
 |ite (c:IE)(a b:ISs)
 |for_ (t:ITg)(s:ISr)(b:ISs)
 |while_ (c:IE)(b:ISs)
inductive ISs where|nil|cons (s:IS)(r:ISs)
end
structure EndM where
 nx:Sm->MH->Prop
 rt:QM
mutual
def wS(Φ:List (Str×SpM)):IS->EndM->Sm->MH->Prop
 |.pass,D,j,M=>D.nx j M
 |.brk,_,_,_=>False
 |.cnt,_,_,_=>False
 |.never,_,_,_=>False
 |.ret e,D,j,M=>wE Φ e j M D.rt
 |.retN,D,_,M=>D.rt .non M
 |.set i e,D,j,M=>wE Φ e j M λv M1=>D.nx (j.set i (some v)) M1
 |.asg t e,D,j,M=>wE Φ e j M λv M1=>∃xs,v=.tup xs/\wTgs t xs j λl=>D.nx l M1
 |.put o i e,D,j,M=>wE Φ e j M λv M1=>wE Φ o j M1 λx M2=>wE Φ i j M2 λy z=>wPut x y v z λg=>D.nx j g
 |.fset c o f e,D,j,M=>wE Φ e j M λv M1=>wE Φ o j M1 λx M2=>∃a fs,x=.ref a/\M2 a=some (.ins c fs)/\fs.length<1000/\D.nx j (updM M2 a (.ins c (putM fs f v)))
 |.expr e,D,j,M=>wE Φ e j M λ_ M1=>D.nx j M1
 |.ite c a b,D,j,M=>wE Φ c j M λx M1=>onB x λk=>(if k=true then wSs Φ a D j M1 else wSs Φ b D j M1)
 |.for_ t s b,D,j,M=>wSr Φ s j M λS M1=>∃J:Nat->Sm->MH->Prop,J 0 j M1/\(∀i j M,J i j M->S.ok M)/\
   (∀i x j M,S.items[i]?=some x->J i j M->wTg t x j λu=>wSs Φ b {nx:=J (i+1),rt:=λv M=>S.okT M/\D.rt v (S.thaw M)} u M)/\∀j M,J S.len j M->D.nx j (S.thaw M)
 |.while_ c b,D,j,M=>∃J:Nat->Sm->MH->Prop,(∃m,J m j M)/\∀m j M,J m j M->wE Φ c j M λx M1=>∃k,x=.bl k/\
   (if k=true then wSs Φ b {nx:=λl M'=>∃w,w<m/\J w l M',rt:=D.rt} j M1 else D.nx j M1)
def wSs(Φ:List (Str×SpM)):ISs->EndM->Sm->MH->Prop
 |.nil,D,j,M=>D.nx j M
 |.cons s r,D,j,M=>wS Φ s {nx:=λj M=>wSs Φ r D j M,rt:=D.rt} j M
end
theorem _ky{j:List (Str×SpM)}{c:IE}{a b:ISs}{D:EndM}{l:Sm}{M:MH}:wS j (.ite c a b) D l M=wE j c l M λx M1=>∃k,x=.bl k/\(if k=true then wSs j a D l M1 else wSs j b D l M1):=by rw[wS];simp only[_ao]
structure EndM.Le (D D':EndM):Prop where
 nx:∀σ M,D.nx σ M->D'.nx σ M
 rt:∀v M,D.rt v M->D'.rt v M
mutual
theorem _lQ{Φ:List (Str×SpM)}(u:∀(j:Nat)f sp,Φ[j]?=some (f,sp)->MonW sp):∀(s:IS){D g:EndM} {w:Sm} {M:MH},D.Le g->wS Φ s D w M->wS Φ s g w M
 |.pass,D,g,w,M,l,h=>by exact l.nx _ _ h
 |.brk,D,g,w,M,l,h=>h.elim
 |.cnt,D,g,w,M,l,h=>h.elim
 |.never,D,g,w,M,l,h=>h.elim
 |.ret e,D,g,w,M,l,h=>by exact _07 u e l.rt h
 |.retN,D,g,w,M,l,h=>by exact l.rt _ _ h
 |.set i e,D,g,w,M,l,h=>by exact _07 u e (λv M1 h1=>l.nx _ _ h1) h
 |.asg t e,D,g,w,M,l,h=>by exact _07 u e (λv M1 ⟨xs,e,h1⟩=>⟨xs,e,mon_tgs t (λL h2=>l.nx _ _ h2) h1⟩) h
 |.put o i e,D,g,w,M,l,h=>by
  exact _07 u e (λv M1 h1=>_07 u o (λx M2 h2=>_07 u i (λy Y h3=>_jC (λZ h4=>l.nx _ _ h4) h3) h2) h1) h
 |.fset c o f e,D,g,w,M,l,h=>by
  exact _07 u e (λv M1 h1=>_07 u o (λx M2 ⟨a,fs,N,O,P,h2⟩=>⟨a,fs,N,O,P,l.nx _ _ h2⟩) h1) h
 |.expr e,D,g,w,M,l,h=>by exact _07 u e (λv M1 h1=>l.nx _ _ h1) h
 |.ite c a b,D,g,w,M,l,h=>by
  rw[_ky]at h ⊢
  exact _07 u c (λx M1 ⟨k,e,h1⟩=>⟨k,e,_1x (mon_ss u a l) (mon_ss u b l) h1⟩) h
 |.for_ t s b,D,g,w,M,l,h=>by
  refine mon_sr u s (λS M1 ⟨J,q,p,R,T⟩=>⟨J,q,p,λi x w M U d=>?_,λw M d=>l.nx _ _ (T w M d)⟩) h
  exact _90 t (λW h2=>by refine mon_ss u b ?_ h2;exact⟨λ_ _ z=>z,λ_ _ z=>⟨z.1,l.rt _ _ z.2⟩⟩) (R i x w M U d)
 |.while_ c b,D,g,w,M,l,h=>by
  obtain⟨J,q,p⟩:=h
  refine⟨J,q,λm w M d=>_07 u c (λx M1 ⟨k,e,h1⟩=>⟨k,e,_1x (λz=>by refine mon_ss u b ?_ z;exact⟨λ_ _ z=>z,l.rt⟩) (l.nx _ _) h1⟩) (p m w M d)⟩
theorem mon_ss{Φ:List (Str×SpM)}(u:∀(j:Nat)f sp,Φ[j]?=some (f,sp)->MonW sp):∀(s:ISs){D g:EndM} {w:Sm} {M:MH},D.Le g->wSs Φ s D w M->wSs Φ s g w M
 |.nil,D,g,w,M,l,h=>by exact l.nx _ _ h
 |.cons s r,D,g,w,M,l,h=>by
  refine _lQ u s ?_ h
  exact⟨λw M h1=>mon_ss u r l h1,l.rt⟩
end
noncomputable def Zig:Expr->Bool
 |.Tuple ..=>false|_=>true
noncomputable def Z8Z:Expr->Bool
 |.ListComp ..=>false|.SetComp ..=>false|.DictComp ..=>false|_=>true
noncomputable def Zmo:Stmt->Option (Option Expr)|.Return v _=>some v|_=>none
noncomputable def Zks:Stmt->Option (List Expr×Expr)|.Assign ts v _=>some (ts,v)|_=>none
noncomputable def asEx:Stmt->Option Expr|.Expr v _=>some v|_=>none
noncomputable def Zmp:Stmt->Option (Expr×List Stmt×List Stmt)|.If t x y _=>some (t,x,y)|_=>none
noncomputable def Zmq:Stmt->Option (Expr×Expr×List Stmt×List Stmt)|.For t i b r _=>some (t,i,b,r)|_=>none
noncomputable def asWh:Stmt->Option (Expr×List Stmt×List Stmt)|.While t b r _=>some (t,b,r)|_=>none
section
variable{e:Stmt}
theorem _hO{x:Option Expr}(h:Zmo e=some x):∃p,e=.Return x p:=by revert h;cases e<;>first|exact nos|(intro h;cases h;exact⟨_,rfl⟩)
theorem _el{x:List Expr×Expr}(h:Zks e=some x):∃p,e=.Assign x.1 x.2 p:=by revert h;cases e<;>first|exact nos|(intro h;cases h;exact⟨_,rfl⟩)
theorem _kq{x:Expr}(h:asEx e=some x):∃p,e=.Expr x p:=by revert h;cases e<;>first|exact nos|(intro h;cases h;exact⟨_,rfl⟩)
theorem _hQ{x:Expr×List Stmt×List Stmt}(h:Zmp e=some x):∃p,e=.If x.1 x.2.1 x.2.2 p:=by revert h;cases e<;>first|exact nos|(intro h;cases h;exact⟨_,rfl⟩)
theorem _hR{x:Expr×Expr×List Stmt×List Stmt}(h:Zmq e=some x):∃p,e=.For x.1 x.2.1 x.2.2.1 x.2.2.2 p:=by revert h;cases e<;>first|exact nos|(intro h;cases h;exact⟨_,rfl⟩)
theorem _kn{x:Expr×List Stmt×List Stmt}(h:asWh e=some x):∃p,e=.While x.1 x.2.1 x.2.2 p:=by revert h;cases e<;>first|exact nos|(intro h;cases h;exact⟨_,rfl⟩)
end
mutual
def chkS(G:GI)(j:Scope)(N:List Str):IS->Stmt->Bool
 |.pass,_=>false
 |.brk,_=>false
 |.cnt,_=>false
 |.never,_=>true
 |.ret e,s=>(Zmo s).any λo=>o.any λx=>chkE G e j N x
 |.retN,_=>false
 |.set i e,s=>(Zks s).any λq=>(the1 q.1).any λt=>(Z2f t).any λx=>decide (N[i]?=some x)&&locB j x&&chkE G e j N q.2
 |.asg t e,s=>(Zks s).any λq=>(the1 q.1).any λg=>(ZeV g).any λes=>chkTgs j N N.length true t es&&chkE G e j N q.2&&Zig q.2
 |.put o i e,_=>false
 |.fset c o f e,_=>false
 |.expr e,s=>(asEx s).any λv=>chkE G e j N v&&Z8Z v
 |.ite c a b,s=>(Zmp s).any λq=>tok c&&chkE G c j N q.1&&chkSs G j N a q.2.1&&chkSs G j N b q.2.2
 |.for_ t r b,s=>(Zmq s).any λq=>Z8C j N N.length true t q.1&&chkSr G r j N q.2.1&&Zc9 q.2.1&&chkSs G j N b q.2.2.1&&non0 q.2.2.2
 |.while_ c b,s=>(asWh s).any λq=>tok c&&chkE G c j N q.1&&chkSs G j N b q.2.1&&non0 q.2.2
def chkSs(G:GI)(j:Scope)(N:List Str):ISs->List Stmt->Bool
 |.nil,l=>non0 l
 |.cons s r,l=>(hd1 l).any λq=>chkS G j N s q.1&&chkSs G j N r q.2
end
def liD(K:Y00)(H:Hp)(D:Ends):EndM where
 nx:=λl M=>∀u j,Kp H j->RS K j l u->RH K M j->D.nx u j
 rt:=Dn K H D.rt
theorem liD.on{K:Y00}{H j:Hp}{D:Ends}(k:Kp H j):(liD K H D).Le (liD K j D):=
 ⟨λ_ _ h l u w=>h l u (k.trans w),λ_ _ h=>h.on k⟩
def liSt(K:Y00)(t:EndM->Sm->MH->Prop):TS:=λD l H=>∃j M,RS K H j l/\RH K M H/\t (liD K H D) j M
theorem _fg{e:Expr}{x:Str}{p:Pos}{l:Nat}{j:Env}(h:Z8Z e=true):swapsWith e (some (.Name x p)) l j=pure false:=by cases e<;>first|rfl|cases h
theorem _ff{e:Expr}{l:Nat}{j:Env}(h:Z8Z e=true):swapsWith e none l j=pure false:=by cases e<;>first|rfl|cases h
theorem _h1{e:Expr}{l:List Expr}{k:Nat}{p:Pos}{u:Nat}{j:Env}:swapsWith e (some (.Tuple l k p)) u j=pure false:=by cases e<;>rfl
theorem _fh{l:Expr}{y:List Comprehension}{j:Scope}{u p:Pos}{x:Str}{z:Nat}{w:Env}:∃b:Bool,swapsWith (.ListComp l y j u) (some (.Name x p)) z w=pure b:=⟨_,rfl⟩
theorem _kf{G:GI}{l:IE}{y:Scope}{N:List Str}{e:Expr}(h:chkE G l y N e=true):Z8Z e=true\/∃own z u m j w,l=.comp own z u m j w:=by
 revert h
 cases e<;>first
  |exact λ_=>.inl rfl
  |(cases l<;>first
    |exact nob
    |exact λ_=>.inr ⟨_,_,_,_,_,_,rfl⟩)
section
variable{G:GI}{sc:Scope}{N:List Str}{st:Stmt}
theorem _hz{e:IE}(h:chkS G sc N (.ret e) st=true):∃x p,st=.Return (some x) p/\chkE G e sc N x=true:=by
 replace h:=_05 h
 obtain⟨o,j,h⟩:=h
 obtain⟨p,rfl⟩:=_hO j
 replace h:=_05 h
 obtain⟨x,rfl,h⟩:=h
 exact⟨x,p,rfl,h⟩
theorem _hy{i:Nat}{e:IE}(h:chkS G sc N (.set i e) st=true):∃x j v p,st=.Assign [.Name x j] v p/\N[i]?=some x/\locB sc x=true/\chkE G e sc N v=true:=by
 replace h:=_05 h
 obtain⟨⟨g,v⟩,l,h⟩:=h
 obtain⟨p,rfl⟩:=_el l
 replace h:=_05 h
 obtain⟨t,u,h⟩:=h
 obtain rfl:=_22 u
 replace h:=_05 h
 obtain⟨x,w,h⟩:=h
 obtain⟨j,rfl⟩:=_0G w
 replace h:=_02 h
 obtain⟨h,y⟩:=h
 replace h:=_02 h
 obtain⟨z,m⟩:=h
 exact⟨x,j,v,p,rfl,_0h z,m,y⟩
theorem _hC{t:ITgs}{e:IE}(h:chkS G sc N (.asg t e) st=true):∃j k pt v p,st=.Assign [.Tuple j k pt] v p/\chkTgs sc N N.length true t j=true/\chkE G e sc N v=true/\Zig v=true:=by
 replace h:=_05 h
 obtain⟨⟨d,v⟩,l,h⟩:=h
 obtain⟨p,rfl⟩:=_el l
 replace h:=_05 h
 obtain⟨g,u,h⟩:=h
 obtain rfl:=_22 u
 replace h:=_05 h
 obtain⟨j,w,h⟩:=h
 obtain⟨k,pt,rfl⟩:=_8H w
 replace h:=_02 h
 obtain⟨h,y⟩:=h
 replace h:=_02 h
 obtain⟨z,m⟩:=h
 exact⟨j,k,pt,v,p,rfl,z,m,y⟩
theorem _gh{e:IE}(h:chkS G sc N (.expr e) st=true):∃v p,st=.Expr v p/\chkE G e sc N v=true/\Z8Z v=true:=by
 replace h:=_05 h
 obtain⟨v,j,h⟩:=h
 obtain⟨p,rfl⟩:=_kq j
 exact⟨v,p,rfl,_02 h⟩
theorem _hA{c:IE}{a b:ISs}(h:chkS G sc N (.ite c a b) st=true):∃t x y p,st=.If t x y p/\tok c=true/\chkE G c sc N t=true/\chkSs G sc N a x=true/\chkSs G sc N b y=true:=by
 replace h:=_05 h
 obtain⟨⟨t,x,y⟩,j,h⟩:=h
 obtain⟨p,rfl⟩:=_hQ j
 replace h:=_02 h
 obtain⟨h,l⟩:=h
 replace h:=_02 h
 obtain⟨h,u⟩:=h
 replace h:=_02 h
 obtain⟨w,z⟩:=h
 exact⟨t,x,y,p,rfl,w,z,u,l⟩
theorem _hB{t:ITg}{s:ISr}{b:ISs}(h:chkS G sc N (.for_ t s b) st=true):∃u l j p,st=.For u l j [] p/\Z8C sc N N.length true t u=true/\chkSr G s sc N l=true/\Zc9 l=true/\chkSs G sc N b j=true:=by
 replace h:=_05 h
 obtain⟨⟨u,l,j,w⟩,y,h⟩:=h
 obtain⟨p,rfl⟩:=_hR y
 replace h:=_02 h
 obtain⟨h,z⟩:=h
 replace h:=_02 h
 obtain⟨h,m⟩:=h
 replace h:=_02 h
 obtain⟨h,g⟩:=h
 replace h:=_02 h
 obtain⟨d,c⟩:=h
 obtain rfl:=_10 z
 exact⟨u,l,j,p,rfl,d,c,g,m⟩
theorem _eK{c:IE}{b:ISs}(h:chkS G sc N (.while_ c b) st=true):∃t j p,st=.While t j [] p/\tok c=true/\chkE G c sc N t=true/\chkSs G sc N b j=true:=by
 replace h:=_05 h
 obtain⟨⟨l,j,u⟩,w,h⟩:=h
 obtain⟨p,rfl⟩:=_kn w
 replace h:=_02 h
 obtain⟨h,y⟩:=h
 replace h:=_02 h
 obtain⟨h,z⟩:=h
 replace h:=_02 h
 obtain⟨m,g⟩:=h
 obtain rfl:=_10 y
 exact⟨l,j,p,rfl,m,g,z⟩
theorem _gg{j:List Stmt}(h:chkSs G sc N .nil j=true):j=[]:=by
 exact _10 h
theorem _eJ{s:IS}{r:ISs}{j:List Stmt}(h:chkSs G sc N (.cons s r) j=true):∃x l,j=x::l/\chkS G sc N s x=true/\chkSs G sc N r l=true:=by
 replace h:=_05 h
 obtain⟨⟨x,l⟩,u,h⟩:=h
 exact⟨x,l,_8e u,_02 h⟩
end
mutual
theorem sS{G:GI}{Φ:List (Str×SpM)}:∀(is:IS){X:Cx} {st:Stmt},Cok X G Φ->(∀x,X.fn x=true)->chkS G X.env.scope X.N is st=true->PS X st (liSt X.K (wS Φ is))
 |.pass,X,st,c,hf,h=>absurd h Y05
 |.brk,X,st,c,hf,h=>absurd h Y05
 |.cnt,X,st,c,hf,h=>absurd h Y05
 |.never,X,st,c,hf,h=>by
  refine ps_never.weak λD Y H hw=>?_
  obtain⟨j,M,rs,T,hw⟩:=hw
  exact hw
 |.ret e,X,st,c,hf,h=>by
  obtain⟨v,p,rfl,h⟩:=_hz h
  refine(_lp (sE e c h).pe).weak λD Y H hw=>?_
  obtain⟨j,M,rs,T,hw⟩:=hw
  exact⟨j,M,rs,T,hw⟩
 |.retN,X,st,c,hf,h=>absurd h Y05
 |.set i e,X,st,c,hf,h=>by
   obtain⟨x,px,v,p,rfl,h1,h2,h3⟩:=_hy h
   have rd:∀D Y H,liSt X.K (wS Φ (.set i e)) D Y H->liE X.K (wE Φ e) Y H λv F=>D.nx (Y.set i (some v)) F:=λD Y H hw=>by
    obtain⟨j,M,rs,T,hw⟩:=hw
    refine⟨j,M,rs,T,_07 c.mon e (λv M1 q=>?_) hw⟩
    intro u F O r1 N
    exact q _ _ O ((rs.mono O).set r1 i) N
   rcases _kf h3 with hn|⟨own,fr,src,tg,test,elt,rfl⟩
   .exact(_ia c.nd h1 (_e2 h2) (sE e c h3).pe (_fg hn) (.inl (hf _))).weak rd
   .obtain⟨y,t,it,ifs,scope,p3,rfl,i1,i2,i3,i4,i5,i6,i7⟩:=_e7 h3
    obtain⟨b,hb⟩:=_fh (l:=y) (y:=[⟨t,it,ifs,0⟩]) (j:=scope) (u:=p3) (p:=px) (x:=x) (z:=p.line) (w:=X.env)
    cases b with
    |false=>exact(_ia c.nd h1 (_e2 h2) (sE _ c h3).pe hb (.inl (hf _))).weak rd
    |true=>
     refine(_da own fr (g:=gOf X.K tg) (te:=liE X.K (wE Φ elt)) (tt:=ttOf X.K Φ test) c.nd h1 (_e2 h2) (λe s h=>by rw[c.nox]at h;exact h) c.calm i1 (sSr src (tg:=t) c i4)
      (λC fp U W=>sTg (X:=cxC X scope own fr C fp U W) (lim:=own.length) (all:=false) c.calm i3 (λz=>by cases z) tg i5) (λC fp U W=>sI (X:=cxC X scope own fr C fp U W) test (c.comp (_3A i1).kind i3) i6)
      (λC fp U W=>(sE (X:=cxC X scope own fr C fp U W) elt (c.comp (_3A i1).kind i3) i7).pe) hb (_bl i2 _) (.inl (hf _))).thaw.weak λD Y H hw=>?_
     exact _ct c.mon i5 (rd D Y H hw)
 |.asg t e,X,st,c,hf,h=>by
   obtain⟨es,k,pt,v,p,rfl,h1,h2,h3⟩:=_hC h
   have hT:Z8C X.env.scope X.N X.N.length true (.tup t) (.Tuple es k pt)=true:=h1
   refine(_lr (sE e c h2).pe (sTg (lim:=X.N.length) (all:=true) c.calm c.nd (λ_=>hf) (.tup t) hT) (_h1 (e:=v) (l:=es) (k:=k) (p:=pt) (u:=p.line) (j:=X.env)) (by cases v<;>first|rfl|cases h3) rfl).weak λD Y H hw=>?_
   obtain⟨j,M,rs,T,hw⟩:=hw
   refine⟨j,M,rs,T,_07 c.mon e (λv M1 ⟨xs,e,q⟩=>?_) hw⟩
   intro u F O r1 N
   refine _h0 (Ψ:=λ_=>True) (lim:=X.N.length) (λ_ _ _ _ z=>z) (.tup t) hT r1 (rs.mono O) trivial (P:=λw=>(liD X.K H D).nx w M1) ⟨xs,e,q⟩ λl w q' Z _=>?_
   exact q' _ _ O Z N
 |.put o i e,X,st,c,hf,h=>absurd h Y05
 |.fset cn o f e,X,st,c,hf,h=>absurd h Y05
 |.expr e,X,st,c,hf,h=>by
  obtain⟨v,p,rfl,h1,h2⟩:=_gh h
  refine(_ja (sE e c h1).pe (_ff h2)).weak λD Y H hw=>?_
  obtain⟨j,M,rs,T,hw⟩:=hw
  refine⟨j,M,rs,T,_07 c.mon e (λv M1 q=>?_) hw⟩
  intro u F O r1 N
  exact q _ _ O (rs.mono O) N
 |.ite d a b,X,st,c,hf,h=>by
  obtain⟨t,x,y,p,rfl,h1,h2,h3,h4⟩:=_hA h
  refine(_nA ((sE d c h2).pt h1) (sSs a c hf h3) (sSs b c hf h4)).weak λD Y H hw=>?_
  obtain⟨j,M,rs,T,hw⟩:=hw
  rw[_ky]at hw
  refine⟨j,M,rs,T,_07 c.mon d (λx M1 ⟨k,e,q⟩=>⟨k,e,λF O N=>?_⟩) hw⟩
  exact _1x (λq=>⟨j,M1,rs.mono O,N,mon_ss c.mon a (liD.on O) q⟩) (λq=>⟨j,M1,rs.mono O,N,mon_ss c.mon b (liD.on O) q⟩) q
 |.for_ t s b,X,st,c,hf,h=>by
   obtain⟨tg,it,body,p,rfl,h1,h2,h3,h4⟩:=_hB h
   refine(_lq (by rw[c.nox];exact PassesOwn.never) c.calm (sSr s (tg:=tg) c h2) (sTg (lim:=X.N.length) (all:=true) c.calm c.nd (λ_=>hf) t h1) (sSs b c hf h4) (_bl h3 _)).thaw.weak λD Y H hw=>?_
   obtain⟨j,M,rs,T,hw⟩:=hw
   refine⟨j,M,rs,T,mon_sr c.mon s (λS M1 ⟨J,j0,j1,j2,j3⟩=>?_) hw⟩
   intro I F O N sit
   refine⟨λi m w R=>m=S.len - i/\i<=S.len/\Kp F R/\∃l M',RS X.K R l w/\RH X.K M' R/\J i l M',⟨_,rfl,Y1e _,Kp.refl _,j,M1,rs.mono O,N,j0⟩,?_⟩
   rintro i m σ2 H2 ⟨rfl,hi,k2,L,M2,B,E,hj⟩
   obtain⟨goes,stops⟩:=_dO sit k2 E (j1 i L M2 hj)
   by_cases hlt:i<S.len
   .obtain⟨go,yld⟩:=goes i hlt
    refine .inr ⟨go,λw R=>Kp F R/\∃l M',RS X.K R l w/\RH X.K M' R/\J (i+1) l M',λw R ⟨a,z⟩=>⟨S.len - (i+1),by lia,rfl,hlt,a,z⟩,λx R y=>?_⟩
    obtain⟨e,m,hm,rm⟩:=yld x R y
    subst e
    refine _h0 (Ψ:=λ_=>True) (lim:=X.N.length) (λ_ _ _ _ z=>z) t h1 rm B trivial (j2 i m L M2 hm hj) λσm3 σ3 q rs3 _=>?_
    refine⟨σm3,M2,rs3,E,?_⟩
    refine mon_ss c.mon b ?_ q
    refine⟨λw M' z σv H3 Q Z A=>⟨k2.trans Q,w,M',Z,A,z⟩,λv M' z u H3 Q r3 A=>?_⟩
    .obtain⟨H4,th,k4,rh4⟩:=_aX sit A z.1
     exact⟨H4,th,z.2 u H4 (O.trans (k2.trans (Q.trans k4))) (r3.mono k4) rh4⟩
   .have e:i=S.len:=by lia
    subst e
    obtain⟨H4,th,k4,rh4⟩:=_aX sit E (_if (j1 _ L M2 hj))
    exact .inl ⟨stops _ (Y09 _),H4,th,j3 L M2 hj _ _ (O.trans (k2.trans k4)) (B.mono k4) rh4⟩
 |.while_ d b,X,st,c,hf,h=>by
   obtain⟨tst,body,p,rfl,h1,h2,h3⟩:=_eK h
   refine(_h9 (by rw[c.nox];exact PassesOwn.never) ((sE d c h2).pt h1) (sSs b c hf h3)).weak λD Y H hw=>?_
   obtain⟨j,M,rs,T,hw⟩:=hw
   obtain⟨J,⟨m0,j0⟩,j1⟩:=hw
   refine⟨λm w R=>Kp H R/\∃l M',RS X.K R l w/\RH X.K M' R/\J m l M',⟨m0,Kp.refl _,j,M,rs,T,j0⟩,?_⟩
   rintro m σ2 H2 ⟨k2,L,M2,B,E,hj⟩
   refine⟨L,M2,B,E,_07 c.mon d (λx M1 ⟨k,e,q⟩=>⟨k,e,λH3 Q rh3=>?_⟩) (j1 m L M2 hj)⟩
   refine _1x (λq=>?_) (λq=>q _ _ (k2.trans Q) (B.mono Q) rh3) q
   refine⟨λw R=>∃m',m'<m/\Kp H R/\∃l M',RS X.K R l w/\RH X.K M' R/\J m' l M',λw R z=>z,L,M1,B.mono Q,rh3,?_⟩
   refine mon_ss c.mon b ?_ q
   refine⟨?_,λv M' z=>z.on (k2.trans Q)⟩
   .rintro w M' ⟨m',hm,z⟩ σv H4 k4 Z A
    exact⟨m',hm,k2.trans (Q.trans k4),w,M',Z,A,z⟩
theorem sSs{G:GI}{Φ:List (Str×SpM)}:∀(is:ISs){X:Cx} {n:List Stmt},Cok X G Φ->(∀x,X.fn x=true)->chkSs G X.env.scope X.N is n=true->PSs X n (liSt X.K (wSs Φ is))
 |.nil,X,n,c,hf,h=>by
   cases _gg h
   refine pss_nil.weak λD Y H hw=>?_
   obtain⟨j,M,rs,T,hw⟩:=hw
   exact hw Y H (Kp.refl _) rs T
 |.cons s r,X,n,c,hf,h=>by
   obtain⟨x,xs,rfl,h1,h2⟩:=_eJ h
   refine(_h8 (sS s c hf h1) (sSs r c hf h2)).weak λD Y H hw=>?_
   obtain⟨j,M,rs,T,hw⟩:=hw
   refine⟨j,M,rs,T,?_⟩
   refine _lQ c.mon s ?_ hw
   refine⟨λw M' z σv F O Z A=>?_,λv M' z=>z⟩
   exact⟨w,M',Z,A,mon_ss c.mon r (liD.on O) z⟩
end
end L2
namespace L2
open PySem PySem.Spec PyProof.Rows
structure Fts (P:Program)(w:World)(K:Y00)(mg:Str->Option Value)(base:Heap)(k:Nat)(G:GI)(Φ:List (Str×SpM)):Prop where
 bls:∀x,G.bl.contains x=true->mg x=none
 gls:∀x i,G.gl.lookup x=some i->∃tk,mg x=some (.int i tk)
 gds:∀x kvs,G.gds.lookup x=some kvs->∃a,mg x=some (.ref a)/\GDict P w K a kvs
 fnn:∀(j:Nat)f,G.fns[j]?=some f->∃sp,Φ[j]?=some (f,sp)
 mon:∀(j:Nat)f sp,Φ[j]?=some (f,sp)->MonW sp
 fns:∀(j:Nat)f sp,G.fns[j]?=some f->Φ[j]?=some (f,sp)->∃fa fd ps,FnOk P w K mg base CX0 k fa fd ps (liSp K sp)/\mg f=some (.ref fa)/\Y1j K (.ref fa)=true/\Binds K fd ps []
 mts:∀(j:Nat)c m,G.mts.contains (j,c,m)=true->∃f sp,Φ[j]?=some (f,sp)/\∃C fa fd ps,FnOk P w K mg base CX0 k fa fd ps (liSp K sp)/\Y0n K mainGlobals c=some (some (.ref C))/\Cls K C/\Meth K C m fa/\Binds K fd ps []
 mks:∀(j:Nat)c,G.mks.contains (j,c)=true->∃f sp,Φ[j]?=some (f,sp)/\∃k' C fa fd ps,k'+1<=k/\FnOk P w K mg base CX0 k' fa fd ps (liSp K sp)/\Y0n K mainGlobals c=some (some (.ref C))/\mg c=some (.ref C)/\Mk K C fa/\Binds K fd ps []
 cls:∀c f,G.cls.contains (c,f)=true->∃C,Y0n K mainGlobals c=some (some (.ref C))/\Cls K C/\ZgU K C f
noncomputable def ZbJ(n:Nat)(j:List MV):Sm:=j.map some++Y1C (n - j.length) none
theorem _h2{K:Y00}(r:RMs K H ms vs):RS K H (ZbJ N.length ms) (Z9N N vs):=by
 unfold ZbJ Z9N
 have j:=r.length
 refine⟨by simp[j],λi m e=>?_⟩
 by_cases hi:i<ms.length
 .rw[Y0H (by simpa using hi),Y08]at e
  cases q:ms[i]? with
  |none=>rw[q]at e;cases e
  |some x=>
   rw[q]at e
   have l:x=m:=Y0z (Y0z e)
   subst l
   obtain⟨u,w,y⟩:=r.get q
   exact⟨u,by rw[Y0H (by simpa [<-j]using hi),Y08,w];rfl,y⟩
 .rw[Y0C (by simpa using hi),Y30]at e
  split at e<;>cases e
theorem Fun.okM{K:Y00}{st:Stmt}{k:Nat}
  (F:Fun K x qual st f fd)(S:FnScope N ps (Z01 st))(T:Fts P w K mg base k G Φ)(d:ISs)(Y:chkSs G (Z01 st) N d (Z04 st)=true)
  (len:∀u M Q,l u M Q->u.length=ps.length)(h:∀u M Q,l u M Q->wSs Φ d {nx:=λ_ e=>Q .non e,rt:=Q} (ZbJ N.length u) M):FnOk P w K mg base CX0 (k+1) f fd ps (liSp K l):=by
 refine F.ok S (λu H Q E L=>?_) λO A y s H u Q E p L=>?_
 .obtain⟨R,M,r,W,q⟩:=L
  rw[<-r.length];exact len _ _ _ q
 obtain⟨R,M,r,W,q⟩:=L
 have c:Cok (cxOf CX0 P w K mg base N qual (Z01 st) f O A y s H E).nox G Φ:=
  ⟨(by have:=p.un;show(A.deeper _).units+70<cLine;lia),rfl,rfl,(by show(if(Z01 st).kind.isAnnotationScope then Y3Q else(Z01 st).kind)=.function;rw[S.kind];rfl),S.nd,T.bls,T.gls,T.gds,T.fnn,T.mon,
   (λj f l Z g=>let⟨fa,fd,ps,F,hm,hk,hb⟩:=T.fns j f l Z g;⟨k,fa,fd,ps,p,F,hm,hk,hb⟩),
   (λj c m h=>let⟨f,l,g,C,fa,fd,ps,F,hC,cl,hm,hb⟩:=T.mts j c m h;⟨f,l,g,k,C,fa,fd,ps,p,F,hC,cl,hm,hb⟩),
   (λj c h=>let⟨f,l,g,k',C,fa,fd,ps,hk,F,hC,hm,mk1,hb⟩:=T.mks j c h;⟨f,l,g,k',C,fa,fd,ps,p.mono hk,F,hC,hm,mk1,hb⟩),T.cls⟩
 refine⟨_,sSs d c (λ_=>rfl) Y,ZbJ N.length R,M,_h2 r,W,?_⟩
 refine mon_ss T.mon d ?_ (h R M _ q)
 exact⟨λJ e z B X D I U=>z _ _ D .non U,λv e z=>z⟩
noncomputable def Zi4:SpM:=λl M Q=>∃j:List Int,l=[.frl (j.map .int)]/\j.length<=63/\∀u,Q (.bl true) u
def ZdP(K:Y00):Sp:=λl H Q _=>∃(a:Addr) (j:List Int),l=[.ref a]/\FrL K H a (j.map V.int)/\j.length<=63/\∀u,Q (.bl true) u
theorem _jK{K:Y00}{k:Nat}(F:FnOk P w K mg base CX0 k f fd ps (liSp K Zi4)):FnOk P w K mg base CX0 k f fd ps (ZdP K):=
 F.imp λy H Q E ⟨a,j,e,l,u,q⟩=>by
  subst e
  refine⟨[.frl (j.map .int)],λ_=>none,.cons (.frl l (RMs.ints j)) .nil,λ_ _ z=>(by cases z),j,rfl,u,λm=>?_⟩
  intro v g k r d
  cases r
  exact q _
theorem _mf{K:Y00}(o:Only H)(h:SqL K H a vs):FrL K H a vs:=by
 rcases h with(h|⟨j,h⟩)|h
 .rcases o a with z|⟨j,l,z⟩
  .rw[h]at z;cases z
  .rw[h]at z;cases z
 .exact .inl ⟨j,h⟩
 .exact .inr h
end L2
namespace L2
open PySem PySem.Spec PyProof.Rows
theorem _lT{K:Y00}{k:Nat}(L:∀x∈G.bl,mg x=none)(N:∀p∈G.gl,∃O,mg p.1=some (.int p.2 O))(hd:∀p∈G.gds,∃a,mg p.1=some (.ref a)/\GDict P w K a p.2)(d:Φ.map (·.1)=G.fns)
  (R:∀p∈Φ++Ψ,MonW p.2)(T:∀p∈Φ,∃l y z,FnOk P w K mg base CX0 k l y z (liSp K p.2)/\mg p.1=some (.ref l)/\Y1j K (.ref l)=true/\Binds K y z [])
  (U:∀q∈G.mts,∃f u,(Φ++Ψ)[q.1]?=some (f,u)/\∃C l y z,FnOk P w K mg base CX0 k l y z (liSp K u)/\Y0n K mainGlobals q.2.1=some (some (.ref C))/\Cls K C/\Meth K C q.2.2 l/\Binds K y z [])
  (W:∀q∈G.mks,∃f u,(Φ++Ψ)[q.1]?=some (f,u)/\∃r C l y z,r+1<=k/\FnOk P w K mg base CX0 r l y z (liSp K u)/\Y0n K mainGlobals q.2=some (some (.ref C))/\mg q.2=some (.ref C)/\Mk K C l/\Binds K y z [])
  (Y:∀q∈G.cls,∃C,Y0n K mainGlobals q.1=some (some (.ref C))/\Cls K C/\ZgU K C q.2):Fts P w K mg base k G (Φ++Ψ)where
 bls:=λx h=>L x (by simpa using h)
 gls:=λx i h=>N (x,i) (Y1c h)
 gds:=λx i h=>hd (x,i) (Y1c h)
 fnn:=λj f h=>by
  rw[<-d,Y08]at h
  cases e:Φ[j]? with
  |none=>rw[e]at h;cases h
  |some p=>rw[e]at h;cases h;exact⟨p.2,by rw[Y0H (Y0b.mp e).1,e]⟩
 mon:=λj f u h=>R (f,u) (Y0G h)
 fns:=λj f u g h=>by
  rw[<-d,Y08]at g
  cases e:Φ[j]? with
  |none=>rw[e]at g;cases g
  |some p=>
   rw[Y0H (Y0b.mp e).1,e]at h
   cases h
   exact T (f,u) (Y0G e)
 mts:=λj c m h=>U (j,c,m) (by simpa using h)
 mks:=λj c h=>W (j,c) (by simpa using h)
 cls:=λc f h=>Y (c,f) (by simpa using h)
theorem _0i{P:Program}{w:World}{K:Y00}{l:Str->Option Value}{j:Heap}{k:Nat}{G:GI}{u:List (Str×SpM)}(d:∀x∈G.bl,l x=none)(c:∀p∈G.gl,∃f,l p.1=some (.int p.2 f))(hd:∀p∈G.gds,∃a,l p.1=some (.ref a)/\GDict P w K a p.2)(q:u.map (·.1)=G.fns)
  (r:∀p∈u,MonW p.2)(e:∀p∈u,∃y m g,FnOk P w K l j CX0 k y m g (liSp K p.2)/\l p.1=some (.ref y)/\Y1j K (.ref y)=true/\Binds K m g [])(h1:G.mts=[]:=by rfl)(h2:G.mks=[]:=by rfl)(h3:G.cls=[]:=by rfl):Fts P w K l j k G u:=by
 have:=_lT (Ψ:=[]) d c hd q (by rw[Y18];exact r) e (by rw[h1];exact λ_ z=>nomatch z) (by rw[h2];exact λ_ z=>nomatch z) (by rw[h3];exact λ_ z=>nomatch z)
 rwa [Y18]at this
structure Fn1 (K:Y00)(x:Str)(st:Stmt)(f:Addr)(d:FuncData):Prop where
 a:Y0n K mainGlobals x=some (some (.ref f))
 F:Fun K x x st f d
structure FnT (K:Y00)(mg:Str->Option Value)(x:Str)(ps:List Str)(st:Stmt)(f:Addr)(d:FuncData):Prop where
 F:Fun K x x st f d
 b:Binds K d ps []
 m:mg x=some (.ref f)
theorem Fn1.t{K:Y00}{st:Stmt}(H:Fn1 K x st f d)(X:K.In h)(G:h.Ns mainGlobals mg)
  (b:∀(kV j w:Value)(y:Option Addr)(l z:Value)(u:List Value),u.length=ps.length->bindArgs (Y1J x x (Z7g st) (Z04 st) (Z01 st) .none kV j w y l z) ⟨u,[]⟩=pure (ps.zip u)):FnT K mg x ps st f d:=⟨H.F,H.F.binds b,Y0X X G H.a⟩
theorem Fn1.bt{K:Y00}{st:Stmt}(H:Fn1 K x st f d)
  (r:∀(kV j u:Value)(w:Option Addr)(l z v:Value),bindArgs (Y1J x x (Z7g st) (Z04 st) (Z01 st) .none kV j u w l z) ⟨[v],[]⟩=pure [(y,v)])(s:Shared)(v:Value):BindsTo s d ⟨[v],[]⟩ [(y,v)]:=by
 obtain⟨_,_,kV,j,u,w,l,z,_,rfl,_⟩:=H.F.ex
 exact .of_eq (r kV j u w l z v)
theorem us0{p:List Value->Prop}(h:p [])(j:List Value)(l:j.length=0):p j:=by cases j with|nil=>exact h|cons _ _=>cases l
theorem us1{p:List Value->Prop}(h:∀u,p [u])(j:List Value)(l:j.length=1):p j:=by cases j with|nil=>cases l|cons a r=>exact us0 (p:=λr=>p (a::r)) (h a) r (Y2E l)
theorem us2{p:List Value->Prop}(h:∀u w,p [u,w])(j:List Value)(l:j.length=2):p j:=by cases j with|nil=>cases l|cons a r=>exact us1 (p:=λr=>p (a::r)) (h a) r (Y2E l)
theorem us3{p:List Value->Prop}(h:∀u w y,p [u,w,y])(j:List Value)(l:j.length=3):p j:=by cases j with|nil=>cases l|cons a r=>exact us2 (p:=λr=>p (a::r)) (h a) r (Y2E l)
theorem us4{p:List Value->Prop}(h:∀u w y z,p [u,w,y,z])(j:List Value)(l:j.length=4):p j:=by cases j with|nil=>cases l|cons a r=>exact us3 (p:=λr=>p (a::r)) (h a) r (Y2E l)
theorem us5{p:List Value->Prop}(h:∀u w y z m,p [u,w,y,z,m])(j:List Value)(l:j.length=5):p j:=by cases j with|nil=>cases l|cons a r=>exact us4 (p:=λr=>p (a::r)) (h a) r (Y2E l)
end L2
namespace L2
open PySem PySem.Spec PyProof.Rows
section
variable{M:MH}{Q:QM}{i j:Int}{x y:MV}{a b:Addr}
theorem _nz:wBin .Add (.int i) (.int j) M Q=Q (.int (i+j)) M:=rfl
theorem _mX:wBin .Sub (.int i) (.int j) M Q=Q (.int (i - j)) M:=rfl
theorem _nk:wBin .Mult (.int i) (.int j) M Q=(CMul i j/\Q (.int (i*j)) M):=rfl
theorem _li:wBin .FloorDiv (.int i) (.int j) M Q=(ZgW i j/\Q (.int (i/j)) M):=rfl
theorem _nl:wBin .Mod (.int i) (.int j) M Q=(0<j/\Q (.int (i%j)) M):=rfl
theorem _na:wBin .Pow (.int i) (.int j) M Q=(CPow i j/\Q (.int (i^j.toNat)) M):=rfl
theorem _n4:wBin .LShift (.int i) (.int j) M Q=(CPow i j/\Q (.int (i*2^j.toNat)) M):=rfl
theorem _ll{x y:Str}:wBin .Add (.str x) (.str y) M Q=(x.length+y.length<=sizeLine/\Q (.str (x++y)) M):=rfl
theorem _l7{x:Str}:wBin .Mult (.str x) (.int i) M Q=(x.length<=16/\ -1000<=i/\i<=1000/\Q (.str (Txt.mul x i)) M):=rfl
theorem _lk:wBin .Add (.tup xs) (.tup ys) M Q=(xs≠ []/\xs.length+ys.length<=sizeLine/\Q (.tup (xs++ys)) M):=rfl
theorem _lm:wBin .Add (.ref a) (.ref b) M Q=∃l u,M a=some (.lst l)/\M b=some (.lst u)/\l.length+u.length<=sizeLine/\∀p,M p=none->Q (.ref p) (updM M p (.lst (l++u))):=rfl
theorem q_lt:wCmp .Lt (.int i) (.int j) M Q=Q (.bl (decide (i<j))) M:=propext ⟨fun⟨_,_,e,f,h⟩=>by cases e;cases f;exact h,λh=>⟨i,j,rfl,rfl,h⟩⟩
theorem q_le:wCmp .LtE (.int i) (.int j) M Q=Q (.bl (decide (i<=j))) M:=propext ⟨λh=>Or.elim h (fun⟨_,_,e,f,h⟩=>by cases e;cases f;exact h) (fun⟨_,_,e,_⟩=>nomatch e),λh=>Or.inl ⟨i,j,rfl,rfl,h⟩⟩
theorem _nm{x y:Str}:wCmp .LtE (.str x) (.str y) M Q=Q (.bl (!decide (y.cps.toList<x.cps.toList))) M:=propext ⟨λh=>Or.elim h (fun⟨_,_,e,_⟩=>nomatch e) (fun⟨_,_,e,f,h⟩=>by cases e;cases f;exact h),λh=>Or.inr ⟨x,y,rfl,rfl,h⟩⟩
theorem q_gt:wCmp .Gt (.int i) (.int j) M Q=Q (.bl (decide (j<i))) M:=propext ⟨fun⟨_,_,e,f,h⟩=>by cases e;cases f;exact h,λh=>⟨i,j,rfl,rfl,h⟩⟩
theorem _nw:wCmp .Eq (.int i) (.int j) M Q=Q (.bl (decide (i=j))) M:=rfl
theorem _nj:wCmp .NotEq (.int i) (.int j) M Q=Q (.bl (!decide (i=j))) M:=rfl
theorem _nv{x y:Str}:wCmp .Eq (.str x) (.str y) M Q=Q (.bl (decide (x=y))) M:=rfl
theorem _nh{x y:Str}:wCmp .NotEq (.str x) (.str y) M Q=Q (.bl (!decide (x=y))) M:=rfl
theorem _ni:wCmp .NotEq (.ref a) y M Q=wEq (.ref a) y M λb=>Q (.bl (!b)) M:=rfl
theorem q_in:wCmp .In x y M Q=wIn x y M λb=>Q (.bl b) M:=rfl
theorem _ng:wCmp .NotIn x y M Q=wIn x y M λb=>Q (.bl (!b)) M:=rfl
theorem _cq{k:Bool->Prop}(h:M a=some (.lst xs))(l:M b=some (.lst []))(q:k xs.isEmpty):wEq (.ref a) (.ref b) M k:=.inr (.inr (.inl ⟨a,b,xs,rfl,rfl,h,l,q⟩))
theorem _hG{k:Bool->Prop}(n:eqS x y=none)(h:Alike M m x y)(l:m<=60)(q:k true):wEq x y M k:=by
 unfold wEq;rw[n];exact .inr (.inl ⟨m,l,h,q⟩)
theorem Alike.flat(n:Nat)(f:Z4b x=true):Alike M n x x:=by
 cases n<;>rw[Alike]
 .exact⟨f,rfl⟩
 .exact .inl ⟨f,rfl⟩
theorem Alike.tup(e:xs.length=ys.length)(h:∀(i:Nat)u v,xs[i]?=some u->ys[i]?=some v->Alike M n u v):Alike M (n+1) (.tup xs) (.tup ys):=by
 rw[Alike];exact .inr (.inl ⟨xs,ys,rfl,rfl,e,h⟩)
def ixO(o:Option MO)(y:MV)(M:MH)(Q:QM):Prop:=match o with
 |some (.lst xs)=>∃i v,y=.int i/\atI xs i=some v/\Q v M
 |some (.dic kvs)=>∃l v,keyM y=some l/\valM kvs l=some v/\Q v M
 |some (.fdic _ kvs)=>∃l v,keyM y=some l/\valM kvs l=some v/\Q v M
 |_=>False
theorem _np:wIx (.ref a) y M Q=ixO (M a) y M Q:=propext ⟨λh=>by
  rcases h with⟨w,i,v,e,r⟩|⟨l,u,v,e,r⟩|⟨o,l,u,v,e,r⟩
  .rw[e];exact⟨i,v,r⟩
  .rw[e];exact⟨u,v,r⟩
  .rw[e];exact⟨u,v,r⟩,λh=>by
  cases e:M a with
  |none=>rw[e]at h;exact h.elim
  |some o=>
   rw[e]at h
   cases o with
   |lst w=>obtain⟨i,v,r⟩:=h;exact .inl ⟨w,i,v,e,r⟩
   |dic l=>obtain⟨u,v,r⟩:=h;exact .inr (.inl ⟨l,u,v,e,r⟩)
   |ins _ _=>exact h.elim
   |fdic o l=>obtain⟨u,v,r⟩:=h;exact .inr (.inr ⟨o,l,u,v,e,r⟩)⟩
theorem _le:ixO (some (.lst xs)) (.int i) M Q=∃v,atI xs i=some v/\Q v M:=propext ⟨fun⟨_,v,e,h⟩=>by cases e;exact⟨v,h⟩,fun⟨v,h⟩=>⟨i,v,rfl,h⟩⟩
theorem _j6{l:List (Key×MV)}{x:Str}:ixO (some (.dic l)) (.str x) M Q=∃v,valM l (Y12 x)=some v/\Q v M:=propext ⟨fun⟨_,v,e,h⟩=>by cases e;exact⟨v,h⟩,fun⟨v,h⟩=>⟨_,v,rfl,h⟩⟩
theorem _nn:wIx (.tup xs) (.int i) M Q=∃v,atI xs i=some v/\Q v M:=propext ⟨fun⟨_,v,e,h⟩=>by cases e;exact⟨v,h⟩,fun⟨v,h⟩=>⟨i,v,rfl,h⟩⟩
theorem _nq:wIx (.frl xs) (.int i) M Q=∃v,atI xs i=some v/\Q v M:=propext ⟨fun⟨_,v,e,h⟩=>by cases e;exact⟨v,h⟩,fun⟨v,h⟩=>⟨i,v,rfl,h⟩⟩
theorem _no:wIx (.str z) (.int i) M Q=(z.length<=sizeLine/\∃c,atI z.cps.toList i=some c/\Q (.str ⟨#[c]⟩) M):=propext ⟨fun⟨_,c,e,l,u⟩=>by cases e;exact⟨l,c,u⟩,fun⟨l,c,u⟩=>⟨i,c,rfl,l,u⟩⟩
def slO(o:Option MO)(lo l:Option Int)(M:MH)(Q:QM):Prop:=match o with
 |some (.lst xs)=>∀p,M p=none->Q (.ref p) (updM M p (.lst (cutM xs lo l)))
 |_=>False
theorem _n3{lo:Option Int}:wSl (.ref a) lo hi M Q=slO (M a) lo hi M Q:=propext ⟨fun⟨l,e,h⟩=>by rw[e];exact h,λh=>by
  cases e:M a with
  |none=>rw[e]at h;exact h.elim
  |some o=>
   rw[e]at h
   cases o with
   |lst l=>exact⟨l,e,h⟩
   |dic u=>exact h.elim
   |ins _ _=>exact h.elim
   |fdic _ _=>exact h.elim⟩
theorem _l1{lo:Option Int}:slO (some (.lst xs)) lo hi M Q=∀p,M p=none->Q (.ref p) (updM M p (.lst (cutM xs lo hi))):=rfl
theorem _n2{lo l:Option Int}{z:Str}:wSl (.str z) lo l M Q=(z.length<=sizeLine/\Q (.str (cutS z lo l)) M):=rfl
theorem _n1{lo:Option Int}:wSl (.tup xs) lo hi M Q=Q (.tup (cutM xs lo hi)) M:=rfl
theorem _lc:wBi .len [.frl xs] M Q=Q (.int xs.length) M:=rfl
theorem _la:wBi .len [.str z] M Q=(z.length<=sizeLine/\Q (.int z.length) M):=rfl
noncomputable def lenO(o:Option MO)(M:MH)(Q:QM):Prop:=match o with
 |some (.lst xs)=>Q (.int xs.length) M
 |some (.dic kvs)=>Q (.int kvs.length) M
 |_=>False
theorem _lb:wBi .len [.ref a] M Q=lenO (M a) M Q:=propext ⟨λh=>by
  rcases h with⟨u,e,h⟩|⟨l,e,h⟩<;>(rw[e];exact h),λh=>by
  cases e:M a with
  |none=>rw[e]at h;exact h.elim
  |some o=>
   rw[e]at h
   cases o with
   |lst u=>exact .inl ⟨u,e,h⟩
   |dic l=>exact .inr ⟨l,e,h⟩
   |ins _ _=>exact h.elim
   |fdic _ _=>exact h.elim⟩
theorem _j5:lenO (some (.lst xs)) M Q=Q (.int xs.length) M:=rfl
def isO(o:Option Ty7)(c:Ty7)(M:MH)(Q:QM):Prop:=match o with
 |some T=>c≠.none/\Q (.bl (isTy T c)) M
 |none=>False
theorem _nr:wBi .isinst [x,.ty c] M Q=isO (tyM M x) c M Q:=propext (by
 have e:wBi .isinst [x,.ty c] M Q=∃T,tyM M x=some T/\c≠.none/\Q (.bl (isTy T c)) M:=by cases x<;>rfl
 rw[e]
 exact⟨fun⟨T,e,h⟩=>by rw[e];exact h,λh=>by
  cases e:tyM M x with
  |none=>rw[e]at h;exact h.elim
  |some T=>rw[e]at h;exact⟨T,rfl,h⟩⟩)
def isO2(o:Option Ty7)(c d:Ty7)(M:MH)(Q:QM):Prop:=match o with
 |some T=>c≠.none/\d≠.none/\Q (.bl (isTy T c||isTy T d)) M
 |none=>False
theorem _lg:wBi .isinst [x,.tup [.ty c,.ty d]] M Q=isO2 (tyM M x) c d M Q:=propext (by
 have e:wBi .isinst [x,.tup [.ty c,.ty d]] M Q=∃T,tyM M x=some T/\c≠.none/\d≠.none/\Q (.bl (isTy T c||isTy T d)) M:=by cases x<;>rfl
 rw[e]
 exact⟨fun⟨T,e,h⟩=>by rw[e];exact h,λh=>by
  cases e:tyM M x with
  |none=>rw[e]at h;exact h.elim
  |some T=>rw[e]at h;exact⟨T,rfl,h⟩⟩)
theorem _j7:isO2 (some T) c d M Q=(c≠.none/\d≠.none/\Q (.bl (isTy T c||isTy T d)) M):=rfl
theorem _lf:isO (some T) c M Q=(c≠.none/\Q (.bl (isTy T c)) M):=rfl
theorem _mO:tyM M (.int i)=some .int:=rfl
theorem _mM{k:Str}:tyM M (.str k)=some .str:=rfl
theorem _mL:tyM M (.tup xs)=some .tuple:=rfl
noncomputable def tyO:Option MO->Option Ty7
 |some (.lst _)=>some .list
 |some (.dic _)=>some .dict
 |_=>none
theorem _mN:tyM M (.ref a)=tyO (M a):=by
 cases e:M a with
 |none=>simp[tyM,tyO,e]
 |some o=>cases o<;>simp[tyM,tyO,e]
theorem _kW:tyO (some (.lst xs))=some .list:=rfl
theorem _ny:wBi .all [.ref a] M Q=∃bs:List Bool,M a=some (.lst (bs.map MV.bl))/\Q (.bl (bs.all id)) M:=rfl
theorem _j8:wBi .dictL [.ref a] M Q=∃l:List (Key×MV),M a=some (.lst (l.map prM))/\∀p,M p=none->Q (.ref p) (updM M p (.dic (Z8R l))):=rfl
theorem _j3:wBi .list [.tup xs] M Q=∀p,M p=none->Q (.ref p) (updM M p (.lst xs)):=rfl
theorem _j4:wBi .list [.ref a] M Q=∃l,M a=some (.lst l)/\∀p,M p=none->Q (.ref p) (updM M p (.lst l)):=rfl
theorem _kX:wBi .tuple [.ref a] M Q=∃l,M a=some (.lst l)/\Q (.tup l) M:=rfl
def apO(o:Option MO)(a:Addr)(y:MV)(M:MH)(Q:QM):Prop:=match o with
 |some (.lst xs)=>xs.length<sizeLine/\Q .non (updM M a (.lst (xs++[y])))
 |_=>False
theorem _nx:wMts .append (.ref a) [y] M Q=apO (M a) a y M Q:=propext ⟨fun⟨l,e,h⟩=>by rw[e];exact h,λh=>by
  cases e:M a with
  |none=>rw[e]at h;exact h.elim
  |some o=>
   rw[e]at h
   cases o with
   |lst l=>exact⟨l,e,h⟩
   |dic u=>exact h.elim
   |ins _ _=>exact h.elim
   |fdic _ _=>exact h.elim⟩
theorem _lj:apO (some (.lst xs)) a y M Q=(xs.length<sizeLine/\Q .non (updM M a (.lst (xs++[y])))):=rfl
theorem _nu:wMts .extend (.ref a) [.ref b] M Q=∃l,M a=some (.lst l)/\∃u,M b=some (.lst u)/\l.length+u.length<=sizeLine/\Q .non (updM M a (.lst (l++u))):=rfl
theorem _l6:mtOk .append x M=(∃a l,x=.ref a/\M a=some (.lst l)):=rfl
theorem _l5:mtOk .extend x M=(∃a l,x=.ref a/\M a=some (.lst l)):=rfl
theorem _l4:mtOk .pop x M=(∃a l,x=.ref a/\M a=some (.lst l)):=rfl
theorem _l3{z:Str}:mtOk .split (.str z) M=True:=propext ⟨λ_=>trivial,λ_=>⟨z,rfl⟩⟩
theorem _l2{z:Str}:mtOk .starts (.str z) M=True:=propext ⟨λ_=>trivial,λ_=>⟨z,rfl⟩⟩
theorem _j2{z y:Str}:wMts .split (.str z) [.str y] M Q=((y.length==0)=false/\z.length+2<=sizeLine/\∀p,M p=none->Q (.ref p) (updM M p (.lst ((Txt.split z y).map MV.str)))):=propext ⟨fun⟨_,_,e,f,h⟩=>by cases e;cases f;exact h,λh=>⟨z,y,rfl,rfl,h⟩⟩
theorem _h6{z y:Str}:wMts .starts (.str z) [.str y] M Q=Q (.bl (Txt.startswith z y)) M:=propext ⟨fun⟨_,_,e,f,h⟩=>by cases e;cases f;exact h,λh=>⟨z,y,rfl,rfl,h⟩⟩
theorem _nf{z:Str}:mtOk .join (.str z) M=True:=propext ⟨λ_=>trivial,λ_=>⟨z,rfl⟩⟩
theorem _ld{l:Str}:wMts .join (.str l) [.ref b] M Q=(∃u,M b=some (.lst (u.map MV.str))/\u.toArray.foldl (λn z=>n+z.length+l.length) 0<=sizeLine/\(Y0R l u).length<=sizeLine/\Q (.str (Y0R l u)) M):=
 propext ⟨fun⟨_,_,u,e,w,h⟩=>by cases e;cases w;exact⟨u,h⟩,fun⟨u,h⟩=>⟨l,b,u,rfl,rfl,h⟩⟩
noncomputable def srO(o:Option MO)(a:Addr)(M:MH)(Q:Src->MH->Prop):Prop:=match o with
 |some (.lst xs)=>Q (.lst a xs) M
 |_=>False
noncomputable def srV(v:MV)(M:MH)(Q:Src->MH->Prop):Prop:=(∃l,(v=.tup l\/v=.frl l)/\Q (.tup l) M)\/(∃a l,v=.ref a/\M a=some (.lst l)/\Q (.lst a l) M)\/False\/∃z,v=.str z/\Q (.str z) M
theorem _n5:wSr Φ (.seq e) σ M R=wE Φ e σ M λv M1=>srV v M1 R:=rfl
theorem _n0:srV (.ref a) M R=srO (M a) a M R:=propext ⟨λh=>by
  rcases h with⟨l,e,h⟩|⟨b,l,e,f,h⟩|h|⟨z,e,_⟩
  .rcases e with e|e<;>cases e
  .cases e;rw[f];exact h
  .exact h.elim
  .exact(nomatch e),λh=>by
  cases e:M a with
  |none=>rw[e]at h;exact h.elim
  |some o=>
   rw[e]at h
   cases o with
   |lst l=>exact .inr (.inl ⟨a,l,rfl,e,h⟩)
   |dic u=>exact h.elim
   |ins _ _=>exact h.elim
   |fdic _ _=>exact h.elim⟩
theorem _mZ:srV (.str z) M R=R (.str z) M:=propext ⟨λh=>by
  rcases h with⟨l,e,h⟩|⟨_,_,e,_⟩|h|⟨_,e,h⟩
  .rcases e with e|e<;>exact(nomatch e)
  .exact(nomatch e)
  .exact h.elim
  .cases e;exact h,λh=>.inr (.inr (.inr ⟨z,rfl,h⟩))⟩
theorem _mS:Src.thaw M (.tup xs)=M:=rfl
theorem _mR:Src.thaw M (.lst a xs)=M:=rfl
theorem _mQ:Src.thaw M (.rng i n)=M:=rfl
theorem _ne:Src.okT M (.tup xs)=True:=rfl
theorem _nd:Src.okT M (.lst a xs)=True:=rfl
theorem _nc:Src.okT M (.rng i n)=True:=rfl
theorem _l0:srO (some (.lst xs)) a M R=R (.lst a xs) M:=rfl
theorem _mY:srV (.tup zs) M R=R (.tup zs) M:=propext ⟨λh=>by
  rcases h with⟨l,e,h⟩|h
  .rcases e with e|e
   .cases e;exact h
   .exact nomatch e
  .rcases h with⟨_,_,e,_⟩|h|⟨_,e,_⟩<;>first|exact h.elim|exact(nomatch e),λh=>.inl ⟨zs,.inl rfl,h⟩⟩
noncomputable def rgV(v:MV)(M:MH)(Q:Src->MH->Prop):Prop:=∃j,v=.int j/\ -(2^62)<=j/\j<2^62/\Q (.rng 0 j.toNat) M
theorem _n7:wSr Φ (.rng e) σ M R=wE Φ e σ M λv M1=>rgV v M1 R:=rfl
theorem _n8:rgV (.int i) M R=(-(2^62)<=i/\i<2^62/\R (.rng 0 i.toNat) M):=propext ⟨fun⟨_,e,h⟩=>by cases e;exact h,λh=>⟨i,rfl,h⟩⟩
noncomputable def rvV(v:MV)(M:MH)(Q:Src->MH->Prop):Prop:=∃a l,v=.ref a/\M a=some (.lst l)/\Q (.rev a l) M
theorem _n9{l:List (Str×SpM)}{e:IE}{u:Sm}{R:Src->MH->Prop}:wSr l (.rev e) u M R=wE l e u M λv M1=>rvV v M1 R:=rfl
theorem _n6{R:Src->MH->Prop}:rvV (.ref a) M R=∃l,M a=some (.lst l)/\R (.rev a l) M:=propext ⟨fun⟨_,l,e,h⟩=>by cases e;exact⟨l,h⟩,fun⟨l,h⟩=>⟨a,l,rfl,h⟩⟩
theorem _mP{l:List MV}:Src.thaw M (.rev a l)=M:=rfl
theorem _nb{l:List MV}:Src.okT M (.rev a l)=True:=rfl
theorem _l9:wBi .max [.int i,.int j] M Q=Q (.int (if j>i then j else i)) M:=rfl
theorem _l8:wBi .min [.int i,.int j] M Q=Q (.int (if j<i then j else i)) M:=rfl
theorem _lh{z:Str}:wBi .int [.str z] M Q=∃n,intText? z=some n/\z.length<=640/\Q (.int n) M:=rfl
theorem _kZ:wBi .str [.int i] M Q=(i.natAbs.log2<1920/\Q (.str (toString i)) M):=rfl
theorem _kY{z:Str}:wBi .str [.str z] M Q=Q (.str z) M:=rfl
end
theorem v_s{k:MV->Prop}:onV (some (some v)) k=k v:=rfl
theorem b_0{k:Bool->Prop}:onB (.bl b) k=k b:=rfl
theorem f_s{k:SpM->Prop}:onF (some (f,sp)) k=k sp:=rfl
theorem _nT:wE Φ (.var i) σ M Q=onV σ[i]? (λv=>Q v M):=rfl
theorem _nZ:wE Φ (.int i) σ M Q=(Q (.int i) M):=rfl
theorem _nV:wE Φ (.str x) σ M Q=(Q (.str x) M):=rfl
theorem _o0:wE Φ (.glb x i) σ M Q=(Q (.int i) M):=rfl
theorem e_ty:wE Φ (.ty c) σ M Q=(Q (.ty c) M):=rfl
theorem _o5:wE Φ (.bin op a b) σ M Q=(wE Φ a σ M λx M1=>wE Φ b σ M1 λy M2=>wBin op x y M2 Q):=rfl
theorem _nX:wE Φ (.neg a) σ M Q=(wE Φ a σ M λx M1=>∃i,x=.int i/\Q (.int (-i)) M1):=rfl
theorem _nW:wE Φ (.not a) σ M Q=(wE Φ a σ M λx M1=>onB x λb=>Q (.bl (!b)) M1):=rfl
theorem _o3:wE Φ (.cmp op a b) σ M Q=(wE Φ a σ M λx M1=>wE Φ b σ M1 λy M2=>wCmp op x y M2 Q):=rfl
theorem _o4:wE Φ (.chn op op' a b c) σ M Q=(wE Φ a σ M λx M1=>wE Φ b σ M1 λy M2=>wCmp op x y M2 λz j=>onB z λk=>(if k=true then wE Φ c σ j λw l=>wCmp op' y w l Q else Q (.bl false) j)):=rfl
theorem _o6:wE Φ (.and a b) σ M Q=(wE Φ a σ M λx M1=>onB x λc=>(if c=true then wE Φ b σ M1 Q else Q (.bl false) M1)):=rfl
theorem e_or:wE Φ (.or a b) σ M Q=(wE Φ a σ M λx M1=>onB x λc=>(if c=true then Q (.bl true) M1 else wE Φ b σ M1 Q)):=rfl
theorem _nU:wE Φ (.tup es) σ M Q=(wEs Φ es σ M λj M1=>j.length<=sizeLine/\Q (.tup j) M1):=rfl
theorem _nY:wE Φ (.lst es) σ M Q=(wEs Φ es σ M λj M1=>j.length<=sizeLine/\∀p,M1 p=none->Q (.ref p) (updM M1 p (.lst j))):=rfl
theorem e_ix:wE Φ (.ix a b) σ M Q=(wE Φ a σ M λx M1=>wE Φ b σ M1 λy M2=>wIx x y M2 Q):=rfl
theorem e_sl{lo:IO}:wE Φ (.sl a lo hi) σ M Q=(wE Φ a σ M λx M1=>wO Φ lo σ M1 λl M2=>wO Φ hi σ M2 λh j=>wSl x l h j Q):=rfl
theorem _mh:wE Φ (.call j e es) σ M Q=(wE Φ e σ M λv M1=>wEs Φ es σ M1 λl M2=>onF Φ[j]? λu=>u (v::l) M2 Q):=rfl
theorem e_b2:wE Φ (.b2 f e) σ M Q=(wE Φ e σ M λv M1=>wB2 f v M1 Q):=rfl
noncomputable def gdV(j:List (Str×Int))(v:MV)(Q:MV->Prop):Prop:=∃z,v=.str z/\Q (.bl (j.lookup z).isSome)
theorem _o2{l:List (Str×SpM)}{w:Sm}{M:MH}{Q:QM}{x:Str}{j:List (Str×Int)}{e:IE}:wE l (.gin x j e) w M Q=(wE l e w M λv M1=>gdV j v λu=>Q u M1):=rfl
theorem _nt{j:List (Str×Int)}{z:Str}{Q:MV->Prop}:gdV j (.str z) Q=Q (.bl (j.lookup z).isSome):=propext ⟨fun⟨_,e,h⟩=>by cases e;exact h,λh=>⟨z,rfl,h⟩⟩
noncomputable def gxV(j:List (Str×Int))(v:MV)(Q:MV->Prop):Prop:=∃z n,v=.str z/\j.lookup z=some n/\Q (.int n)
theorem _o1{l:List (Str×SpM)}{w:Sm}{M:MH}{Q:QM}{x:Str}{j:List (Str×Int)}{e:IE}:wE l (.gix x j e) w M Q=(wE l e w M λv M1=>gxV j v λu=>Q u M1):=rfl
theorem _ns{j:List (Str×Int)}{z:Str}{Q:MV->Prop}:gxV j (.str z) Q=∃n,j.lookup z=some n/\Q (.int n):=propext ⟨fun⟨_,n,e,h⟩=>by cases e;exact⟨n,h⟩,fun⟨n,h⟩=>⟨z,n,rfl,h⟩⟩
theorem e_bi:wE Φ (.bi f e es) σ M Q=(wE Φ e σ M λv M1=>wEs Φ es σ M1 λj M2=>wBi f (v::j) M2 Q):=rfl
theorem e_mt:wE Φ (.mt m o es) σ M Q=(wE Φ o σ M λx M1=>mtOk m x M1/\wEs Φ es σ M1 λj M2=>wMts m x j M2 Q):=rfl
theorem _aI{u:List Nat}:wE Φ (.comp own u src tg test elt) σ M Q=(wSr Φ src σ M λS M1=>S.len<sizeLine/\∀D,M1 D=none->∃J:Nat->List MV->MH->Prop,J 0 [] (updM M1 D (.lst []))/\
   (∀i j M2,J i j M2->M2 D=some (.lst j)/\j.length<=i/\S.ok M2)/\
   (∀i x j M2,S.items[i]?=some x->J i j M2->wTg tg x (sCm own u σ) λl=>wI Φ test l M2 λb w=>
    if b=true then wE Φ elt l w λy z=>z D=some (.lst j)/\J (i+1) (j++[y]) (updM z D (.lst (j++[y])))else J (i+1) j w)/\
   ∀j M2,J S.len j M2->Q (.ref D) (S.thaw M2)):=rfl
theorem _bF{M j:MH}{S:Src}(h:S.okF M):S.thaw j=j:=by
 cases S<;>first|rfl|exact h.elim
theorem _1b{O:List Nat}{P:Type}(l:List P)(f g:P->MV)
  (W:wSr Φ src σ M λS M1=>S.items=l.map f/\l.length<sizeLine/\S.okF M1/\M1=M)
  (Y:∀x∈l,∀p,(∀a o,M a=some o->p a=some o)->wTg tg (f x) (sCm own O σ) λm=>wE Φ elt m p λy M2=>y=g x/\M2=p)
  (d:∀(j:Nat)f R,Φ[j]?=some (f,R)->MonW R)(q:∀D,M D=none->Q (.ref D) (updM M D (.lst (l.map g)))):wE Φ (.comp own O src tg .none elt) σ M Q:=by
 rw[_aI]
 refine mon_sr d src (λS M1 ⟨T,Z,u,A⟩=>?_) W
 subst A
 have U:S.len=l.length:=by rw[<-S.items_len,T,Y01]
 refine⟨by rw[U];exact Z,λD w=>⟨λi c M2=>M2=updM M1 D (.lst c)/\c=(l.take i).map g,⟨rfl,by simp⟩,?_,?_,?_⟩⟩
 .rintro i c M2 ⟨rfl,rfl⟩
  refine⟨_00,by rw[Y01,Y0s];lia,?_⟩
  cases S with
  |tup _=>trivial
  |rng _ _=>trivial
  |str _=>trivial
  |lst a L=>
   have:a≠D:=by intro e;subst e;have u:M1 a=some (.lst L):=u;rw[u]at w;cases w
   show updM M1 D _ a=_
   rw[_06 this];exact u
  |rev a L=>
   have:a≠D:=by intro e;subst e;have u:M1 a=some (.lst L):=u;rw[u]at w;cases w
   show updM M1 D _ a=_
   rw[_06 this];exact u
 .rintro i x c M2 r ⟨rfl,rfl⟩
  rw[T]at r
  have N:i<l.length:=by have:=(Y0b.mp r).1;rw[Y01]at this;exact this
  rw[Y08,Y02 N]at r
  cases r
  refine _90 tg (λm h=>?_) (Y l[i] (Y0j N) (updM M1 D (.lst ((l.take i).map g))) (λa o e=>by
   rw[_06 (by intro z;subst z;rw[e]at w;cases w)];exact e))
  rw[wI,if_pos rfl]
  refine _07 d elt (λy M2 ⟨B,C⟩=>?_) h
  subst B C
  refine⟨_00,_bD,?_⟩
  rw[Y0K,Y02 N,Y07]
  rfl
 .rintro c M2 ⟨rfl,rfl⟩
  rw[U,Y0y (Y09 _),_bF u]
  exact q D w
theorem _gB{T:List Nat}{U:Type}(l:List U)(f g:U->MV)
  (E:wSr Φ src σ M λS M1=>S.items=l.map f/\l.length<sizeLine/\S.okF M1/\∀a o,M a=some o->M1 a=some o)
  (F:∀x∈l,∀u,(∀a o,M a=some o->u a=some o)->wTg tg (f x) (sCm own T σ) λc=>wE Φ elt c u λy M2=>y=g x/\∀a o,u a=some o->M2 a=some o)
  (r:∀(j:Nat)f W,Φ[j]?=some (f,W)->MonW W)(q:∀D u,M D=none->(∀a o,M a=some o->u a=some o)->u D=some (.lst (l.map g))->Q (.ref D) u):wE Φ (.comp own T src tg .none elt) σ M Q:=by
 rw[_aI]
 refine mon_sr r src (λS M1 ⟨Y,G,N,O⟩=>?_) E
 have Z:S.len=l.length:=by rw[<-S.items_len,Y,Y01]
 have P:∀D,M1 D=none->M D=none:=λD m=>by
  cases e:M D with
  |none=>rfl
  |some o=>rw[O _ _ e]at m;cases m
 have A:∀{a D:Addr} {o:MO},M1 a=some o->M1 D=none->a≠D:=λh B z=>by subst z;rw[h]at B;cases B
 refine⟨by rw[Z];exact G,λD m=>⟨λi p M2=>(∀a o,M1 a=some o->M2 a=some o)/\M2 D=some (.lst p)/\p=(l.take i).map g,⟨λa o e=>by rw[_06 (A e m)];exact e,_00,by simp⟩,?_,?_,?_⟩⟩
 .rintro i p M2 ⟨w,d,rfl⟩
  refine⟨d,by rw[Y01,Y0s];lia,?_⟩
  cases S with
  |tup _=>trivial
  |rng _ _=>trivial
  |str _=>trivial
  |lst a I=>exact w _ _ N
  |rev a I=>exact w _ _ N
 .rintro i x p M2 L ⟨w,d,rfl⟩
  rw[Y]at L
  have R:i<l.length:=by have:=(Y0b.mp L).1;rw[Y01]at this;exact this
  rw[Y08,Y02 R]at L
  cases L
  refine _90 tg (λc h=>?_) (F l[i] (Y0j R) M2 (λa o e=>w _ _ (O _ _ e)))
  rw[wI,if_pos rfl]
  refine _07 r elt (λy X ⟨J,C⟩=>?_) h
  subst J
  refine⟨C _ _ d,λa o e=>by rw[_06 (A e m)];exact C _ _ (w _ _ e),_00,?_⟩
  rw[Y0K,Y02 R,Y07]
  rfl
 .rintro p M2 ⟨w,d,rfl⟩
  rw[Z,Y0y (Y09 _)]at d
  rw[_bF N]
  exact q D M2 (P D m) (λa o e=>w _ _ (O _ _ e)) d
theorem _mW:wTg (.nm i) v σ R=R (σ.set i (some v)):=rfl
theorem _mT:wTg (.tup ts) (.tup xs) σ R=wTgs ts xs σ R:=by
 exact propext ⟨fun⟨_,e,h⟩=>by cases e;exact h,λh=>⟨_,rfl,h⟩⟩
theorem _mV{t:ITg}:wTgs (.cons t ts) (v::r) σ R=wTg t v σ λj=>wTgs ts r j R:=by
 exact propext ⟨fun⟨_,_,e,h⟩=>by cases e;exact h,λh=>⟨_,_,rfl,h⟩⟩
theorem _mU:wTgs .nil [] σ R=R σ:=propext ⟨λh=>h.2,λh=>⟨rfl,h⟩⟩
section
variable{M:MH}
end
section
variable{Φ:List (Str×SpM)}{D:EndM}{σ:Sm}{M:MH}
theorem _mF:wSs Φ .nil D σ M=D.nx σ M:=rfl
theorem _kP:wSs Φ (.cons s r) D σ M=wS Φ s {nx:=λσ M=>wSs Φ r D σ M,rt:=D.rt} σ M:=rfl
theorem _mE:wS Φ (.ret e) D σ M=wE Φ e σ M D.rt:=rfl
theorem _mD:wS Φ (.set i e) D σ M=wE Φ e σ M λv M1=>D.nx (σ.set i (some v)) M1:=rfl
theorem _mI{t:ITgs}:wS Φ (.asg t e) D σ M=wE Φ e σ M λv M1=>∃l,v=.tup l/\wTgs t l σ λj=>D.nx j M1:=rfl
theorem _kO:wS Φ (.expr e) D σ M=wE Φ e σ M λ_ M1=>D.nx σ M1:=rfl
theorem _mG:wS Φ (.ite c a b) D σ M=wE Φ c σ M λx M1=>onB x λk=>(if k=true then wSs Φ a D σ M1 else wSs Φ b D σ M1):=rfl
theorem _mH{t:ITg}:wS Φ (.for_ t s b) D σ M=wSr Φ s σ M λS M1=>∃J:Nat->Sm->MH->Prop,J 0 σ M1/\(∀i σ M,J i σ M->S.ok M)/\
   (∀i x σ M,S.items[i]?=some x->J i σ M->wTg t x σ λj=>wSs Φ b {nx:=J (i+1),rt:=λv M=>S.okT M/\D.rt v (S.thaw M)} j M)/\∀σ M,J S.len σ M->D.nx σ (S.thaw M):=rfl
theorem _iX:wS Φ (.while_ c b) D σ M=∃J:Nat->Sm->MH->Prop,(∃m,J m σ M)/\∀m σ M,J m σ M->wE Φ c σ M λx M1=>∃k,x=.bl k/\
   (if k=true then wSs Φ b {nx:=λj u=>∃l,l<m/\J l j u,rt:=D.rt} σ M1 else D.nx σ M1):=rfl
theorem _lO:wO Φ .none σ M Q=Q none M:=rfl
theorem _lN:wO Φ (.some e) σ M Q=wE Φ e σ M λv M1=>∃i,v=.int i/\Q (some i) M1:=rfl
theorem _md{Q:Bool->MH->Prop}:wI Φ .none σ M Q=Q true M:=rfl
theorem _mg:wEs Φ .nil σ M Q=Q [] M:=rfl
theorem _kd:wEs Φ (.cons e es) σ M Q=wE Φ e σ M λv M1=>wEs Φ es σ M1 λj M2=>Q (v::j) M2:=rfl
end
section
variable{Φ:List (Str×SpM)}{σ σ':Sm}{M M':MH}{Q:QM}{x x' y y' z z':MV}{o o':Option MO}{vs vs':List MV}
end
end L2
namespace My
open PySem L2
noncomputable def top(i:Nat):Stmt:=PySem.Challenge.pw_bellferry_k66_written_and_read_again.main.body.getD i (.Pass ⟨0,0,0,0⟩)
abbrev Z3k:Stmt:=top 13
abbrev Z3j:Stmt:=top 14
abbrev Z6j:Stmt:=top 15
abbrev ZbX:Stmt:=top 16
abbrev Z15:Stmt:=top 18
abbrev Z4h:Stmt:=top 19
abbrev Z1P:Stmt:=top 20
abbrev Z4g:Stmt:=top 21
abbrev Z4i:Stmt:=top 32
abbrev Z1p:Stmt:=top 33
abbrev Z0P:Stmt:=top 34
abbrev Z0o:Stmt:=top 35
abbrev Z0E:Stmt:=top 36
abbrev Z1n:Stmt:=top 37
abbrev Z1o:Stmt:=top 38
abbrev Z0V:Stmt:=top 39
abbrev Z0Q:Stmt:=top 40
abbrev Z14:Stmt:=top 41
abbrev Z0D:Stmt:=top 42
abbrev Z0w:Stmt:=top 43
abbrev Z6k:Stmt:=top 44
abbrev ZbW:Stmt:=top 45
abbrev Z1L:Stmt:=top 49
abbrev Z1M:Stmt:=top 50
abbrev Z1r:Stmt:=top 51
abbrev Z4f:Stmt:=top 52
abbrev Z0U:Stmt:=top 53
abbrev Z1q:Stmt:=top 54
abbrev Z3h:Stmt:=top 55
abbrev Z2r:Stmt:=top 56
abbrev Z3i:Stmt:=top 57
abbrev Z2o:Stmt:=top 58
abbrev Z2p:Stmt:=top 59
abbrev Z2q:Stmt:=top 60
abbrev Z1O:Stmt:=top 61
abbrev Z1N:Stmt:=top 62
abbrev Z3g:Stmt:=top 63
abbrev ZbV:Stmt:=top 64
abbrev Z17:Stmt:=top 66
abbrev Z1s:Stmt:=top 67
abbrev Z2s:Stmt:=top 68
abbrev Z1R:Stmt:=top 69
abbrev Z2w:Stmt:=top 70
abbrev Z2t:Stmt:=top 71
abbrev Z2u:Stmt:=top 72
abbrev Z1t:Stmt:=top 73
abbrev Z1Q:Stmt:=top 74
abbrev Z16:Stmt:=top 75
abbrev Z0W:Stmt:=top 76
abbrev Z2v:Stmt:=top 77
abbrev Zfo:Stmt:=top 78
set_option genInjectivity false in
set_option genSizeOf false in
structure Adr where
 bh:Addr
 cH:FuncData
 dI:Addr
 bE:FuncData
 bG:Addr
 bw:FuncData
 cq:Addr
 dH:FuncData
 dc:Addr
 cj:FuncData
 bF:Addr
 cB:FuncData
 cK:Addr
 dm:FuncData
 ca:Addr
 bY:FuncData
 dy:Addr
 dz:FuncData
 bq:Addr
 cQ:FuncData
 bS:Addr
 dX:FuncData
 c9:Addr
 dF:FuncData
 dY:Addr
 dj:FuncData
 cN:Addr
 dr:FuncData
 bj:Addr
 cb:FuncData
 cL:Addr
 cT:FuncData
 bV:Addr
 bm:FuncData
 cr:Addr
 dt:FuncData
 du:Addr
 bR:FuncData
 cG:Addr
 dk:FuncData
 cX:Addr
 d0:FuncData
 bZ:Addr
 de:FuncData
 bx:Addr
 dS:FuncData
 bK:Addr
 dn:FuncData
 bJ:Addr
 dG:FuncData
 bT:Addr
 dU:FuncData
 cR:Addr
 bL:FuncData
 ci:Addr
 dE:FuncData
 bg:Addr
 c7:FuncData
 bU:Addr
 cy:FuncData
 ce:Addr
 bu:FuncData
 cZ:Addr
 df:FuncData
 bz:Addr
 be:FuncData
 bB:Addr
 bX:FuncData
 dN:Addr
 bn:FuncData
 dJ:Addr
 cc:FuncData
 cU:Addr
 dv:FuncData
 cx:Addr
 bv:FuncData
 bH:Addr
 cW:FuncData
 dq:Addr
 bQ:FuncData
 cC:Addr
 dg:FuncData
 cE:Addr
 c6:FuncData
 c8:Addr
 dM:FuncData
 cJ:Addr
 cI:FuncData
 bD:Addr
 cY:FuncData
 dD:Addr
 dR:FuncData
 bf:Addr
 bO:FuncData
 dP:Addr
 cS:FuncData
 cD:Addr
 cu:FuncData
 bI:Addr
 bN:FuncData
 bC:Addr
 cM:FuncData
structure Txt (w:World)(K:Y00)(mg:Str->Option Value)(t:Adr):Prop where
 ao:FnT K mg "is_whole" ["value"] Z3k t.bh t.cH
 aK:FnT K mg "is_width" ["number"] Z3j t.dI t.bE
 aY:FnT K mg "two_to" ["exponent"] Z6j t.bG t.bw
 b8:FnT K mg "fits" ["width","number"] ZbX t.cq t.dH
 am:FnT K mg "parts_within" ["T"] Z15 t.dc t.cj
 ai:FnT K mg "size_of" ["T"] Z4h t.bF t.cB
 aq:FnT K mg "names_read" ["T"] Z1P t.cK t.dm
 aT:FnT K mg "vars_in" ["T"] Z4g t.ca t.bY
 b6:FnT K mg "is_name" ["text"] Z4i t.dy t.dz
 ah:FnT K mg "refuse_name" ["text","earlier"] Z1p t.bq t.cQ
 af:FnT K mg "refuse_unknown" ["name","known"] Z0P t.bS t.dX
 ba:FnT K mg "refuse_ferry_names" ["ferries"] Z0o t.c9 t.dF
 aS:FnT K mg "refuse_variables" ["width","pairs"] Z0E t.dY t.dj
 aH:FnT K mg "refuse_term" ["T","known"] Z1n t.cN t.dr
 aV:FnT K mg "refuse_step" ["step","known","count","ferry_names"] Z1o t.bj t.cb
 bd:FnT K mg "refuse_island" ["width","island","ferry_names"] Z0V t.cL t.cT
 aD:FnT K mg "refuse_islands" ["width","islands","ferry_names"] Z0Q t.bV t.bm
 aF:FnT K mg "refuse_ferry" ["ferry","island_names"] Z14 t.cr t.dt
 bc:FnT K mg "refuse_wrong_end" ["name","step","givers","takers"] Z0D t.du t.bR
 aW:FnT K mg "refuse_wrong_ends" ["islands","ferries"] Z0w t.cG t.dk
 ae:FnT K mg "frozen" ["value"] Z6k t.cX t.d0
 aB:FnT K mg "made" ["width","islands","ferries"] ZbW t.bZ t.de
 aw:FnT K mg "term_words" ["T"] Z1L t.bx t.dS
 aX:FnT K mg "step_words" ["step"] Z1M t.bK t.dn
 aZ:FnT K mg "island_rows" ["island"] Z1r t.bJ t.dG
 aU:FnT K mg "written" ["world"] Z4f t.bT t.dU
 aa:FnT K mg "refuse_length" ["words","count"] Z0U t.cR t.bL
 ac:FnT K mg "read_number" ["word"] Z1q t.ci t.dE
 aL:FnT K mg "read_num" ["word"] Z3h t.bg t.c7
 aR:FnT K mg "read_leaf" ["words"] Z2r t.bU t.cy
 b0:FnT K mg "marks_of" ["words"] Z3i t.ce t.bu
 bb:FnT K mg "read_term" ["words"] Z2o t.cZ t.df
 aM:FnT K mg "read_step" ["words"] Z2p t.bz t.be
 aO:FnT K mg "read_pair" ["words"] Z2q t.bB t.bX
 b9:FnT K mg "read_ferry" ["words"] Z1O t.dN t.bn
 aN:FnT K mg "read_width" ["words"] Z1N t.dJ t.cc
 b5:FnT K mg "read_row" ["words","islands","ferries"] Z3g t.cU t.dv
 aQ:FnT K mg "read" ["text"] ZbV t.cx t.bv
 aE:FnT K mg "_law_cell_at" ["script","k"] Z17 t.bH t.cW
 aj:FnT K mg "_law_stream" ["cell","many"] Z1s t.dq t.bQ
 aJ:FnT K mg "_law_word" ["number","width"] Z2s t.cC t.dg
 b7:FnT K mg "_law_width" ["number"] Z1R t.cE t.c6
 aA:FnT K mg "_law_name" ["cell","k"] Z2w t.c8 t.dM
 ar:FnT K mg "_law_term" ["number","deep","own"] Z2t t.cJ t.cI
 aC:FnT K mg "_law_step" ["number","name","many","own","ferries"] Z2u t.bD t.cY
 aP:FnT K mg "_law_island" ["cell","number","width","name","ferries"] Z1t t.dD t.dR
 b4:FnT K mg "_law_world" ["script"] Z1Q t.bf t.bO
 ay:FnT K mg "_law_written" ["term"] Z16 t.dP t.cS
 aI:FnT K mg "_law_step_row" ["step"] Z0W t.cD t.cu
 aG:FnT K mg "_law_rows" ["width","islands","ferries"] Z2v t.bI t.bN
 dW:FnT K mg "law" ["script"] Zfo t.bC t.cM
 cA:mg "all"=none
 cm:mg "bool"=none
 cO:mg "dict"=none
 bW:mg "int"=none
 bP:mg "isinstance"=none
 dB:mg "len"=none
 bM:mg "list"=none
 cV:mg "max"=none
 cz:mg "min"=none
 cF:mg "range"=none
 cP:mg "reversed"=none
 di:mg "set"=none
 dl:mg "sorted"=none
 dC:mg "str"=none
 bA:mg "tuple"=none
 dA:∃tk,mg "MOST_WIDTH"=some (.int 64 tk)
 ck:∃tk,mg "MOST_LETTERS"=some (.int 8 tk)
 br:∃tk,mg "MOST_ISLANDS"=some (.int 5 tk)
 cv:∃tk,mg "MOST_FERRIES"=some (.int 6 tk)
 dO:∃tk,mg "MOST_VARS"=some (.int 6 tk)
 cf:∃tk,mg "MOST_STEPS"=some (.int 12 tk)
 dQ:∃tk,mg "MOST_PARTS"=some (.int 30 tk)
 dL:∃tk,mg "MOST_DEPTH"=some (.int 8 tk)
 cg:∃tk,mg "MOST_K"=some (.int 3 tk)
 cw:∃tk,mg "MOST_STAGES"=some (.int 3 tk)
 bo:∃tk,mg "MOST_FIGURES"=some (.int 20 tk)
 dh:∀P:Program,∃a,mg "PARTS"=some (.ref a)/\GDict P w K a [("plus",2),("minus",2),("times",2),("less",2),("same",2),("pick",3)]
theorem _d9:FnScope ["value"] ["value"] (Z01 Z3k):=⟨rfl,rfl,rfl,by decide+kernel,rfl,by decide+kernel,by decide+kernel⟩
theorem _d8:FnScope ["number"] ["number"] (Z01 Z3j):=⟨rfl,rfl,rfl,by decide+kernel,rfl,by decide+kernel,by decide+kernel⟩
theorem _fn:FnScope ["exponent","answer","k"] ["exponent"] (Z01 Z6j):=⟨rfl,rfl,rfl,by decide+kernel,rfl,by decide+kernel,by decide+kernel⟩
theorem _iW:FnScope ["width","number"] ["width","number"] (Z01 ZbX):=⟨rfl,rfl,rfl,by decide+kernel,rfl,by decide+kernel,by decide+kernel⟩
theorem _8M:FnScope ["T"] ["T"] (Z01 Z15):=⟨rfl,rfl,rfl,by decide+kernel,rfl,by decide+kernel,by decide+kernel⟩
theorem _er:FnScope ["T","parts","deepest","part","size"] ["T"] (Z01 Z4h):=⟨rfl,rfl,rfl,by decide+kernel,rfl,by decide+kernel,by decide+kernel⟩
theorem _b4:FnScope ["T","names","part"] ["T"] (Z01 Z1P):=⟨rfl,rfl,rfl,by decide+kernel,rfl,by decide+kernel,by decide+kernel⟩
theorem _eq:FnScope ["T"] ["T"] (Z01 Z4g):=⟨rfl,rfl,rfl,by decide+kernel,rfl,by decide+kernel,by decide+kernel⟩
theorem _es:FnScope ["text"] ["text"] (Z01 Z4i):=⟨rfl,rfl,rfl,by decide+kernel,rfl,by decide+kernel,by decide+kernel⟩
theorem _9Q:FnScope ["text","earlier"] ["text","earlier"] (Z01 Z1p):=⟨rfl,rfl,rfl,by decide+kernel,rfl,by decide+kernel,by decide+kernel⟩
theorem _75:FnScope ["name","known"] ["name","known"] (Z01 Z0P):=⟨rfl,rfl,rfl,by decide+kernel,rfl,by decide+kernel,by decide+kernel⟩
theorem _4e:FnScope ["ferries","earlier","ferry"] ["ferries"] (Z01 Z0o):=⟨rfl,rfl,rfl,by decide+kernel,rfl,by decide+kernel,by decide+kernel⟩
theorem _5X:FnScope ["width","pairs","earlier","pair","name"] ["width","pairs"] (Z01 Z0E):=⟨rfl,rfl,rfl,by decide+kernel,rfl,by decide+kernel,by decide+kernel⟩
theorem _9O:FnScope ["T","known","size","name"] ["T","known"] (Z01 Z1n):=⟨rfl,rfl,rfl,by decide+kernel,rfl,by decide+kernel,by decide+kernel⟩
theorem _9P:FnScope ["step","known","count","ferry_names"] ["step","known","count","ferry_names"] (Z01 Z1o):=⟨rfl,rfl,rfl,by decide+kernel,rfl,by decide+kernel,by decide+kernel⟩
theorem _8o:FnScope ["width","island","ferry_names","known","step"] ["width","island","ferry_names"] (Z01 Z0V):=⟨rfl,rfl,rfl,by decide+kernel,rfl,by decide+kernel,by decide+kernel⟩
theorem _76:FnScope ["width","islands","ferry_names","earlier","island"] ["width","islands","ferry_names"] (Z01 Z0Q):=⟨rfl,rfl,rfl,by decide+kernel,rfl,by decide+kernel,by decide+kernel⟩
theorem _8L:FnScope ["ferry","island_names"] ["ferry","island_names"] (Z01 Z14):=⟨rfl,rfl,rfl,by decide+kernel,rfl,by decide+kernel,by decide+kernel⟩
theorem _5W:FnScope ["name","step","givers","takers"] ["name","step","givers","takers"] (Z01 Z0D):=⟨rfl,rfl,rfl,by decide+kernel,rfl,by decide+kernel,by decide+kernel⟩
theorem _59:FnScope ["islands","ferries","givers","takers","island","step"] ["islands","ferries"] (Z01 Z0w):=⟨rfl,rfl,rfl,by decide+kernel,rfl,by decide+kernel,by decide+kernel⟩
theorem _bO:FnScope ["value"] ["value"] (Z01 Z6k):=⟨rfl,rfl,rfl,by decide+kernel,rfl,by decide+kernel,by decide+kernel⟩
theorem _iV:FnScope ["width","islands","ferries","island_names","ferry"] ["width","islands","ferries"] (Z01 ZbW):=⟨rfl,rfl,rfl,by decide+kernel,rfl,by decide+kernel,by decide+kernel⟩
theorem _b0:FnScope ["T","words","part"] ["T"] (Z01 Z1L):=⟨rfl,rfl,rfl,by decide+kernel,rfl,by decide+kernel,by decide+kernel⟩
theorem _b1:FnScope ["step"] ["step"] (Z01 Z1M):=⟨rfl,rfl,rfl,by decide+kernel,rfl,by decide+kernel,by decide+kernel⟩
theorem _9S:FnScope ["island","rows"] ["island"] (Z01 Z1r):=⟨rfl,rfl,rfl,by decide+kernel,rfl,by decide+kernel,by decide+kernel⟩
theorem _ep:FnScope ["world","rows","island","ferry"] ["world"] (Z01 Z4f):=⟨rfl,rfl,rfl,by decide+kernel,rfl,by decide+kernel,by decide+kernel⟩
theorem _8n:FnScope ["words","count"] ["words","count"] (Z01 Z0U):=⟨rfl,rfl,rfl,by decide+kernel,rfl,by decide+kernel,by decide+kernel⟩
theorem _9R:FnScope ["word"] ["word"] (Z01 Z1q):=⟨rfl,rfl,rfl,by decide+kernel,rfl,by decide+kernel,by decide+kernel⟩
theorem _d6:FnScope ["word"] ["word"] (Z01 Z3h):=⟨rfl,rfl,rfl,by decide+kernel,rfl,by decide+kernel,by decide+kernel⟩
theorem _bN:FnScope ["words","form"] ["words"] (Z01 Z2r):=⟨rfl,rfl,rfl,by decide+kernel,rfl,by decide+kernel,by decide+kernel⟩
theorem _d7:FnScope ["words","marks","place"] ["words"] (Z01 Z3i):=⟨rfl,rfl,rfl,by decide+kernel,rfl,by decide+kernel,by decide+kernel⟩
theorem _bK:FnScope ["words","behind","mark","parts"] ["words"] (Z01 Z2o):=⟨rfl,rfl,rfl,by decide+kernel,rfl,by decide+kernel,by decide+kernel⟩
theorem _bL:FnScope ["words","T"] ["words"] (Z01 Z2p):=⟨rfl,rfl,rfl,by decide+kernel,rfl,by decide+kernel,by decide+kernel⟩
theorem _bM:FnScope ["words"] ["words"] (Z01 Z2q):=⟨rfl,rfl,rfl,by decide+kernel,rfl,by decide+kernel,by decide+kernel⟩
theorem _b3:FnScope ["words"] ["words"] (Z01 Z1O):=⟨rfl,rfl,rfl,by decide+kernel,rfl,by decide+kernel,by decide+kernel⟩
theorem _b2:FnScope ["words"] ["words"] (Z01 Z1N):=⟨rfl,rfl,rfl,by decide+kernel,rfl,by decide+kernel,by decide+kernel⟩
theorem _d5:FnScope ["words","islands","ferries"] ["words","islands","ferries"] (Z01 Z3g):=⟨rfl,rfl,rfl,by decide+kernel,rfl,by decide+kernel,by decide+kernel⟩
theorem _iU:FnScope ["text","rows","row","width","islands","ferries"] ["text"] (Z01 ZbV):=⟨rfl,rfl,rfl,by decide+kernel,rfl,by decide+kernel,by decide+kernel⟩
theorem _8O:FnScope ["script","k"] ["script","k"] (Z01 Z17):=⟨rfl,rfl,rfl,by decide+kernel,rfl,by decide+kernel,by decide+kernel⟩
theorem _9T:FnScope ["cell","many","found","number","k"] ["cell","many"] (Z01 Z1s):=⟨rfl,rfl,rfl,by decide+kernel,rfl,by decide+kernel,by decide+kernel⟩
theorem _bP:FnScope ["number","width","most"] ["number","width"] (Z01 Z2s):=⟨rfl,rfl,rfl,by decide+kernel,rfl,by decide+kernel,by decide+kernel⟩
theorem _b6:FnScope ["number"] ["number"] (Z01 Z1R):=⟨rfl,rfl,rfl,by decide+kernel,rfl,by decide+kernel,by decide+kernel⟩
theorem _bT:FnScope ["cell","k"] ["cell","k"] (Z01 Z2w):=⟨rfl,rfl,rfl,by decide+kernel,rfl,by decide+kernel,by decide+kernel⟩
theorem _bQ:FnScope ["number","deep","own","far","form","some"] ["number","deep","own"] (Z01 Z2t):=⟨rfl,rfl,rfl,by decide+kernel,rfl,by decide+kernel,by decide+kernel⟩
theorem _bR:FnScope ["number","name","many","own","ferries","takes","gives","rest","term"] ["number","name","many","own","ferries"] (Z01 Z2u):=⟨rfl,rfl,rfl,by decide+kernel,rfl,by decide+kernel,by decide+kernel⟩
theorem _9U:FnScope ["cell","number","width","name","ferries","numbers","own","first","k","many"] ["cell","number","width","name","ferries"] (Z01 Z1t):=⟨rfl,rfl,rfl,by decide+kernel,rfl,by decide+kernel,by decide+kernel⟩
theorem _b5:FnScope ["script","width","cell","names","numbers","ferries","k","at","other","sides","islands","name"] ["script"] (Z01 Z1Q):=⟨rfl,rfl,rfl,by decide+kernel,rfl,by decide+kernel,by decide+kernel⟩
theorem _8N:FnScope ["term"] ["term"] (Z01 Z16):=⟨rfl,rfl,rfl,by decide+kernel,rfl,by decide+kernel,by decide+kernel⟩
theorem _8p:FnScope ["step"] ["step"] (Z01 Z0W):=⟨rfl,rfl,rfl,by decide+kernel,rfl,by decide+kernel,by decide+kernel⟩
theorem _bS:FnScope ["width","islands","ferries","rows","name","own","steps","giver","taker","k","stages"] ["width","islands","ferries"] (Z01 Z2v):=⟨rfl,rfl,rfl,by decide+kernel,rfl,by decide+kernel,by decide+kernel⟩
theorem _kN:FnScope ["script","width","islands","ferries","due","world","found","again"] ["script"] (Z01 Zfo):=⟨rfl,rfl,rfl,by decide+kernel,rfl,by decide+kernel,by decide+kernel⟩
noncomputable def GB:List Str:=["all","bool","dict","int","isinstance","len","list","max","min","range","reversed","set","sorted","str","tuple"]
noncomputable def GL:List (Str×Int):=[("MOST_WIDTH",64),("MOST_LETTERS",8),("MOST_ISLANDS",5),("MOST_FERRIES",6),("MOST_VARS",6),("MOST_STEPS",12),("MOST_PARTS",30),("MOST_DEPTH",8),("MOST_K",3),("MOST_STAGES",3),("MOST_FIGURES",20)]
theorem _0k{w:World}{K:Y00}{j:Str->Option Value}{t:Adr}(T:Txt w K j t):∀x∈GB,j x=none:=(fMc ⟨T.cA,(fMc ⟨T.cm,(fMc ⟨T.cO,(fMc ⟨T.bW,(fMc ⟨T.bP,(fMc ⟨T.dB,(fMc ⟨T.bM,(fMc ⟨T.cV,(fMc ⟨T.cz,(fMc ⟨T.cF,(fMc ⟨T.cP,(fMc ⟨T.di,(fMc ⟨T.dl,(fMc ⟨T.dC,(fMc ⟨T.bA,(λ_ h=>nomatch h)⟩)⟩)⟩)⟩)⟩)⟩)⟩)⟩)⟩)⟩)⟩)⟩)⟩)⟩)⟩)
theorem _09{w:World}{K:Y00}{j:Str->Option Value}{t:Adr}(T:Txt w K j t):∀p∈GL,∃l,j p.1=some (.int p.2 l):=(fMc ⟨T.dA,(fMc ⟨T.ck,(fMc ⟨T.br,(fMc ⟨T.cv,(fMc ⟨T.dO,(fMc ⟨T.cf,(fMc ⟨T.dQ,(fMc ⟨T.dL,(fMc ⟨T.cg,(fMc ⟨T.cw,(fMc ⟨T.bo,(λ_ h=>nomatch h)⟩)⟩)⟩)⟩)⟩)⟩)⟩)⟩)⟩)⟩)⟩)
noncomputable def GD:List (Str×List (Str×Int)):=[("PARTS",[("plus",2),("minus",2),("times",2),("less",2),("same",2),("pick",3)])]
theorem _0j{P:Program}{w:World}{K:Y00}{j:Str->Option Value}{t:Adr}(T:Txt w K j t):∀p∈GD,∃a,j p.1=some (.ref a)/\GDict P w K a p.2:=(fMc ⟨(T.dh P),(λ_ h=>nomatch h)⟩)
noncomputable def Z9s:ISs:=.cons (.ret (.and (.bi .isinst (.var 0) (.cons (.ty .int) .nil)) (.not (.bi .isinst (.var 0) (.cons (.ty .bool) .nil))))) .nil
abbrev Z6d:ISs:=Z9s
def ZaS:GI:=⟨GB,GL,[],[],[],[],GD⟩
theorem _dF:chkSs ZaS (Z01 Z3k) ["value"] Z6d (Z04 Z3k)=true:=by decide+kernel
noncomputable def Z9r:ISs:=.cons (.ret (.and (.call 0 (.var 0) .nil) (.chn .LtE .LtE (.int 1) (.var 0) (.glb "MOST_WIDTH" 64)))) .nil
abbrev Z6c:ISs:=Z9r
def ZaR:GI:=⟨GB,GL,["is_whole"],[],[],[],GD⟩
theorem _dE:chkSs ZaR (Z01 Z3j) ["number"] Z6c (Z04 Z3j)=true:=by decide+kernel
noncomputable def Zcf:ISs:=.cons (.ret (.var 1)) .nil
noncomputable def Zcg:ISs:=.cons (.set 1 (.bin .Mult (.var 1) (.int 2))) .nil
def Zch:ISs:=.cons (.for_ (.nm 2) (.rng (.var 0)) Zcg) Zcf
def Zci:ISs:=.cons (.set 1 (.int 1)) Zch
abbrev Z9e:ISs:=Zci
def Zem:GI:=⟨GB,GL,[],[],[],[],GD⟩
theorem _gD:chkSs Zem (Z01 Z6j) ["exponent","answer","k"] Z9e (Z04 Z6j)=true:=by decide+kernel
noncomputable def Zgs:ISs:=.cons (.ret (.and (.call 0 (.var 1) .nil) (.chn .LtE .Lt (.int 0) (.var 1) (.call 1 (.var 0) .nil)))) .nil
abbrev Zdt:ISs:=Zgs
def ZiJ:GI:=⟨GB,GL,["is_whole","two_to"],[],[],[],GD⟩
theorem _ki:chkSs ZiJ (Z01 ZbX) ["width","number"] Zdt (Z04 ZbX)=true:=by decide+kernel
noncomputable def Z2M:ISs:=.cons (.ret (.bi .list (.sl (.var 0) (.some (.int 1)) .none) .nil)) .nil
noncomputable def Z2N:ISs:=.cons (.ret (.lst .nil)) .nil
def Z4J:ISs:=.cons (.ite (.or (.cmp .Eq (.ix (.var 0) (.int 0)) (.str "num")) (.cmp .Eq (.ix (.var 0) (.int 0)) (.str "var"))) Z2N .nil) Z2M
abbrev Z2J:ISs:=Z4J
def Z5R:GI:=⟨GB,GL,[],[],[],[],GD⟩
theorem _9A:chkSs Z5R (Z01 Z15) ["T"] Z2J (Z04 Z15)=true:=by decide+kernel
noncomputable def Zax:ISs:=.cons (.ret (.tup (.cons (.var 1) (.cons (.bin .Add (.var 2) (.int 1)) .nil)))) .nil
noncomputable def Zay:ISs:=.cons (.set 2 (.bi .max (.var 2) (.cons (.ix (.var 4) (.int 1)) .nil))) .nil
def Zaz:ISs:=.cons (.set 1 (.bin .Add (.var 1) (.ix (.var 4) (.int 0)))) Zay
def ZaA:ISs:=.cons (.set 4 (.call 1 (.var 3) .nil)) Zaz
def ZaB:ISs:=.cons (.for_ (.nm 3) (.seq (.call 0 (.var 0) .nil)) ZaA) Zax
def ZaC:ISs:=.cons (.set 2 (.int 0)) ZaB
def ZaD:ISs:=.cons (.set 1 (.int 1)) ZaC
abbrev Z7d:ISs:=ZaD
def ZcW:GI:=⟨GB,GL,["parts_within","size_of"],[],[],[],GD⟩
theorem _eR:chkSs ZcW (Z01 Z4h) ["T","parts","deepest","part","size"] Z7d (Z04 Z4h)=true:=by decide+kernel
noncomputable def Z6D:ISs:=.cons (.ret (.var 1)) .nil
noncomputable def Z6E:ISs:=.cons (.expr (.mt .extend (.var 1) (.cons (.call 0 (.var 2) .nil) .nil))) .nil
def Z6F:ISs:=.cons (.for_ (.nm 2) (.seq (.call 1 (.var 0) .nil)) Z6E) Z6D
def Z3R:ISs:=.cons (.set 1 (.lst .nil)) Z6F
noncomputable def Z6G:ISs:=.cons (.ret (.lst (.cons (.ix (.var 0) (.int 1)) .nil))) .nil
def Z6H:ISs:=.cons (.ite (.cmp .Eq (.ix (.var 0) (.int 0)) (.str "var")) Z6G .nil) Z3R
abbrev Z3O:ISs:=Z6H
def Z8k:GI:=⟨GB,GL,["names_read","parts_within"],[],[],[],GD⟩
theorem _bt:chkSs Z8k (Z01 Z1P) ["T","names","part"] Z3O (Z04 Z1P)=true:=by decide+kernel
noncomputable def Zaw:ISs:=.cons (.ret (.b2 .ssrt (.call 0 (.var 0) .nil))) .nil
abbrev Z7c:ISs:=Zaw
def ZcV:GI:=⟨GB,GL,["names_read"],[],[],[],GD⟩
theorem _eQ:chkSs ZcV (Z01 Z4g) ["T"] Z7c (Z04 Z4g)=true:=by decide+kernel
noncomputable def ZaG:ISs:=.cons (.ret (.and (.chn .LtE .LtE (.int 1) (.bi .len (.var 0) .nil) (.glb "MOST_LETTERS" 8)) (.bi .all (.comp ["sign"] [] (.seq (.var 0)) (.nm 0) .none (.chn .LtE .LtE (.str "a") (.var 0) (.str "z"))) .nil))) .nil
abbrev Z7e:ISs:=ZaG
def ZcX:GI:=⟨GB,GL,[],[],[],[],GD⟩
theorem _eS:chkSs ZcX (Z01 Z4i) ["text"] Z7e (Z04 Z4i)=true:=by decide+kernel
noncomputable def Za3:ISs:=.cons .never .nil
def Z5r:ISs:=.cons (.ite (.cmp .In (.var 0) (.var 1)) Za3 .nil) .nil
noncomputable def Za4:ISs:=.cons .never .nil
def Z5s:ISs:=.cons (.ite (.not (.call 0 (.var 0) .nil)) Za4 .nil) Z5r
abbrev Z38:ISs:=Z5s
def Z6Z:GI:=⟨GB,GL,["is_name"],[],[],[],GD⟩
theorem _ac:chkSs Z6Z (Z01 Z1p) ["text","earlier"] Z38 (Z04 Z1p)=true:=by decide+kernel
noncomputable def Z7a:ISs:=.cons .never .nil
def Z3r:ISs:=.cons (.ite (.cmp .NotIn (.var 0) (.var 1)) Z7a .nil) .nil
abbrev Z1F:ISs:=Z3r
def Z49:GI:=⟨GB,GL,[],[],[],[],GD⟩
theorem _7h:chkSs Z49 (Z01 Z0P) ["name","known"] Z1F (Z04 Z0P)=true:=by decide+kernel
noncomputable def Z1U:ISs:=.cons (.expr (.mt .append (.var 1) (.cons (.ix (.var 2) (.int 0)) .nil))) .nil
def Z1V:ISs:=.cons (.expr (.call 0 (.ix (.var 2) (.int 0)) (.cons (.var 1) .nil))) Z1U
def Z1W:ISs:=.cons (.for_ (.nm 2) (.seq (.var 0)) Z1V) .nil
def Z1X:ISs:=.cons (.set 1 (.lst .nil)) Z1W
abbrev Z0Y:ISs:=Z1X
def Z2g:GI:=⟨GB,GL,["refuse_name"],[],[],[],GD⟩
theorem _50:chkSs Z2g (Z01 Z0o) ["ferries","earlier","ferry"] Z0Y (Z04 Z0o)=true:=by decide+kernel
noncomputable def Z66:ISs:=.cons .never .nil
def Z2C:ISs:=.cons (.ite (.not (.call 0 (.var 0) (.cons (.ix (.var 3) (.int 1)) .nil))) Z66 .nil) .nil
def Z2D:ISs:=.cons (.expr (.mt .append (.var 2) (.cons (.var 4) .nil))) Z2C
def Z2E:ISs:=.cons (.expr (.call 1 (.var 4) (.cons (.var 2) .nil))) Z2D
def Z2F:ISs:=.cons (.set 4 (.ix (.var 3) (.int 0))) Z2E
def Z2G:ISs:=.cons (.for_ (.nm 3) (.seq (.var 1)) Z2F) .nil
def Z2H:ISs:=.cons (.set 2 (.lst .nil)) Z2G
abbrev Z1h:ISs:=Z2H
def Z30:GI:=⟨GB,GL,["fits","refuse_name"],[],[],[],GD⟩
theorem _6f:chkSs Z30 (Z01 Z0E) ["width","pairs","earlier","pair","name"] Z1h (Z04 Z0E)=true:=by decide+kernel
noncomputable def Z5f:ISs:=.cons (.expr (.call 0 (.var 3) (.cons (.var 1) .nil))) .nil
def Z5g:ISs:=.cons (.for_ (.nm 3) (.seq (.call 2 (.var 0) .nil)) Z5f) .nil
noncomputable def Za2:ISs:=.cons .never .nil
def Z5h:ISs:=.cons (.ite (.or (.cmp .Gt (.ix (.var 2) (.int 0)) (.glb "MOST_PARTS" 30)) (.cmp .Gt (.ix (.var 2) (.int 1)) (.glb "MOST_DEPTH" 8))) Za2 .nil) Z5g
def Z5i:ISs:=.cons (.set 2 (.call 1 (.var 0) .nil)) Z5h
abbrev Z36:ISs:=Z5i
def Z6X:GI:=⟨GB,GL,["refuse_unknown","size_of","vars_in"],[],[],[],GD⟩
theorem _aa:chkSs Z6X (Z01 Z1n) ["T","known","size","name"] Z36 (Z04 Z1n)=true:=by decide+kernel
noncomputable def Z5o:ISs:=.cons (.expr (.call 1 (.ix (.var 0) (.int 2)) (.cons (.var 1) .nil))) .nil
def Z5p:ISs:=.cons (.expr (.call 1 (.ix (.var 0) (.int 1)) (.cons (.var 3) .nil))) Z5o
noncomputable def Z5m:ISs:=.cons (.expr (.call 0 (.ix (.var 0) (.int 2)) (.cons (.var 1) .nil))) .nil
def Z5n:ISs:=.cons (.expr (.call 1 (.ix (.var 0) (.int 1)) (.cons (.var 3) .nil))) Z5m
noncomputable def Z5k:ISs:=.cons (.expr (.call 0 (.ix (.var 0) (.int 2)) (.cons (.var 1) .nil))) .nil
def Z5l:ISs:=.cons (.expr (.call 1 (.ix (.var 0) (.int 1)) (.cons (.var 1) .nil))) Z5k
noncomputable def Z92:ISs:=.cons .never .nil
def Z4s:ISs:=.cons (.ite (.not (.chn .LtE .LtE (.int 0) (.ix (.var 0) (.int 2)) (.var 2))) Z92 .nil) .nil
def Z5j:ISs:=.cons (.expr (.call 0 (.ix (.var 0) (.int 1)) (.cons (.var 1) .nil))) Z4s
def Z34:ISs:=.cons (.ite (.cmp .Eq (.ix (.var 0) (.int 0)) (.str "put")) Z5l Z5j) .nil
def Z1I:ISs:=.cons (.ite (.cmp .Eq (.ix (.var 0) (.int 0)) (.str "give")) Z5n Z34) .nil
def Z5q:ISs:=.cons (.ite (.cmp .Eq (.ix (.var 0) (.int 0)) (.str "take")) Z5p Z1I) .nil
abbrev Z37:ISs:=Z5q
def Z6Y:GI:=⟨GB,GL,["refuse_term","refuse_unknown"],[],[],[],GD⟩
theorem _ab:chkSs Z6Y (Z01 Z1o) ["step","known","count","ferry_names"] Z37 (Z04 Z1o)=true:=by decide+kernel
noncomputable def Z40:ISs:=.cons (.expr (.call 0 (.var 4) (.cons (.var 3) (.cons (.bi .len (.ix (.var 1) (.int 2)) .nil) (.cons (.var 2) .nil))))) .nil
def Z41:ISs:=.cons (.for_ (.nm 4) (.seq (.ix (.var 1) (.int 2))) Z40) .nil
def Z42:ISs:=.cons (.set 3 (.comp ["pair"] [] (.seq (.ix (.var 1) (.int 1))) (.nm 0) .none (.ix (.var 0) (.int 0)))) Z41
def Z43:ISs:=.cons (.expr (.call 1 (.var 0) (.cons (.ix (.var 1) (.int 1)) .nil))) Z42
noncomputable def Z8x:ISs:=.cons .never .nil
def Z44:ISs:=.cons (.ite (.cmp .Gt (.bi .len (.ix (.var 1) (.int 2)) .nil) (.glb "MOST_STEPS" 12)) Z8x .nil) Z43
noncomputable def Z8y:ISs:=.cons .never .nil
def Z45:ISs:=.cons (.ite (.cmp .Gt (.bi .len (.ix (.var 1) (.int 1)) .nil) (.glb "MOST_VARS" 6)) Z8y .nil) Z44
abbrev Z26:ISs:=Z45
def Z53:GI:=⟨GB,GL,["refuse_step","refuse_variables"],[],[],[],GD⟩
theorem _8A:chkSs Z53 (Z01 Z0V) ["width","island","ferry_names","known","step"] Z26 (Z04 Z0V)=true:=by decide+kernel
noncomputable def Z3s:ISs:=.cons (.expr (.call 0 (.var 0) (.cons (.var 4) (.cons (.var 2) .nil)))) .nil
def Z3t:ISs:=.cons (.expr (.mt .append (.var 3) (.cons (.ix (.var 4) (.int 0)) .nil))) Z3s
def Z3u:ISs:=.cons (.expr (.call 1 (.ix (.var 4) (.int 0)) (.cons (.var 3) .nil))) Z3t
def Z3v:ISs:=.cons (.for_ (.nm 4) (.seq (.var 1)) Z3u) .nil
def Z3w:ISs:=.cons (.set 3 (.bi .list (.var 2) .nil)) Z3v
abbrev Z1G:ISs:=Z3w
def Z4a:GI:=⟨GB,GL,["refuse_island","refuse_name"],[],[],[],GD⟩
theorem _7i:chkSs Z4a (Z01 Z0Q) ["width","islands","ferry_names","earlier","island"] Z1G (Z04 Z0Q)=true:=by decide+kernel
noncomputable def Z93:ISs:=.cons .never .nil
def Z4t:ISs:=.cons (.ite (.not (.chn .LtE .LtE (.int 1) (.ix (.var 0) (.int 4)) (.glb "MOST_STAGES" 3))) Z93 .nil) .nil
noncomputable def Z94:ISs:=.cons .never .nil
def Z4u:ISs:=.cons (.ite (.not (.chn .LtE .LtE (.int 0) (.ix (.var 0) (.int 3)) (.glb "MOST_K" 3))) Z94 .nil) Z4t
noncomputable def Z95:ISs:=.cons .never .nil
def Z4v:ISs:=.cons (.ite (.cmp .Eq (.ix (.var 0) (.int 1)) (.ix (.var 0) (.int 2))) Z95 .nil) Z4u
def Z4w:ISs:=.cons (.expr (.call 0 (.ix (.var 0) (.int 2)) (.cons (.var 1) .nil))) Z4v
def Z4x:ISs:=.cons (.expr (.call 0 (.ix (.var 0) (.int 1)) (.cons (.var 1) .nil))) Z4w
abbrev Z2I:ISs:=Z4x
def Z5Q:GI:=⟨GB,GL,["refuse_unknown"],[],[],[],GD⟩
theorem _9z:chkSs Z5Q (Z01 Z14) ["ferry","island_names"] Z2I (Z04 Z14)=true:=by decide+kernel
noncomputable def Z64:ISs:=.cons .never .nil
def Z0x:ISs:=.cons (.ite (.and (.cmp .Eq (.ix (.var 1) (.int 0)) (.str "give")) (.cmp .NotEq (.ix (.var 2) (.ix (.var 1) (.int 1))) (.var 0))) Z64 .nil) .nil
noncomputable def Z65:ISs:=.cons .never .nil
def Z2B:ISs:=.cons (.ite (.and (.cmp .Eq (.ix (.var 1) (.int 0)) (.str "take")) (.cmp .NotEq (.ix (.var 3) (.ix (.var 1) (.int 1))) (.var 0))) Z65 .nil) Z0x
abbrev Z1g:ISs:=Z2B
def Z2Z:GI:=⟨GB,GL,[],[],[],[],GD⟩
theorem _6e:chkSs Z2Z (Z01 Z0D) ["name","step","givers","takers"] Z1g (Z04 Z0D)=true:=by decide+kernel
noncomputable def Z2a:ISs:=.cons (.expr (.call 0 (.ix (.var 4) (.int 0)) (.cons (.var 5) (.cons (.var 2) (.cons (.var 3) .nil))))) .nil
def Z2b:ISs:=.cons (.for_ (.nm 5) (.seq (.ix (.var 4) (.int 2))) Z2a) .nil
def Z2c:ISs:=.cons (.for_ (.nm 4) (.seq (.var 0)) Z2b) .nil
def Z2d:ISs:=.cons (.set 3 (.bi .dictL (.comp ["ferry"] [] (.seq (.var 1)) (.nm 0) .none (.tup (.cons (.ix (.var 0) (.int 0)) (.cons (.ix (.var 0) (.int 2)) .nil)))) .nil)) Z2c
def Z2e:ISs:=.cons (.set 2 (.bi .dictL (.comp ["ferry"] [] (.seq (.var 1)) (.nm 0) .none (.tup (.cons (.ix (.var 0) (.int 0)) (.cons (.ix (.var 0) (.int 1)) .nil)))) .nil)) Z2d
abbrev Z11:ISs:=Z2e
def Z2Q:GI:=⟨GB,GL,["refuse_wrong_end"],[],[],[],GD⟩
theorem _5c:chkSs Z2Q (Z01 Z0w) ["islands","ferries","givers","takers","island","step"] Z11 (Z04 Z0w)=true:=by decide+kernel
noncomputable def Z3y:ISs:=.cons (.ret (.var 0)) .nil
noncomputable def Z9t:ISs:=.cons (.ret (.bi .tuple (.comp ["part"] [] (.seq (.var 0)) (.nm 0) .none (.call 0 (.var 0) .nil)) .nil)) .nil
def Z9u:ISs:=.cons (.ite (.bi .isinst (.var 0) (.cons (.tup (.cons (.ty .list) (.cons (.ty .tuple) .nil))) .nil)) Z9t .nil) Z3y
abbrev Z3x:ISs:=Z9u
def ZbA:GI:=⟨GB,GL,["frozen"],[],[],[],GD⟩
theorem _cB:chkSs ZbA (Z01 Z6k) ["value"] Z3x (Z04 Z6k)=true:=by decide+kernel
noncomputable def Ze8:ISs:=.cons (.ret (.call 0 (.tup (.cons (.var 0) (.cons (.var 1) (.cons (.var 2) .nil)))) .nil)) .nil
def Ze9:ISs:=.cons (.expr (.call 5 (.var 1) (.cons (.var 2) .nil))) Ze8
noncomputable def Zea:ISs:=.cons (.expr (.call 2 (.var 4) (.cons (.var 3) .nil))) .nil
def Zgk:ISs:=.cons (.for_ (.nm 4) (.seq (.var 2)) Zea) Ze9
def Zgl:ISs:=.cons (.set 3 (.comp ["island"] [] (.seq (.var 1)) (.nm 0) .none (.ix (.var 0) (.int 0)))) Zgk
def Zgm:ISs:=.cons (.expr (.call 4 (.var 0) (.cons (.var 1) (.cons (.comp ["ferry"] [] (.seq (.var 2)) (.nm 0) .none (.ix (.var 0) (.int 0))) .nil)))) Zgl
def Zgn:ISs:=.cons (.expr (.call 3 (.var 2) .nil)) Zgm
noncomputable def Zk6:ISs:=.cons .never .nil
def Zgo:ISs:=.cons (.ite (.cmp .Gt (.bi .len (.var 2) .nil) (.glb "MOST_FERRIES" 6)) Zk6 .nil) Zgn
noncomputable def Zk7:ISs:=.cons .never .nil
def Zgp:ISs:=.cons (.ite (.cmp .Gt (.bi .len (.var 1) .nil) (.glb "MOST_ISLANDS" 5)) Zk7 .nil) Zgo
noncomputable def Zk8:ISs:=.cons .never .nil
def Zgq:ISs:=.cons (.ite (.not (.call 1 (.var 0) .nil)) Zk8 .nil) Zgp
abbrev Zds:ISs:=Zgq
def ZiI:GI:=⟨GB,GL,["frozen","is_width","refuse_ferry","refuse_ferry_names","refuse_islands","refuse_wrong_ends"],[],[],[],GD⟩
theorem _kh:chkSs ZiI (Z01 ZbW) ["width","islands","ferries","island_names","ferry"] Zds (Z04 ZbW)=true:=by decide+kernel
noncomputable def Z6r:ISs:=.cons (.ret (.var 1)) .nil
noncomputable def Z6s:ISs:=.cons (.expr (.mt .extend (.var 1) (.cons (.call 0 (.var 2) .nil) .nil))) .nil
def Z6t:ISs:=.cons (.for_ (.nm 2) (.seq (.sl (.var 0) (.some (.int 1)) .none)) Z6s) Z6r
def Z3E:ISs:=.cons (.set 1 (.lst (.cons (.ix (.var 0) (.int 0)) .nil))) Z6t
noncomputable def Z3F:ISs:=.cons (.ret (.lst (.cons (.ix (.var 0) (.int 0)) (.cons (.bi .str (.ix (.var 0) (.int 1)) .nil) .nil)))) .nil
def Z6u:ISs:=.cons (.ite (.or (.cmp .Eq (.ix (.var 0) (.int 0)) (.str "num")) (.cmp .Eq (.ix (.var 0) (.int 0)) (.str "var"))) Z3F .nil) Z3E
abbrev Z3K:ISs:=Z6u
def Z8g:GI:=⟨GB,GL,["term_words"],[],[],[],GD⟩
theorem _bp:chkSs Z8g (Z01 Z1L) ["T","words","part"] Z3K (Z04 Z1L)=true:=by decide+kernel
noncomputable def Z3G:ISs:=.cons (.ret (.bin .Add (.lst (.cons (.ix (.var 0) (.int 0)) (.cons (.ix (.var 0) (.int 1)) .nil))) (.call 0 (.ix (.var 0) (.int 2)) .nil))) .nil
noncomputable def Z6v:ISs:=.cons (.ret (.bin .Add (.lst (.cons (.str "jump") (.cons (.bi .str (.ix (.var 0) (.int 2)) .nil) .nil))) (.call 0 (.ix (.var 0) (.int 1)) .nil))) .nil
def Z2k:ISs:=.cons (.ite (.cmp .Eq (.ix (.var 0) (.int 0)) (.str "jump")) Z6v .nil) Z3G
noncomputable def Z6w:ISs:=.cons (.ret (.bi .list (.var 0) .nil)) .nil
def Z6x:ISs:=.cons (.ite (.cmp .Eq (.ix (.var 0) (.int 0)) (.str "take")) Z6w .nil) Z2k
abbrev Z3L:ISs:=Z6x
def Z8h:GI:=⟨GB,GL,["term_words"],[],[],[],GD⟩
theorem _bq:chkSs Z8h (Z01 Z1M) ["step"] Z3L (Z04 Z1M)=true:=by decide+kernel
noncomputable def Z5v:ISs:=.cons (.ret (.var 1)) .nil
def Z5w:ISs:=.cons (.expr (.mt .extend (.var 1) (.cons (.comp ["step"] [] (.seq (.ix (.var 0) (.int 2))) (.nm 0) .none (.call 0 (.var 0) .nil)) .nil))) Z5v
def Z5x:ISs:=.cons (.expr (.mt .extend (.var 1) (.cons (.comp ["pair"] [] (.seq (.ix (.var 0) (.int 1))) (.nm 0) .none (.lst (.cons (.str "var") (.cons (.ix (.var 0) (.int 0)) (.cons (.bi .str (.ix (.var 0) (.int 1)) .nil) .nil))))) .nil))) Z5w
def Z5y:ISs:=.cons (.set 1 (.lst (.cons (.lst (.cons (.str "island") (.cons (.ix (.var 0) (.int 0)) .nil))) .nil))) Z5x
abbrev Z3a:ISs:=Z5y
def Z71:GI:=⟨GB,GL,["step_words"],[],[],[],GD⟩
theorem _ae:chkSs Z71 (Z01 Z1r) ["island","rows"] Z3a (Z04 Z1r)=true:=by decide+kernel
noncomputable def Zaq:ISs:=.cons (.ret (.mt .join (.str "\n") (.cons (.comp ["row"] [] (.seq (.var 1)) (.nm 0) .none (.mt .join (.str " ") (.cons (.var 0) .nil))) .nil))) .nil
noncomputable def Zar:ISs:=.cons (.expr (.mt .append (.var 1) (.cons (.lst (.cons (.str "ferry") (.cons (.ix (.var 3) (.int 0)) (.cons (.ix (.var 3) (.int 1)) (.cons (.ix (.var 3) (.int 2)) (.cons (.bi .str (.ix (.var 3) (.int 3)) .nil) (.cons (.bi .str (.ix (.var 3) (.int 4)) .nil) .nil))))))) .nil))) .nil
def Zas:ISs:=.cons (.for_ (.nm 3) (.seq (.ix (.var 0) (.int 2))) Zar) Zaq
noncomputable def Zat:ISs:=.cons (.expr (.mt .extend (.var 1) (.cons (.call 0 (.var 2) .nil) .nil))) .nil
def Zau:ISs:=.cons (.for_ (.nm 2) (.seq (.ix (.var 0) (.int 1))) Zat) Zas
def Zav:ISs:=.cons (.set 1 (.lst (.cons (.lst (.cons (.str "width") (.cons (.bi .str (.ix (.var 0) (.int 0)) .nil) .nil))) .nil))) Zau
abbrev Z7b:ISs:=Zav
def ZcU:GI:=⟨GB,GL,["island_rows"],[],[],[],GD⟩
theorem _eP:chkSs ZcU (Z01 Z4f) ["world","rows","island","ferry"] Z7b (Z04 Z4f)=true:=by decide+kernel
noncomputable def Z8w:ISs:=.cons .never .nil
def Z3Z:ISs:=.cons (.ite (.cmp .NotEq (.bi .len (.var 0) .nil) (.var 1)) Z8w .nil) .nil
abbrev Z25:ISs:=Z3Z
def Z52:GI:=⟨GB,GL,[],[],[],[],GD⟩
theorem _8z:chkSs Z52 (Z01 Z0U) ["words","count"] Z25 (Z04 Z0U)=true:=by decide+kernel
noncomputable def Z35:ISs:=.cons (.ret (.bi .int (.var 0) .nil)) .nil
noncomputable def Za5:ISs:=.cons .never .nil
def Z5t:ISs:=.cons (.ite (.and (.cmp .Eq (.ix (.var 0) (.int 0)) (.str "0")) (.cmp .NotEq (.var 0) (.str "0"))) Za5 .nil) Z35
noncomputable def Za6:ISs:=.cons .never .nil
def Z5u:ISs:=.cons (.ite (.or (.not (.chn .LtE .LtE (.int 1) (.bi .len (.var 0) .nil) (.glb "MOST_FIGURES" 20))) (.not (.bi .all (.comp ["sign"] [] (.seq (.var 0)) (.nm 0) .none (.chn .LtE .LtE (.str "0") (.var 0) (.str "9"))) .nil))) Za6 .nil) Z5t
abbrev Z39:ISs:=Z5u
def Z70:GI:=⟨GB,GL,[],[],[],[],GD⟩
theorem _ad:chkSs Z70 (Z01 Z1q) ["word"] Z39 (Z04 Z1q)=true:=by decide+kernel
noncomputable def Z9a:ISs:=.cons (.ret (.neg (.call 0 (.sl (.var 0) (.some (.int 1)) .none) .nil))) .nil
noncomputable def Zdq:ISs:=.cons .never .nil
def Z9b:ISs:=.cons (.ite (.cmp .Eq (.var 0) (.str "-0")) Zdq .nil) Z9a
noncomputable def Z9c:ISs:=.cons (.ret (.call 0 (.var 0) .nil)) .nil
def Z9d:ISs:=.cons (.ite (.not (.mt .starts (.var 0) (.cons (.str "-") .nil))) Z9c .nil) Z9b
abbrev Z6a:ISs:=Z9d
def ZaP:GI:=⟨GB,GL,["read_number"],[],[],[],GD⟩
theorem _dC:chkSs ZaP (Z01 Z3h) ["word"] Z6a (Z04 Z3h)=true:=by decide+kernel
noncomputable def Zco:ISs:=.cons .never .nil
def Zcp:ISs:=.cons (.set 1 (.ix (.var 0) (.int 0))) Zco
noncomputable def Z7H:ISs:=.cons (.ret (.tup (.cons (.str "var") (.cons (.ix (.var 0) (.int 1)) .nil)))) .nil
def Z7I:ISs:=.cons (.ite (.cmp .Eq (.ix (.var 0) (.int 0)) (.str "var")) Z7H .nil) Zcp
noncomputable def Z7J:ISs:=.cons (.ret (.tup (.cons (.str "num") (.cons (.call 0 (.ix (.var 0) (.int 1)) .nil) .nil)))) .nil
def Z7K:ISs:=.cons (.ite (.cmp .Eq (.ix (.var 0) (.int 0)) (.str "num")) Z7J .nil) Z7I
def Z7L:ISs:=.cons (.expr (.call 1 (.var 0) (.cons (.int 2) .nil))) Z7K
abbrev Z4D:ISs:=Z7L
def Z9H:GI:=⟨GB,GL,["read_num","refuse_length"],[],[],[],GD⟩
theorem _cA:chkSs Z9H (Z01 Z2r) ["words","form"] Z4D (Z04 Z2r)=true:=by decide+kernel
noncomputable def Z9i:ISs:=.cons (.ret (.var 1)) .nil
noncomputable def Z9l:ISs:=.cons (.set 2 (.bin .Add (.var 2) (.int 1))) .nil
def Z9m:ISs:=.cons (.expr (.mt .append (.var 1) (.cons (.ix (.var 0) (.var 2)) .nil))) Z9l
noncomputable def Z9j:ISs:=.cons (.set 2 (.bin .Add (.var 2) (.int 2))) .nil
def Z9k:ISs:=.cons (.expr (.mt .append (.var 1) (.cons (.call 0 (.sl (.var 0) (.some (.var 2)) (.some (.bin .Add (.var 2) (.int 2)))) .nil) .nil))) Z9j
def Z9n:ISs:=.cons (.ite (.gin "PARTS" [("plus",2),("minus",2),("times",2),("less",2),("same",2),("pick",3)] (.ix (.var 0) (.var 2))) Z9m Z9k) .nil
def Z9o:ISs:=.cons (.while_ (.cmp .Lt (.var 2) (.bi .len (.var 0) .nil)) Z9n) Z9i
def Z9p:ISs:=.cons (.set 2 (.int 0)) Z9o
def Z9q:ISs:=.cons (.set 1 (.lst .nil)) Z9p
abbrev Z6b:ISs:=Z9q
def ZaQ:GI:=⟨GB,GL,["read_leaf"],[],[],[],GD⟩
theorem _dD:chkSs ZaQ (Z01 Z3i) ["words","marks","place"] Z6b (Z04 Z3i)=true:=by decide+kernel
noncomputable def Z7q:ISs:=.cons (.ret (.ix (.var 1) (.int 0))) .nil
def Z7r:ISs:=.cons (.expr (.call 1 (.var 1) (.cons (.int 1) .nil))) Z7q
noncomputable def Z4y:ISs:=.cons (.expr (.mt .append (.var 1) (.cons (.var 2) .nil))) .nil
noncomputable def Zck:ISs:=.cons .never .nil
noncomputable def Z7s:ISs:=.cons (.expr (.mt .append (.var 1) (.cons (.bin .Add (.tup (.cons (.var 2) .nil)) (.bi .tuple (.var 3) .nil)) .nil))) .nil
def Z7t:ISs:=.cons (.set 3 (.comp ["k"] [1] (.rng (.gix "PARTS" [("plus",2),("minus",2),("times",2),("less",2),("same",2),("pick",3)] (.var 2))) (.nm 0) .none (.mt .pop (.var 1) .nil))) Z7s
def Z7u:ISs:=.cons (.ite (.cmp .Lt (.bi .len (.var 1) .nil) (.gix "PARTS" [("plus",2),("minus",2),("times",2),("less",2),("same",2),("pick",3)] (.var 2))) Zck Z7t) .nil
def Z7v:ISs:=.cons (.ite (.bi .isinst (.var 2) (.cons (.ty .tuple) .nil)) Z4y Z7u) .nil
def Z7w:ISs:=.cons (.for_ (.nm 2) (.rev (.call 0 (.var 0) .nil)) Z7v) Z7r
def Z7x:ISs:=.cons (.set 1 (.lst .nil)) Z7w
abbrev Z4A:ISs:=Z7x
def Z9E:GI:=⟨GB,GL,["marks_of","refuse_length"],[],[],[],GD⟩
theorem _cx:chkSs Z9E (Z01 Z2o) ["words","behind","mark","parts"] Z4A (Z04 Z2o)=true:=by decide+kernel
noncomputable def Z3H:ISs:=.cons (.ret (.tup (.cons (.ix (.var 0) (.int 0)) (.cons (.ix (.var 0) (.int 1)) (.cons (.var 1) .nil))))) .nil
noncomputable def Z7y:ISs:=.cons (.ret (.tup (.cons (.str "jump") (.cons (.var 1) (.cons (.call 0 (.ix (.var 0) (.int 1)) .nil) .nil))))) .nil
def Z1Y:ISs:=.cons (.ite (.cmp .Eq (.ix (.var 0) (.int 0)) (.str "jump")) Z7y .nil) Z3H
def Z4z:ISs:=.cons (.set 1 (.call 1 (.sl (.var 0) (.some (.int 2)) .none) .nil)) Z1Y
noncomputable def Z7z:ISs:=.cons (.ret (.tup (.cons (.str "take") (.cons (.ix (.var 0) (.int 1)) (.cons (.ix (.var 0) (.int 2)) .nil))))) .nil
def Z7A:ISs:=.cons (.expr (.call 2 (.var 0) (.cons (.int 3) .nil))) Z7z
def Z1Z:ISs:=.cons (.ite (.cmp .Eq (.ix (.var 0) (.int 0)) (.str "take")) Z7A .nil) Z4z
noncomputable def Zcl:ISs:=.cons .never .nil
def Z20:ISs:=.cons (.ite (.cmp .Lt (.bi .len (.var 0) .nil) (.int 3)) Zcl .nil) Z1Z
noncomputable def Zcm:ISs:=.cons .never .nil
def Z7B:ISs:=.cons (.ite (.cmp .NotIn (.ix (.var 0) (.int 0)) (.tup (.cons (.str "take") (.cons (.str "give") (.cons (.str "put") (.cons (.str "jump") .nil)))))) Zcm .nil) Z20
abbrev Z4B:ISs:=Z7B
def Z9F:GI:=⟨GB,GL,["read_number","read_term","refuse_length"],[],[],[],GD⟩
theorem _cy:chkSs Z9F (Z01 Z2p) ["words","T"] Z4B (Z04 Z2p)=true:=by decide+kernel
noncomputable def Z7F:ISs:=.cons (.ret (.tup (.cons (.ix (.var 0) (.int 1)) (.cons (.call 0 (.ix (.var 0) (.int 2)) .nil) .nil)))) .nil
def Z7G:ISs:=.cons (.expr (.call 1 (.var 0) (.cons (.int 3) .nil))) Z7F
abbrev Z4C:ISs:=Z7G
def Z9G:GI:=⟨GB,GL,["read_number","refuse_length"],[],[],[],GD⟩
theorem _cz:chkSs Z9G (Z01 Z2q) ["words"] Z4C (Z04 Z2q)=true:=by decide+kernel
noncomputable def Z6B:ISs:=.cons (.ret (.tup (.cons (.ix (.var 0) (.int 1)) (.cons (.ix (.var 0) (.int 2)) (.cons (.ix (.var 0) (.int 3)) (.cons (.call 0 (.ix (.var 0) (.int 4)) .nil) (.cons (.call 0 (.ix (.var 0) (.int 5)) .nil) .nil))))))) .nil
def Z6C:ISs:=.cons (.expr (.call 1 (.var 0) (.cons (.int 6) .nil))) Z6B
abbrev Z3N:ISs:=Z6C
def Z8j:GI:=⟨GB,GL,["read_number","refuse_length"],[],[],[],GD⟩
theorem _bs:chkSs Z8j (Z01 Z1O) ["words"] Z3N (Z04 Z1O)=true:=by decide+kernel
noncomputable def Z6y:ISs:=.cons (.ret (.call 0 (.ix (.var 0) (.int 1)) .nil)) .nil
def Z6z:ISs:=.cons (.expr (.call 1 (.var 0) (.cons (.int 2) .nil))) Z6y
noncomputable def Zbg:ISs:=.cons .never .nil
def Z6A:ISs:=.cons (.ite (.cmp .NotEq (.ix (.var 0) (.int 0)) (.str "width")) Zbg .nil) Z6z
abbrev Z3M:ISs:=Z6A
def Z8i:GI:=⟨GB,GL,["read_number","refuse_length"],[],[],[],GD⟩
theorem _br:chkSs Z8i (Z01 Z1N) ["words"] Z3M (Z04 Z1N)=true:=by decide+kernel
noncomputable def Z98:ISs:=.cons (.expr (.mt .append (.var 2) (.cons (.call 0 (.var 0) .nil) .nil))) .nil
noncomputable def Zdp:ISs:=.cons .never .nil
noncomputable def Z96:ISs:=.cons (.expr (.mt .append (.var 1) (.cons (.tup (.cons (.ix (.var 0) (.int 1)) (.cons (.lst .nil) (.cons (.lst .nil) .nil)))) .nil))) .nil
def Z97:ISs:=.cons (.expr (.call 3 (.var 0) (.cons (.int 2) .nil))) Z96
noncomputable def Zdo:ISs:=.cons .never .nil
noncomputable def Z7D:ISs:=.cons (.expr (.mt .append (.ix (.ix (.var 1) (.neg (.int 1))) (.int 1)) (.cons (.call 1 (.var 0) .nil) .nil))) .nil
noncomputable def Zcn:ISs:=.cons .never .nil
def Z7E:ISs:=.cons (.ite (.cmp .Gt (.bi .len (.ix (.ix (.var 1) (.neg (.int 1))) (.int 2)) .nil) (.int 0)) Zcn .nil) Z7D
noncomputable def Z7C:ISs:=.cons (.expr (.mt .append (.ix (.ix (.var 1) (.neg (.int 1))) (.int 2)) (.cons (.call 2 (.var 0) .nil) .nil))) .nil
def Z67:ISs:=.cons (.ite (.cmp .Eq (.ix (.var 0) (.int 0)) (.str "var")) Z7E Z7C) .nil
def Z68:ISs:=.cons (.ite (.cmp .Eq (.bi .len (.var 1) .nil) (.int 0)) Zdo Z67) .nil
def Z3I:ISs:=.cons (.ite (.cmp .Eq (.ix (.var 0) (.int 0)) (.str "island")) Z97 Z68) .nil
def Z3J:ISs:=.cons (.ite (.cmp .Gt (.bi .len (.var 2) .nil) (.int 0)) Zdp Z3I) .nil
def Z99:ISs:=.cons (.ite (.cmp .Eq (.ix (.var 0) (.int 0)) (.str "ferry")) Z98 Z3J) .nil
abbrev Z69:ISs:=Z99
def ZaO:GI:=⟨GB,GL,["read_ferry","read_pair","read_step","refuse_length"],[],[],[],GD⟩
theorem _dB:chkSs ZaO (Z01 Z3g) ["words","islands","ferries"] Z69 (Z04 Z3g)=true:=by decide+kernel
noncomputable def Zg5:ISs:=.cons (.ret (.call 0 (.var 3) (.cons (.var 4) (.cons (.var 5) .nil)))) .nil
noncomputable def Zg6:ISs:=.cons (.expr (.call 1 (.var 2) (.cons (.var 4) (.cons (.var 5) .nil)))) .nil
def Zg7:ISs:=.cons (.for_ (.nm 2) (.seq (.sl (.var 1) (.some (.int 1)) .none)) Zg6) Zg5
def Zg8:ISs:=.cons (.set 5 (.lst .nil)) Zg7
def Zg9:ISs:=.cons (.set 4 (.lst .nil)) Zg8
def Zga:ISs:=.cons (.set 3 (.call 2 (.ix (.var 1) (.int 0)) .nil)) Zg9
noncomputable def ZjO:ISs:=.cons .never .nil
def Zgb:ISs:=.cons (.ite (.cmp .In (.str "") (.var 2)) ZjO .nil) .nil
def Zgc:ISs:=.cons (.for_ (.nm 2) (.seq (.var 1)) Zgb) Zga
def Zgd:ISs:=.cons (.set 1 (.comp ["row"] [] (.seq (.mt .split (.var 0) (.cons (.str "\n") .nil))) (.nm 0) .none (.mt .split (.var 0) (.cons (.str " ") .nil)))) Zgc
abbrev Zdr:ISs:=Zgd
def ZiH:GI:=⟨GB,GL,["made","read_row","read_width"],[],[],[],GD⟩
theorem _kg:chkSs ZiH (Z01 ZbV) ["text","rows","row","width","islands","ferries"] Zdr (Z04 ZbV)=true:=by decide+kernel
noncomputable def Z4U:ISs:=.cons (.ret (.int 0)) .nil
noncomputable def Z4V:ISs:=.cons (.ret (.ix (.var 0) (.var 1))) .nil
def Z4W:ISs:=.cons (.ite (.cmp .Lt (.var 1) (.bi .len (.var 0) .nil)) Z4V .nil) Z4U
abbrev Z2L:ISs:=Z4W
def Z5T:GI:=⟨GB,GL,[],[],[],[],GD⟩
theorem _9C:chkSs Z5T (Z01 Z17) ["script","k"] Z2L (Z04 Z17)=true:=by decide+kernel
noncomputable def Z5C:ISs:=.cons (.ret (.sl (.var 2) (.some (.int 3)) .none)) .nil
noncomputable def Z5D:ISs:=.cons (.expr (.mt .append (.var 2) (.cons (.var 3) .nil))) .nil
def Z5E:ISs:=.cons (.set 3 (.bin .Mod (.bin .Add (.bin .Add (.bin .Add (.bin .Mult (.var 3) (.var 3)) (.bin .Mult (.int 48271) (.var 3))) (.var 4)) (.int 1)) (.int 2305843009213693951))) Z5D
def Z5F:ISs:=.cons (.for_ (.nm 4) (.rng (.bin .Add (.var 1) (.int 3))) Z5E) Z5C
def Z5G:ISs:=.cons (.set 3 (.bin .Mod (.var 0) (.int 2305843009213693951))) Z5F
def Z5H:ISs:=.cons (.set 2 (.lst .nil)) Z5G
abbrev Z3b:ISs:=Z5H
def Z72:GI:=⟨GB,GL,[],[],[],[],GD⟩
theorem _af:chkSs Z72 (Z01 Z1s) ["cell","many","found","number","k"] Z3b (Z04 Z1s)=true:=by decide+kernel
noncomputable def Z7N:ISs:=.cons (.ret (.bin .Mod (.bin .FloorDiv (.bin .Mult (.var 0) (.int 11400714819323198485)) (.int 5)) (.bin .Add (.var 2) (.int 1)))) .nil
noncomputable def Z7O:ISs:=.cons (.ret (.bin .Mod (.bin .FloorDiv (.var 0) (.int 5)) (.int 2))) .nil
def Z7P:ISs:=.cons (.ite (.cmp .Eq (.bin .Mod (.var 0) (.int 5)) (.int 1)) Z7O .nil) Z7N
noncomputable def Z7Q:ISs:=.cons (.ret (.var 2)) .nil
def Z7R:ISs:=.cons (.ite (.cmp .Eq (.bin .Mod (.var 0) (.int 5)) (.int 0)) Z7Q .nil) Z7P
def Z7S:ISs:=.cons (.set 2 (.bin .Sub (.bin .LShift (.int 1) (.var 1)) (.int 1))) Z7R
abbrev Z4E:ISs:=Z7S
def Z9I:GI:=⟨GB,GL,[],[],[],[],GD⟩
theorem _cC:chkSs Z9I (Z01 Z2s) ["number","width","most"] Z4E (Z04 Z2s)=true:=by decide+kernel
noncomputable def Z6R:ISs:=.cons (.ret (.ix (.lst (.cons (.bin .Add (.int 1) (.bin .Mod (.bin .FloorDiv (.var 0) (.int 4)) (.int 64))) (.cons (.int 1) (.cons (.bin .Add (.int 1) (.bin .Mod (.bin .FloorDiv (.var 0) (.int 4)) (.int 8))) (.cons (.int 64) .nil))))) (.bin .Mod (.var 0) (.int 4)))) .nil
abbrev Z3Q:ISs:=Z6R
def Z8m:GI:=⟨GB,GL,[],[],[],[],GD⟩
theorem _bv:chkSs Z8m (Z01 Z1R) ["number"] Z3Q (Z04 Z1R)=true:=by decide+kernel
noncomputable def Z8d:ISs:=.cons (.ret (.bin .Mult (.ix (.str "abcdefghijklmnopqrstuvwxyz") (.bin .Mod (.bin .Add (.var 0) (.bin .Mult (.int 7) (.var 1))) (.int 26))) (.bin .Add (.int 1) (.bin .Mod (.bin .Add (.bin .FloorDiv (.var 0) (.int 26)) (.var 1)) (.int 8))))) .nil
abbrev Z4I:ISs:=Z8d
def Z9M:GI:=⟨GB,GL,[],[],[],[],GD⟩
theorem _cG:chkSs Z9M (Z01 Z2w) ["cell","k"] Z4I (Z04 Z2w)=true:=by decide+kernel
noncomputable def Z4M:ISs:=.cons (.ret (.bin .Add (.tup (.cons (.var 4) .nil)) (.bi .tuple (.var 5) .nil))) .nil
noncomputable def Z7T:ISs:=.cons (.expr (.mt .append (.var 5) (.cons (.call 0 (.bin .FloorDiv (.bin .FloorDiv (.var 0) (.int 2048)) (.int 5)) (.cons (.bin .Sub (.var 1) (.int 1)) (.cons (.var 2) .nil))) .nil))) .nil
def Z7U:ISs:=.cons (.ite (.cmp .Eq (.var 4) (.str "pick")) Z7T .nil) Z4M
def Z4N:ISs:=.cons (.set 5 (.lst (.cons (.call 0 (.bin .FloorDiv (.var 0) (.int 512)) (.cons (.bin .Sub (.var 1) (.int 1)) (.cons (.var 2) .nil))) (.cons (.call 0 (.bin .FloorDiv (.bin .FloorDiv (.var 0) (.int 4096)) (.int 7)) (.cons (.bin .Sub (.var 1) (.int 1)) (.cons (.var 2) .nil))) .nil)))) Z7U
def Z7V:ISs:=.cons (.set 4 (.ix (.lst (.cons (.str "") (.cons (.str "") (.cons (.str "pick") (.cons (.str "minus") (.cons (.str "times") (.cons (.str "less") (.cons (.str "same") (.cons (.str "plus") .nil))))))))) (.bin .Mod (.var 0) (.int 8)))) Z4N
noncomputable def Z4O:ISs:=.cons (.ret (.tup (.cons (.str "num") (.cons (.ix (.var 3) (.bin .Mod (.bin .FloorDiv (.var 0) (.int 16)) (.int 4))) .nil)))) .nil
noncomputable def Z7W:ISs:=.cons (.ret (.tup (.cons (.str "var") (.cons (.ix (.ix (.var 2) (.bin .Mod (.bin .FloorDiv (.var 0) (.int 64)) (.bi .len (.var 2) .nil))) (.int 0)) .nil)))) .nil
def Z7X:ISs:=.cons (.ite (.and (.cmp .NotEq (.var 2) (.lst .nil)) (.cmp .Eq (.bin .Mod (.bin .FloorDiv (.var 0) (.int 8)) (.int 2)) (.int 0))) Z7W .nil) Z4O
def Z4P:ISs:=.cons (.set 3 (.lst (.cons (.bin .Mod (.bin .FloorDiv (.var 0) (.int 64)) (.int 4)) (.cons (.bin .Mod (.bin .FloorDiv (.var 0) (.int 64)) (.bin .Pow (.int 10) (.int 20))) (.cons (.bin .Sub (.neg (.int 1)) (.bin .Mod (.bin .FloorDiv (.var 0) (.int 64)) (.int 4))) (.cons (.bin .Sub (.neg (.int 1)) (.bin .Mod (.bin .Mult (.var 0) (.var 0)) (.bin .Sub (.bin .Pow (.int 10) (.int 20)) (.int 1)))) .nil)))))) Z7X
def Z7Y:ISs:=.cons (.ite (.or (.cmp .Eq (.var 1) (.int 0)) (.cmp .Lt (.bin .Mod (.var 0) (.int 8)) (.int 2))) Z4P .nil) Z7V
abbrev Z4F:ISs:=Z7Y
def Z9J:GI:=⟨GB,GL,["_law_term"],[],[],[],GD⟩
theorem _cD:chkSs Z9J (Z01 Z2t) ["number","deep","own","far","form","some"] Z4F (Z04 Z2t)=true:=by decide+kernel
noncomputable def Z3T:ISs:=.cons (.ret (.tup (.cons (.str "jump") (.cons (.var 8) (.cons (.bin .Mod (.var 7) (.bin .Add (.var 2) (.int 1))) .nil))))) .nil
noncomputable def Z7Z:ISs:=.cons (.ret (.tup (.cons (.str "put") (.cons (.ix (.ix (.var 3) (.bin .Mod (.bin .FloorDiv (.var 7) (.int 8)) (.bi .len (.var 3) .nil))) (.int 0)) (.cons (.var 8) .nil))))) .nil
def Z4Q:ISs:=.cons (.ite (.and (.cmp .Lt (.bin .Mod (.var 0) (.int 4)) (.int 3)) (.cmp .NotEq (.var 3) (.lst .nil))) Z7Z .nil) Z3T
noncomputable def Z80:ISs:=.cons (.ret (.tup (.cons (.str "give") (.cons (.ix (.var 6) (.bin .Mod (.var 7) (.bi .len (.var 6) .nil))) (.cons (.var 8) .nil))))) .nil
def Z4R:ISs:=.cons (.ite (.and (.cmp .Eq (.bin .Mod (.var 0) (.int 4)) (.int 1)) (.cmp .NotEq (.var 6) (.lst .nil))) Z80 .nil) Z4Q
noncomputable def Z81:ISs:=.cons (.ret (.tup (.cons (.str "take") (.cons (.ix (.var 5) (.bin .Mod (.var 7) (.bi .len (.var 5) .nil))) (.cons (.ix (.ix (.var 3) (.bin .Mod (.bin .FloorDiv (.var 7) (.int 8)) (.bi .len (.var 3) .nil))) (.int 0)) .nil))))) .nil
def Z82:ISs:=.cons (.ite (.and (.cmp .Eq (.bin .Mod (.var 0) (.int 4)) (.int 0)) (.and (.cmp .NotEq (.var 5) (.lst .nil)) (.cmp .NotEq (.var 3) (.lst .nil)))) Z81 .nil) Z4R
def Z83:ISs:=.cons (.set 8 (.call 0 (.bin .FloorDiv (.var 7) (.int 512)) (.cons (.int 2) (.cons (.var 3) .nil)))) Z82
def Z84:ISs:=.cons (.set 7 (.bin .FloorDiv (.var 0) (.int 4))) Z83
def Z85:ISs:=.cons (.set 6 (.comp ["ferry"] [1] (.seq (.var 4)) (.nm 0) (.some (.cmp .Eq (.ix (.var 0) (.int 1)) (.var 1))) (.ix (.var 0) (.int 0)))) Z84
def Z86:ISs:=.cons (.set 5 (.comp ["ferry"] [1] (.seq (.var 4)) (.nm 0) (.some (.cmp .Eq (.ix (.var 0) (.int 2)) (.var 1))) (.ix (.var 0) (.int 0)))) Z85
abbrev Z4G:ISs:=Z86
def Z9K:GI:=⟨GB,GL,["_law_term"],[],[],[],GD⟩
theorem _cE:chkSs Z9K (Z01 Z2u) ["number","name","many","own","ferries","takes","gives","rest","term"] Z4G (Z04 Z2u)=true:=by decide+kernel
noncomputable def Z5I:ISs:=.cons (.ret (.tup (.cons (.var 3) (.cons (.var 6) (.cons (.comp ["k"] [3,9,6,4,5] (.rng (.var 9)) (.nm 0) .none (.call 1 (.ix (.var 5) (.bin .Add (.int 3) (.var 0))) (.cons (.var 1) (.cons (.var 2) (.cons (.var 3) (.cons (.var 4) .nil)))))) .nil))))) .nil
def Z5J:ISs:=.cons (.set 9 (.bin .Mod (.ix (.var 5) (.int 2)) (.int 7))) Z5I
noncomputable def Z5K:ISs:=.cons (.expr (.mt .append (.var 6) (.cons (.tup (.cons (.call 0 (.bin .Add (.var 0) (.bin .Mod (.bin .FloorDiv (.ix (.var 5) (.int 1)) (.int 8)) (.int 3))) (.cons (.bin .Add (.var 7) (.var 8)) .nil)) (.cons (.call 3 (.ix (.var 5) (.bin .Add (.int 9) (.var 8))) (.cons (.var 2) .nil)) .nil))) .nil))) .nil
def Z5L:ISs:=.cons (.for_ (.nm 8) (.rng (.bin .Mod (.ix (.var 5) (.int 0)) (.int 4))) Z5K) Z5J
def Z5M:ISs:=.cons (.set 7 (.ix (.lst (.cons (.int 11) (.cons (.int 0) .nil))) (.bin .Mod (.ix (.var 5) (.int 1)) (.int 2)))) Z5L
def Z5N:ISs:=.cons (.set 6 (.lst .nil)) Z5M
def Z5O:ISs:=.cons (.set 5 (.call 2 (.var 1) (.cons (.int 12) .nil))) Z5N
abbrev Z3c:ISs:=Z5O
def Z73:GI:=⟨GB,GL,["_law_name","_law_step","_law_stream","_law_word"],[],[],[],GD⟩
theorem _ag:chkSs Z73 (Z01 Z1t) ["cell","number","width","name","ferries","numbers","own","first","k","many"] Z3c (Z04 Z1t)=true:=by decide+kernel
noncomputable def Z5z:ISs:=.cons (.ret (.tup (.cons (.var 1) (.cons (.var 10) (.cons (.var 5) .nil))))) .nil
noncomputable def Z3d:ISs:=.cons (.expr (.mt .append (.var 10) (.cons (.call 1 (.var 2) (.cons (.call 0 (.var 0) (.cons (.bin .Add (.int 3) (.bi .len (.var 10) .nil)) .nil)) (.cons (.var 1) (.cons (.var 11) (.cons (.var 5) .nil))))) .nil))) .nil
def Z5A:ISs:=.cons (.for_ (.nm 11) (.seq (.var 3)) Z3d) Z5z
def Z5B:ISs:=.cons (.set 10 (.lst .nil)) Z5A
noncomputable def Z6I:ISs:=.cons (.expr (.mt .append (.var 5) (.cons (.tup (.cons (.call 2 (.var 2) (.cons (.bin .Add (.int 5) (.var 6)) .nil)) (.cons (.ix (.var 3) (.var 7)) (.cons (.ix (.var 3) (.var 8)) (.cons (.ix (.var 9) (.int 0)) (.cons (.ix (.var 9) (.int 1)) .nil)))))) .nil))) .nil
def Z6J:ISs:=.cons (.set 9 (.lst (.cons (.bin .Mod (.bin .FloorDiv (.ix (.var 4) (.var 6)) (.int 4096)) (.int 4)) (.cons (.bin .Add (.int 1) (.bin .Mod (.bin .FloorDiv (.ix (.var 4) (.var 6)) (.bin .Pow (.int 2) (.int 20))) (.int 3))) .nil)))) Z6I
def Z6K:ISs:=.cons (.set 8 (.bin .Mod (.bin .Add (.bin .Add (.var 7) (.int 1)) (.bin .Mod (.bin .FloorDiv (.ix (.var 4) (.var 6)) (.int 64)) (.bin .Sub (.bi .len (.var 3) .nil) (.int 1)))) (.bi .len (.var 3) .nil))) Z6J
def Z3S:ISs:=.cons (.set 7 (.bin .Mod (.ix (.var 4) (.var 6)) (.bi .len (.var 3) .nil))) Z6K
def Z6L:ISs:=.cons (.for_ (.nm 6) (.rng (.bi .min (.bin .Mult (.bin .FloorDiv (.bi .len (.var 3) .nil) (.int 2)) (.int 3)) (.cons (.bin .Mod (.bin .FloorDiv (.call 0 (.var 0) (.cons (.int 0) .nil)) (.int 5)) (.int 4)) .nil))) Z3S) Z5B
def Z6M:ISs:=.cons (.set 5 (.lst .nil)) Z6L
def Z6N:ISs:=.cons (.set 4 (.call 3 (.call 0 (.var 0) (.cons (.int 2) .nil)) (.cons (.int 3) .nil))) Z6M
def Z6O:ISs:=.cons (.set 3 (.comp ["k"] [2] (.rng (.ix (.lst (.cons (.int 2) (.cons (.int 3) (.cons (.int 1) (.cons (.int 0) (.cons (.int 2) .nil)))))) (.bin .Mod (.call 0 (.var 0) (.cons (.int 0) .nil)) (.int 5)))) (.nm 0) .none (.call 2 (.var 1) (.cons (.var 0) .nil)))) Z6N
def Z6P:ISs:=.cons (.set 2 (.call 0 (.var 0) (.cons (.int 1) .nil))) Z6O
def Z6Q:ISs:=.cons (.set 1 (.call 4 (.bin .FloorDiv (.call 0 (.var 0) (.cons (.int 0) .nil)) (.int 15)) .nil)) Z6P
abbrev Z3P:ISs:=Z6Q
def Z8l:GI:=⟨GB,GL,["_law_cell_at","_law_island","_law_name","_law_stream","_law_width"],[],[],[],GD⟩
theorem _bu:chkSs Z8l (Z01 Z1Q) ["script","width","cell","names","numbers","ferries","k","at","other","sides","islands","name"] Z3P (Z04 Z1Q)=true:=by decide+kernel
noncomputable def Z2O:ISs:=.cons (.ret (.mt .join (.str " ") (.cons (.bin .Add (.lst (.cons (.ix (.var 0) (.int 0)) .nil)) (.comp ["one"] [] (.seq (.sl (.var 0) (.some (.int 1)) .none)) (.nm 0) .none (.call 0 (.var 0) .nil))) .nil))) .nil
noncomputable def Z2P:ISs:=.cons (.ret (.bin .Add (.bin .Add (.ix (.var 0) (.int 0)) (.str " ")) (.bi .str (.ix (.var 0) (.int 1)) .nil))) .nil
def Z4L:ISs:=.cons (.ite (.cmp .In (.ix (.var 0) (.int 0)) (.tup (.cons (.str "num") (.cons (.str "var") .nil)))) Z2P .nil) Z2O
abbrev Z2K:ISs:=Z4L
def Z5S:GI:=⟨GB,GL,["_law_written"],[],[],[],GD⟩
theorem _9B:chkSs Z5S (Z01 Z16) ["term"] Z2K (Z04 Z16)=true:=by decide+kernel
noncomputable def Z28:ISs:=.cons (.ret (.bin .Add (.bin .Add (.bin .Add (.bin .Add (.ix (.var 0) (.int 0)) (.str " ")) (.ix (.var 0) (.int 1))) (.str " ")) (.call 0 (.ix (.var 0) (.int 2)) .nil))) .nil
noncomputable def Z46:ISs:=.cons (.ret (.bin .Add (.bin .Add (.bin .Add (.str "take ") (.ix (.var 0) (.int 1))) (.str " ")) (.ix (.var 0) (.int 2)))) .nil
def Z1e:ISs:=.cons (.ite (.cmp .Eq (.ix (.var 0) (.int 0)) (.str "take")) Z46 .nil) Z28
noncomputable def Z47:ISs:=.cons (.ret (.bin .Add (.bin .Add (.bin .Add (.str "jump ") (.bi .str (.ix (.var 0) (.int 2)) .nil)) (.str " ")) (.call 0 (.ix (.var 0) (.int 1)) .nil))) .nil
def Z48:ISs:=.cons (.ite (.cmp .Eq (.ix (.var 0) (.int 0)) (.str "jump")) Z47 .nil) Z1e
abbrev Z27:ISs:=Z48
def Z54:GI:=⟨GB,GL,["_law_written"],[],[],[],GD⟩
theorem _8B:chkSs Z54 (Z01 Z0W) ["step"] Z27 (Z04 Z0W)=true:=by decide+kernel
noncomputable def Z87:ISs:=.cons (.ret (.var 3)) .nil
noncomputable def Z4S:ISs:=.cons (.expr (.mt .append (.var 3) (.cons (.mt .join (.str " ") (.cons (.lst (.cons (.str "ferry") (.cons (.var 4) (.cons (.var 7) (.cons (.var 8) (.cons (.bi .str (.var 9) .nil) (.cons (.bi .str (.var 10) .nil) .nil))))))) .nil)) .nil))) .nil
def Z88:ISs:=.cons (.for_ (.tup (.cons (.nm 4) (.cons (.nm 7) (.cons (.nm 8) (.cons (.nm 9) (.cons (.nm 10) .nil)))))) (.seq (.var 2)) Z4S) Z87
noncomputable def Z89:ISs:=.cons (.set 3 (.bin .Add (.var 3) (.comp ["step"] [] (.seq (.var 6)) (.nm 0) .none (.call 0 (.var 0) .nil)))) .nil
def Z8a:ISs:=.cons (.set 3 (.bin .Add (.var 3) (.comp ["var","word"] [] (.seq (.var 5)) (.tup (.cons (.nm 0) (.cons (.nm 1) .nil))) .none (.bin .Add (.bin .Add (.bin .Add (.str "var ") (.var 0)) (.str " ")) (.bi .str (.var 1) .nil))))) Z89
def Z4T:ISs:=.cons (.expr (.mt .append (.var 3) (.cons (.bin .Add (.str "island ") (.var 4)) .nil))) Z8a
def Z8b:ISs:=.cons (.for_ (.tup (.cons (.nm 4) (.cons (.nm 5) (.cons (.nm 6) .nil)))) (.seq (.var 1)) Z4T) Z88
def Z8c:ISs:=.cons (.set 3 (.lst (.cons (.bin .Add (.str "width ") (.bi .str (.var 0) .nil)) .nil))) Z8b
abbrev Z4H:ISs:=Z8c
def Z9L:GI:=⟨GB,GL,["_law_step_row"],[],[],[],GD⟩
theorem _cF:chkSs Z9L (Z01 Z2v) ["width","islands","ferries","rows","name","own","steps","giver","taker","k","stages"] Z4H (Z04 Z2v)=true:=by decide+kernel
noncomputable def Zir:ISs:=.cons (.ret (.and (.bi .isinst (.var 7) (.cons (.ty .tuple) .nil)) (.and (.cmp .Eq (.var 7) (.var 4)) (.and (.cmp .Eq (.var 5) (.var 4)) (.cmp .Eq (.call 4 (.var 7) .nil) (.var 6)))))) .nil
def Zis:ISs:=.cons (.set 7 (.call 3 (.var 6) .nil)) Zir
noncomputable def Zmc:ISs:=.cons (.ret (.bl false)) .nil
def Zit:ISs:=.cons (.ite (.or (.not (.bi .isinst (.var 6) (.cons (.ty .str) .nil))) (.cmp .NotEq (.var 6) (.mt .join (.str "\n") (.cons (.call 0 (.var 1) (.cons (.var 2) (.cons (.var 3) .nil))) .nil)))) Zmc .nil) Zis
def Ziu:ISs:=.cons (.set 6 (.call 4 (.var 5) .nil)) Zit
def Zgr:ISs:=.cons (.set 5 (.call 2 (.var 1) (.cons (.comp ["name","own","steps"] [] (.seq (.var 2)) (.tup (.cons (.nm 0) (.cons (.nm 1) (.cons (.nm 2) .nil)))) .none (.tup (.cons (.var 0) (.cons (.bi .list (.var 1) .nil) (.cons (.bi .list (.var 2) .nil) .nil))))) (.cons (.bi .list (.var 3) .nil) .nil)))) Ziu
def Ziv:ISs:=.cons (.set 4 (.tup (.cons (.var 1) (.cons (.bi .tuple (.comp ["name","own","steps"] [] (.seq (.var 2)) (.tup (.cons (.nm 0) (.cons (.nm 1) (.cons (.nm 2) .nil)))) .none (.tup (.cons (.var 0) (.cons (.bi .tuple (.var 1) .nil) (.cons (.bi .tuple (.var 2) .nil) .nil))))) .nil) (.cons (.bi .tuple (.var 3) .nil) .nil))))) Zgr
def Ziw:ISs:=.cons (.asg (.cons (.nm 1) (.cons (.nm 2) (.cons (.nm 3) .nil))) (.call 1 (.var 0) .nil)) Ziv
abbrev Zge:ISs:=Ziw
def Zmt:GI:=⟨GB,GL,["_law_rows","_law_world","made","read","written"],[],[],[],GD⟩
theorem _ml:chkSs Zmt (Z01 Zfo) ["script","width","islands","ferries","due","world","found","again"] Zge (Z04 Zfo)=true:=by decide+kernel
theorem szl:sizeLine=16777216:=by decide
theorem na10:Int.natAbs 10=10:=rfl
theorem na1:Int.natAbs 1=1:=rfl
theorem na2:Int.natAbs 2=2:=rfl
theorem at0{j:Type}{x:j}{l:List j}:atI (x::l) 0=some x:=by unfold atI ixN;simp
theorem at1{l:Type}{x y:l}{u:List l}:atI (x::y::u) 1=some y:=_0A (j:=1) (by rfl)
theorem at2{l:Type}{x y z:l}{u:List l}:atI (x::y::z::u) 2=some z:=_0A (j:=2) (by rfl)
theorem at3{l:Type}{x y z u:l}{w:List l}:atI (x::y::z::u::w) 3=some u:=_0A (j:=3) (by rfl)
theorem at4{l:Type}{x y z u v:l}{w:List l}:atI (x::y::z::u::v::w) 4=some v:=_0A (j:=4) (by rfl)
theorem _mC{a b:String}:(Y1K a=Y1K b)↔a=b:=by
 constructor
 .intro h
  rw[Str.ofString_eq_toList,Str.ofString_eq_toList]at h
  have u:a.toList.map Y2V=b.toList.map Y2V:=by
   have:=congrArg (λs:Str=>s.cps.toList) h
   simpa using this
  have inj:∀(l j:List Char),l.map Y2V=j.map Y2V->l=j:=by
   intro l
   induction l with
   |nil=>
    intro j e
    cases j with
    |nil=>rfl
    |cons _ _=>cases e
   |cons x r w=>
    intro j e
    cases j with
    |nil=>cases e
    |cons y s=>
     rw[Y0a,Y0a]at e
     injection e with e1 e2
     rw[w s e2,Char.toNat_inj.mp e1]
  exact String.toList_inj.mp (inj _ _ u)
 .intro h;rw[h]
theorem _63{c A B:Prop} [Decidable c] (h1:c->A)(h2:¬c->B):if c then A else B:=by
 split
 .exact h1 ‹_›
 .exact h2 ‹_›
local macro_rules|`(tactic|walk_at "s")=>do
 let a<-("seval szl na10 na1 na2 Nat.zero_add Nat.reduceAdd Nat.zero_le at0 at1 at2 at3 at4 _mC _00 _mF _kP _mE _mD _mI _kO _mG _mH _iX v_s b_0 f_s _nT _nZ _nV _o0 e_ty _o5 _nX _nW _o3 _o4 _o6 e_or _nU _nY e_ix e_sl _mh e_bi e_b2 e_mt _mg _kd _lO _lN _md _mW _mT _mV _mU isTy _nz _mX _nk _li _nl _na _n4 _ll _l7 _lk _lm q_lt q_le _nm q_gt _nw _nj _nv _nh _lg _j7 _mZ _ni q_in _ng _np _le _j6 _nn _nq _no _n3 _l1 _n1 _n2 _lc _la _lb _j5 _nr _lf _mO _mM _mL _mN _kW _j3 _j4 _kX _j8 _ny _nx _lj _nu _l6 _l5 _l4 _nf _ld _n5 _n0 _l0 _mS _mR _mQ _ne _nd _nc _mY _n7 _n8 _l9 _l8 _lh _kZ _kY _l3 _l2 _j2 _h6 _n9 _n6 _mP _nb _o2 _nt _o1 _ns ZgW CMul CPow List.getElem?_cons_zero List.getElem?_cons_succ Option.some.injEq MV.int.injEq MV.str.injEq MV.bl.injEq MV.tup.injEq MV.ref.injEq MO.lst.injEq exists_eq_left' exists_and_left true_and and_true false_and and_false true_or or_true false_or or_false reduceCtorEq ne_eq not_false_eq_true not_true_eq_false List.set_cons_zero List.set_cons_succ decide_eq_true_eq Bool.not_eq_true' decide_eq_false_iff_not if_true if_false Bool.false_eq_true reduceIte List.length_cons List.length_nil and_self String.reduceEq String.reduceNe Int.reduceLT Int.reduceLE Int.reducePow Int.reduceNeg Int.reduceToNat Int.reduceSub Int.reduceAdd Int.reduceMul Nat.reduceLT Nat.reducePow Nat.reduceLeDiff".splitOn " ").toArray.mapM λs=>`(Lean.Parser.Tactic.simpLemma|$(Lean.mkIdent s.toName):term)
 `(tactic|simp only[$[$a:simpLemma],*])
local macro_rules|`(tactic|simp!)=>`(tactic|walk_at "s")
local macro_rules|`(tactic|simp! [$l,*])=>`(tactic|repeat (first|walk_at "s"|simp only [$l,*]))
theorem _kc{j:Sort _}{p q:j->Prop}(h:∀a,p a->q a):(∃a,p a)->∃a,q a:=fun⟨a,x⟩=>⟨a,h a x⟩
theorem _hV{a b c:Prop}(h:b->c):a/\b->a/\c:=λx=>⟨x.1,h x.2⟩
theorem _gQ{a b c d:Prop}(h:a->c)(g:b->d):a/\b->c/\d:=λx=>⟨h x.1,g x.2⟩
theorem _jl{a b c d:Prop}(h:a->c)(g:b->d):a\/b->c\/d:=λx=>x.elim (λy=>.inl (h y)) λy=>.inr (g y)
theorem _hW{j:Sort _}{p q:j->Prop}(h:∀a,p a->q a):(∀a,p a)->∀a,q a:=λx a=>h a (x a)
local macro_rules | `(tactic| walk_at "m") => `(tactic| (intro vs M Q Q' hq; repeat (first | exact hq _ _ | exact id | refine _kc fun _ => ?_ | refine _hV ?_ | refine _gQ ?_ ?_ | refine _hW fun _ => ?_ | refine _jl ?_ ?_)))
noncomputable def SameM(M j:MH):Prop:=∀a o,M a=some o->j a=some o
theorem SameM.refl(M:MH):SameM M M:=λ_ _ h=>h
theorem SameM.trans{M M1 M2:MH}(a:SameM M M1)(b:SameM M1 M2):SameM M M2:=λc o h=>b c o (a c o h)
theorem neM{M:MH}{a p:Addr}{o:MO}(h:M a=some o)(j:M p=none):a≠p:=by intro e;subst e;rw[h]at j;cases j
theorem SameM.new{M:MH}{p:Addr}(h:M p=none)(o:MO):SameM M (updM M p o):=λa u e=>by rw[_06 (neM e h)];exact e
theorem SameM.free{M M':MH}(s:SameM M M'){p:Addr}(h:M' p=none):M p=none:=by
 cases e:M p with
 |none=>rfl
 |some o=>rw[s _ _ e]at h;cases h
theorem SameM.upd{M M':MH}(s:SameM M M'){p:Addr}(h:M p=none)(o:MO):SameM M (updM M' p o):=λa u e=>by rw[_06 (neM e h)];exact s a u e
theorem _6l{lo:Int}{n i:Nat}{x:MV}(h:(Src.rng lo n).items[i]?=some x):i<n/\x=.int (lo+(i:Nat)):=by
 have j:=(Y0b.mp h).1
 rw[Src.items_len]at j
 refine⟨j,?_⟩
 have l:((Y0A n).map λi=>MV.int (lo+(i:Nat)))[i]?=some x:=h
 rw[Y08,Y02 (by simpa using(show i<n from j))]at l
 simpa using l.symm
theorem _0z{u:Type}{f:u->MV}{l:List u}{i:Nat}{x:MV}(h:(l.map f)[i]?=some x):∃j:i<l.length,x=f l[i]:=by
 have j:=(Y0b.mp h).1
 rw[Y01]at j
 refine⟨j,?_⟩
 rw[Y08,Y02 j]at h
 exact(Y0z h).symm
theorem _61{u:List (Str×SpM)}(w:∀p∈u,MonW p.2):∀(j:Nat)f l,u[j]?=some (f,l)->MonW l:=λj f l h=>w (f,l) (Y0G h)
theorem _2l(j:List MV)(k:Nat):cutM j (some (k:Int)) none=j.drop k:=by
 unfold cutM
 rw[HT.sIx_none,HT.sIx_nat]
 by_cases h:k<=j.length
 .rw[Y25 h,Y0y (by rw[Y1a];exact Y09 _)]
 .rw[Y2m (by lia),Y1b (Y09 _),Y1b (by lia)]
  simp
theorem _6h{w:Type} [DecidableEq w] (k:w)(v:MV)(j:w):∀l:List (w×MV),valM (putM l k v) j=if j=k then some v else valM l j
 |[]=>by
  unfold putM valM
  by_cases e:k=j
  .rw[if_pos e,if_pos e.symm]
  .rw[if_neg e,if_neg (λz=>e z.symm)]
   rfl
 |(i,u)::r=>by
  unfold putM
  by_cases e:i=k
  .rw[if_pos e]
   subst e
   unfold valM
   by_cases f:i=j
   .rw[if_pos f,if_pos f.symm]
   .rw[if_neg f,if_neg (λz=>f z.symm),if_neg f]
  .rw[if_neg e]
   unfold valM
   by_cases f:i=j
   .rw[if_pos f,if_neg (λz=>e (f.trans z)),if_pos f]
   .rw[if_neg f,_6h k v j r,if_neg f]
inductive Form where|plus|minus|times|less|same
noncomputable def Form.str:Form->Str
 |.plus=>"plus"|.minus=>"minus"|.times=>"times"|.less=>"less"|.same=>"same"
inductive Tm where
 |num (n:Int)|var (x:Str)|two (f:Form)(a b:Tm)|pick (c a b:Tm)
noncomputable def Tm.depth:Tm->Nat
 |.num _=>1|.var _=>1|.two _ a b=>1+max a.depth b.depth|.pick c a b=>1+max c.depth (max a.depth b.depth)
noncomputable def Tm.size:Tm->Nat
 |.num _=>1|.var _=>1|.two _ a b=>1+(a.size+b.size)|.pick c a b=>1+(c.size+(a.size+b.size))
noncomputable def Tm.reads:Tm->List Str
 |.num _=>[]|.var x=>[x]|.two _ a b=>a.reads++b.reads|.pick c a b=>c.reads++(a.reads++b.reads)
noncomputable def twoV(w:Nat)(l r:Int):Form->Int
 |.plus=>(l+r)%2^w
 |.minus=>(l - r)%2^w
 |.times=>(l*r)%2^w
 |.less=>if l<r then 1 else 0
 |.same=>if l=r then 1 else 0
def Tm.val(j:Str->Int)(w:Nat):Tm->Int
 |.num n=>n%2^w
 |.var x=>j x
 |.two f a b=>twoV w (a.val j w) (b.val j w) f
 |.pick c a b=>if c.val j w≠0 then a.val j w else b.val j w
theorem _hb(w:Nat):(0:Int)<2^w:=Int.pow_pos (by decide)
theorem _jc{w:Nat}(h:1<=w):(2:Int)<=2^w:=by
 obtain⟨k,rfl⟩:∃k,w=k+1:=⟨w - 1,by lia⟩
 rw[Int.pow_succ]
 have:=_hb k
 lia
theorem _ib{w:Nat}(h:w<=64):(2:Int)^w<=2^64:=by
 have:=Nat.pow_le_pow_right (n:=2) (by decide) h
 have j:(2:Int)^w=((2^w:Nat):Int):=by rw[Int.natCast_pow];rfl
 have l:(2:Int)^64=((2^64:Nat):Int):=by decide
 rw[j,l]
 exact Int.ofNat_le.mpr this
theorem Tm.depth_pos:∀T:Tm,1<=T.depth
 |.num _=>Y09 _
 |.var _=>Y09 _
 |.two _ _ _=>Nat.le_add_right _ _
 |.pick _ _ _=>Nat.le_add_right _ _
noncomputable def Tm.mv:Tm->MV
 |.num n=>.tup [.str "num",.int n]
 |.var x=>.tup [.str "var",.str x]
 |.two f a b=>.tup [.str f.str,a.mv,b.mv]
 |.pick c a b=>.tup [.str "pick",c.mv,a.mv,b.mv]
theorem _bk(f:Form):¬f.str="num":=by cases f<;>decide+kernel
theorem _8F(f:Form):¬f.str="var":=by cases f<;>decide+kernel
theorem _gu(f:Form):¬f.str="pick":=by cases f<;>decide+kernel
inductive Stp where
 |take (f x:Str)|give (f:Str)(T:Tm)|put (x:Str)(T:Tm)|jump (T:Tm)(i:Int)
noncomputable def Stp.mv:Stp->MV
 |.take f x=>.tup [.str "take",.str f,.str x]
 |.give f T=>.tup [.str "give",.str f,T.mv]
 |.put x T=>.tup [.str "put",.str x,T.mv]
 |.jump T i=>.tup [.str "jump",T.mv,.int i]
noncomputable def tmOk(j:List Str)(T:Tm):Prop:=T.depth<=8/\T.size<=30/\∀x∈T.reads,x∈j
def Stp.ok(j:List Str)(n:Nat):Stp->Prop
 |.take _ x=>x∈j
 |.give _ T=>tmOk j T
 |.put x T=>x∈j/\tmOk j T
 |.jump T i=>tmOk j T/\0<=i/\i<=n
section
variable{P:Program}{w:World}{K:Y00}{mg:Str->Option Value}{base:Heap}{t:Adr}
noncomputable abbrev Z6i:SpM:=λj M Q=>∃k:Nat,j=[.int k]/\k<=64/\Q (.int (2^k)) M
theorem _be:MonW Z6i:=by walk_at "m"
theorem _fJ(T:Txt w K mg t):FnOk P w K mg base CX0 1 t.bG t.bw ["exponent"] (liSp K Z6i):=by
 refine T.aY.F.okM _fn (_0i (u:=[]) (_0k T) (_09 T) (_0j T) rfl (λ_ h=>nomatch h) (λ_ h=>nomatch h):Fts P w K mg base 0 Zem []) Z9e _gD (λu M Q h=>?_) (λu M Q h=>?_)
 .obtain⟨k,rfl,_⟩:=h;rfl
 obtain⟨k,rfl,z,q⟩:=h
 show wSs _ _ _ [some (.int k),none,none] M
 delta Z9e Zci
 simp!
 delta Zch
 simp!
 refine⟨by lia,by lia,λi j l=>l=M/\∃v,j=[some (.int k),some (.int (2^i)),v],⟨rfl,_,rfl⟩,λ_ _ _ _=>trivial,?_,?_⟩
 .rintro i x j l y ⟨rfl,v,rfl⟩
  obtain⟨m,rfl⟩:=_6l y
  delta Zcg
  simp!
  exact⟨_,by rw[Int.pow_succ]⟩
 .rintro j l ⟨rfl,v,rfl⟩
  delta Zcf
  simp!
  exact q
def szs(j:List Tm):Nat:=(j.map Tm.size).sum
theorem _fe(a b:List Tm):szs (a++b)=szs a+szs b:=by unfold szs;rw[Y07,List.sum_append]
theorem _iP(a:Tm):szs [a]=a.size:=by simp[szs]
theorem _fd{T:Tm}:∀{j:List Tm},T∈j->T.size<=szs j
 |U::j,h=>by
  have e:szs (U::j)=U.size+szs j:=by simp[szs]
  rcases Y06.mp h with z|z
  .subst z;lia
  .have:=_fd z;lia
noncomputable def Tm.kids:Tm->List Tm
 |.num _=>[]
 |.var _=>[]
 |.two _ a b=>[a,b]
 |.pick c a b=>[c,a,b]
theorem Tm.size_kids:∀T:Tm,T.size=1+szs T.kids
 |.num _=>rfl
 |.var _=>rfl
 |.two _ a b=>by simp[Tm.size,Tm.kids,szs]
 |.pick c a b=>by simp[Tm.size,Tm.kids,szs]
noncomputable def mxd(j:List Tm):Nat:=j.foldl (λa T=>max a T.depth) 0
theorem _jy(j:List Tm)(T:Tm):mxd (j++[T])=max (mxd j) T.depth:=by unfold mxd;rw[List.foldl_append];rfl
theorem Tm.depth_kids:∀T:Tm,T.depth=mxd T.kids+1
 |.num _=>rfl
 |.var _=>rfl
 |.two _ a b=>by simp[Tm.depth,Tm.kids,mxd];lia
 |.pick c a b=>by simp[Tm.depth,Tm.kids,mxd];lia
theorem Tm.kid_depth{T U:Tm}(h:U∈T.kids):U.depth<T.depth:=by
 cases T<;>simp[Tm.kids]at h
 .rcases h with rfl|rfl<;>(simp only[Tm.depth];lia)
 .rcases h with rfl|rfl|rfl<;>(simp only[Tm.depth];lia)
theorem Tm.kid_size{T U:Tm}(h:U∈T.kids):U.size<T.size:=by
 rw[T.size_kids]
 have:=_fd h
 lia
def rds(ts:List Tm):List Str:=(ts.map Tm.reads).flatten
theorem _iZ(j:List Tm)(T:Tm):rds (j++[T])=rds j++T.reads:=by simp[rds]
theorem Tm.reads_kids:∀T:Tm,(∀x,T≠.var x)->T.reads=rds T.kids
 |.num _,_=>rfl
 |.var x,h=>absurd rfl (h x)
 |.two _ a b,_=>by simp[Tm.reads,Tm.kids,rds]
 |.pick c a b,_=>by simp[Tm.reads,Tm.kids,rds]
theorem Tm.reads_len:∀T:Tm,T.reads.length<=T.size
 |.num _=>by simp[Tm.reads]
 |.var _=>by simp[Tm.reads,Tm.size]
 |.two _ a b=>by
  have:=a.reads_len
  have:=b.reads_len
  simp[Tm.reads,Tm.size];lia
 |.pick c a b=>by
  have:=a.reads_len
  have:=b.reads_len
  have:=c.reads_len
  simp[Tm.reads,Tm.size];lia
theorem _fx:∀j:List Tm,(rds j).length<=szs j
 |[]=>Y09 _
 |T::j=>by
  have:=_fx j
  have:=T.reads_len
  have e:szs (T::j)=T.size+szs j:=by simp[szs]
  have l:rds (T::j)=T.reads++rds j:=by simp[rds]
  rw[e,l,Y0i]
  lia
theorem _dM(j:List Tm)(i:Nat):szs (j.take i)<=szs j:=by
 have l:=_fe (j.take i) (j.drop i)
 rw[List.take_append_drop]at l
 lia
theorem _mj(x:MV)(j:List MV):cutM (x::j) (some 1) none=j:=by
 have:=_2l (x::j) 1
 simpa using this
abbrev Z0u:SpM:=λj M Q=>∃T:Tm,j=[T.mv]/\∀p,M p=none->Q (.ref p) (updM M p (.lst (T.kids.map Tm.mv)))
theorem _2y:MonW Z0u:=by walk_at "m"
theorem _4m(T:Txt w K mg t):FnOk P w K mg base CX0 1 t.dc t.cj ["T"] (liSp K Z0u):=by
 refine T.am.F.okM _8M (_0i (u:=[]) (_0k T) (_09 T) (_0j T) rfl (λ_ h=>nomatch h) (λ_ h=>nomatch h):Fts P w K mg base 0 Z5R []) Z2J _9A (λj M Q h=>?_) (λj M Q h=>?_)
 .obtain⟨T,rfl,_⟩:=h;rfl
 obtain⟨U,rfl,q⟩:=h
 show wSs _ _ _ [some U.mv] M
 delta Z2J Z4J
 cases U with
 |num m=>
  simp only[Tm.mv]
  simp!
  delta Z2N
  simp!
  exact q
 |var x=>
  simp only[Tm.mv]
  simp!
  delta Z2N
  simp!
  exact q
 |two f a b=>
  simp only[Tm.mv]
  simp!
  rw[if_neg (_bk f),if_neg (_8F f),Z2M]
  simp!
  rw[_mj]
  exact q
 |pick c a b=>
  simp only[Tm.mv]
  simp!
  delta Z2M
  simp!
  rw[_mj]
  exact q
abbrev Z1z(n:Nat):SpM:=λl M Q=>∃T:Tm,l=[T.mv]/\T.depth<=n/\∀j,SameM M j->Q (.tup [.int (T.size:Nat),.int (T.depth:Nat)]) j
theorem _5e(n:Nat):MonW (Z1z n):=by walk_at "m"
theorem _ap(T:Txt w K mg t):∀n:Nat,FnOk P w K mg base CX0 (n+8) t.bF t.cB ["T"] (liSp K (Z1z n))
 |0=>by
  have p:∀j M Q,¬Z1z 0 j M Q:=λj M Q h=>by
   obtain⟨T,_,I,_⟩:=h
   have:=T.depth_pos
   lia
  exact⟨λj H Q E ⟨W,M,r,Y,h⟩=>absurd h (p _ _ _),λA g s H L S j Q E _ _ _ _ ⟨W,M,r,Y,h⟩=>absurd h (p _ _ _)⟩
 |n+1=>by
  have Z:=_ap T n
  refine T.ai.F.okM _er (_0i (u:=[("parts_within",Z0u),("size_of",(Z1z n))]) (_0k T) (_09 T) (_0j T) rfl (fMc ⟨_2y,(fMc ⟨(_5e _),(fun _ h=>nomatch h)⟩)⟩) (fMc ⟨⟨_,_,_,FnOk.mono (_4m T) (by lia),T.am.m,T.am.F.kp,T.am.b⟩,(fMc ⟨⟨_,_,_,Z,T.ai.m,T.ai.F.kp,T.ai.b⟩,(fun _ h=>nomatch h)⟩)⟩):Fts P w K mg base (n+8) ZcW [("parts_within",Z0u),("size_of",(Z1z n))]) Z7d _eR (fun j M Q h=>?_) (fun j M Q h=>?_)
  .obtain⟨T,rfl,_⟩:=h;rfl
  obtain⟨U,rfl,X,q⟩:=h
  show wSs _ _ _ [some U.mv,none,none,none,none] M
  delta Z7d ZaD
  simp!
  delta ZaC
  simp!
  delta ZaB
  simp!
  refine⟨U,rfl,λm d=>?_⟩
  have B:=SameM.new d (.lst (U.kids.map Tm.mv))
  have N:updM M m (.lst (U.kids.map Tm.mv)) m=some (.lst (U.kids.map Tm.mv)):=_00
  generalize updM M m (.lst (U.kids.map Tm.mv))=M1 at*
  simp![N]
  obtain⟨J,l⟩:∃J:Nat->Sm->MH->Prop,∀i u M2,J i u M2↔∃(c f:Option MV),SameM M1 M2/\u=[some U.mv,some (.int ((1+szs (U.kids.take i):Nat):Int)),some (.int ((mxd (U.kids.take i):Nat):Int)),c,f]:=⟨_,λ_ _ _=>Y1y⟩
  refine⟨J,(l _ _ _).2 ⟨_,_,SameM.refl _,rfl⟩,λi u M2 y=>?_,λi x u M2 C y=>?_,λu M2 y=>?_⟩
  .obtain⟨_,_,z,_⟩:=(l _ _ _).1 y
   exact z _ _ N
  .obtain⟨c,f,z,rfl⟩:=(l _ _ _).1 y
   obtain⟨O,rfl⟩:=_0z C
   have v:=U.kid_depth (Y0j O)
   delta ZaA
   simp!
   refine⟨U.kids[i],rfl,by lia,λo D=>?_⟩
   delta Zaz
   simp!
   delta Zay
   simp!
   have R:U.kids.take (i+1)=U.kids.take i++[U.kids[i]]:=by rw[Y0K,Y02 O];rfl
   have F:((1+szs (U.kids.take i):Nat):Int)+(U.kids[i].size:Nat)=((1+szs (U.kids.take (i+1)):Nat):Int):=by rw[R,_fe,_iP];lia
   have G:(if((U.kids[i].depth:Nat):Int)>(mxd (U.kids.take i):Nat)then((U.kids[i].depth:Nat):Int)else(mxd (U.kids.take i):Nat))=((mxd (U.kids.take (i+1)):Nat):Int):=by
    rw[R,_jy];split<;>lia
   rw[F,G]
   exact(l _ _ _).2 ⟨_,_,z.trans D,rfl⟩
  .obtain⟨c,f,z,rfl⟩:=(l _ _ _).1 y
   have e:U.kids.take (Src.lst m (U.kids.map Tm.mv)).len=U.kids:=by simp[Src.len]
   rw[e];delta Zax
   simp!
   have:=q M2 (B.trans z)
   rw[U.size_kids,U.depth_kids]at this
   exact this
abbrev Z0C(n:Nat):SpM:=λl M Q=>∃T:Tm,l=[T.mv]/\T.depth<=n/\T.size<=4000/\∀p j,SameM M j->M p=none->j p=some (.lst (T.reads.map MV.str))->Q (.ref p) j
theorem _3p(n:Nat):MonW (Z0C n):=by walk_at "m"
theorem _6n(T:Txt w K mg t):∀n:Nat,FnOk P w K mg base CX0 (n+8) t.cK t.dm ["T"] (liSp K (Z0C n))
 |0=>by
  have I:∀z M Q,¬Z0C 0 z M Q:=λz M Q h=>by
   obtain⟨T,_,O,_⟩:=h
   have:=T.depth_pos
   lia
  exact⟨λz H Q E ⟨ms,M,r,rh,h⟩=>absurd h (I _ _ _),λA W s H S us z Q E _ _ _ _ ⟨ms,M,r,rh,h⟩=>absurd h (I _ _ _)⟩
 |n+1=>by
  have ih:=_6n T n
  refine T.aq.F.okM _b4 (_0i (u:=[("names_read",(Z0C n)),("parts_within",Z0u)]) (_0k T) (_09 T) (_0j T) rfl (fMc ⟨(_3p _),(fMc ⟨_2y,(fun _ h=>nomatch h)⟩)⟩) (fMc ⟨⟨_,_,_,ih,T.aq.m,T.aq.F.kp,T.aq.b⟩,(fMc ⟨⟨_,_,_,FnOk.mono (_4m T) (by lia),T.am.m,T.am.F.kp,T.am.b⟩,(fun _ h=>nomatch h)⟩)⟩):Fts P w K mg base (n+8) Z8k [("names_read",(Z0C n)),("parts_within",Z0u)]) Z3O _bt (fun z M Q h=>?_) (fun z M Q h=>?_)
  .obtain⟨T,rfl,_⟩:=h;rfl
  obtain⟨U,rfl,hn,hz,q⟩:=h
  show wSs _ _ _ [some U.mv,none,none] M
  have rest:(∀x,U≠.var x)->wSs [("names_read",Z0C n),("parts_within",Z0u)] Z3R {nx:=fun x M'=>Q MV.non M',rt:=Q} [some U.mv,none,none] M:=by
   intro hv
   delta Z3R
   simp!
   intro l u
   have X:=SameM.new u (.lst [])
   have O:updM M l (.lst []) l=some (.lst ([]:List MV)):=_00
   generalize updM M l (.lst [])=M0 at*
   delta Z6F
   simp!
   refine⟨U,rfl,λy j=>?_⟩
   have v:=SameM.new j (.lst (U.kids.map Tm.mv))
   have o:updM M0 y (.lst (U.kids.map Tm.mv)) y=some (.lst (U.kids.map Tm.mv)):=_00
   have Y:=v _ _ O
   have t1:=X.trans v
   have nk:M y=none:=X.free j
   generalize updM M0 y (.lst (U.kids.map Tm.mv))=M1 at*
   simp![o]
   have ne:l≠y:=by
    intro e
    rw[e]at O
    rw[O]at j
    cases j
   obtain⟨J,g⟩:∃J:Nat->Sm->MH->Prop,∀i d M2,J i d M2↔∃(Z:Option MV),SameM M M2/\M2 y=some (.lst (U.kids.map Tm.mv))/\M2 l=some (.lst ((rds (U.kids.take i)).map MV.str))/\d=[some U.mv,some (.ref l),Z]:=⟨_,λ_ _ _=>Y1y⟩
   refine⟨J,(g _ _ _).2 ⟨_,t1,o,Y,rfl⟩,λi d M2 L=>?_,λi x d M2 hx L=>?_,λd M2 L=>?_⟩
   .obtain⟨_,_,R,_⟩:=(g _ _ _).1 L
    exact R
   .obtain⟨Z,B,R,N,rfl⟩:=(g _ _ _).1 L
    obtain⟨C,rfl⟩:=_0z hx
    have hk:=U.kid_depth (Y0j C)
    have hk2:=U.kid_size (Y0j C)
    delta Z6E
    simp!
    simp only[N]
    simp!
    refine⟨⟨_,rfl⟩,?_⟩
    refine⟨U.kids[i],rfl,by lia,by lia,λp3 M3 D n3 g3=>?_⟩
    have F:=D _ _ R
    have G:=D _ _ N
    simp!
    have l1:=_fx (U.kids.take i)
    have l2:=_dM U.kids i
    have l3:=U.size_kids
    have l4:=U.kids[i].reads_len
    refine⟨_,G,_,g3,by simp only[Y01];lia,(g _ _ _).2 ⟨_,(B.trans D).upd u _,by rw[_06 ne.symm];exact F,?_,rfl⟩⟩
    rw[_00,Y0K,Y02 C,Y1n,_iZ,Y07]
   .obtain⟨Z,B,R,N,rfl⟩:=(g _ _ _).1 L
    have e:U.kids.take (Src.lst y (U.kids.map Tm.mv)).len=U.kids:=by simp[Src.len]
    rw[e,<-U.reads_kids hv]at N
    delta Z6D
    simp!
    exact q l M2 B u N
  delta Z3O Z6H
  cases U with
  |num m=>
   simp only[Tm.mv]
   simp!
   exact rest (λ_ e=>by cases e)
  |var x=>
   simp only[Tm.mv]
   simp!
   delta Z6G
   simp!
   exact λp hp=>q p _ (SameM.new hp _) hp _00
  |two f a b=>
   simp only[Tm.mv]
   simp!
   rw[if_neg (_8F f)]
   exact rest (λ_ e=>by cases e)
  |pick c a b=>
   simp only[Tm.mv]
   simp!
   exact rest (λ_ e=>by cases e)
abbrev Z56:SpM:=λu M Q=>∃(T:Tm) (N:List Str),u=[T.mv]/\T.depth<=40/\T.size<=4000/\(∀x∈T.reads,x∈N)/\N.length<64/\
 ∀p l (j:List Str),SameM M l->M p=none->l p=some (.lst (j.map MV.str))->j.Nodup->(∀y,y∈j↔y∈T.reads)->PyProof.Rows.sortedS j=true->Q (.ref p) l
theorem _9Z:MonW Z56:=by walk_at "m"
theorem _ey(T:Txt w K mg t):FnOk P w K mg base CX0 50 t.ca t.bY ["T"] (liSp K Z56):=by
 refine T.aT.F.okM _eq (_0i (u:=[("names_read",(Z0C 40))]) (_0k T) (_09 T) (_0j T) rfl (fMc ⟨(_3p _),(fun _ h=>nomatch h)⟩) (fMc ⟨⟨_,_,_,FnOk.mono (_6n T 40) (by decide),T.aq.m,T.aq.F.kp,T.aq.b⟩,(fun _ h=>nomatch h)⟩):Fts P w K mg base 49 ZcV [("names_read",(Z0C 40))]) Z7c _eQ (fun u M Q h=>?_) (fun u M Q h=>?_)
 .obtain⟨T,N,rfl,_⟩:=h;rfl
 obtain⟨U,N,rfl,y,z,m,g,q⟩:=h
 show wSs _ _ _ [some U.mv] M
 delta Z7c Zaw
 simp!
 refine⟨U,rfl,y,z,λd M1 j O c=>?_⟩
 have R:scanBound=4096:=rfl
 have:=U.reads_len
 exact⟨d,U.reads,N,rfl,c,by lia,m,g,λp f l r e L=>q p _ f (j.trans (SameM.new l _)) (j.free l) _00 r e L⟩
noncomputable abbrev Zfj:SpM:=λ_ _ _=>False
theorem _jH:MonW Zfj:=λ_ h=>h.elim
theorem _ka{P:Program}{w:World}{K:Y00}{mg:Str->Option Value}{base:Heap}{k:Nat}{f:Addr}{j:FuncData}{l:List Str}:FnOk P w K mg base CX0 k f j l (liSp K λ_ _ _=>False):=
 ⟨λ_ _ _ _ ⟨_,_,_,_,h⟩=>h.elim,λ_ _ _ _ _ _ _ _ _ _ _ _ _ ⟨_,_,_,_,h⟩=>h.elim⟩
noncomputable def GoodN(z:Str):Prop:=1<=z.length/\z.length<=8/\∀c∈z.cps.toList,97<=c/\c<=122
theorem _dX{a b:Nat}:([a]:List Nat)<[b]↔a<b:=by
 rw[List.cons_lt_cons_iff]
 constructor
 .rintro(h|⟨_,h⟩)
  .exact h
  .exact absurd h (by simp)
 .exact .inl
theorem _o9:(("a":Str)).cps.toList=[97]:=by decide+kernel
theorem _o8:(("z":Str)).cps.toList=[122]:=by decide+kernel
theorem le_a{c:Nat}(h:97<=c):(!decide ((⟨#[c]⟩:Str).cps.toList<(("a":Str)).cps.toList))=true:=by
 rw[_o9]
 have:¬((⟨#[c]⟩:Str).cps.toList<[97]):=λz=>by
  have z:([c]:List Nat)<[97]:=z
  rw[_dX]at z
  lia
 simpa using this
theorem le_z{c:Nat}(h:c<=122):(!decide ((("z":Str)).cps.toList<(⟨#[c]⟩:Str).cps.toList))=true:=by
 rw[_o8]
 have:¬([122]<(⟨#[c]⟩:Str).cps.toList):=λz=>by
  have z:([122]:List Nat)<[c]:=z
  rw[_dX]at z
  lia
 simpa using this
abbrev Z57:SpM:=λl M Q=>∃z:Str,l=[.str z]/\GoodN z/\∀j,SameM M j->Q (.bl true) j
theorem _a0:MonW Z57:=by walk_at "m"
theorem _ez(T:Txt w K mg t):FnOk P w K mg base CX0 1 t.dy t.dz ["text"] (liSp K Z57):=by
 refine T.b6.F.okM _es (_0i (u:=[]) (_0k T) (_09 T) (_0j T) rfl (λ_ h=>nomatch h) (λ_ h=>nomatch h):Fts P w K mg base 0 ZcX []) Z7e _eS (λl M Q h=>?_) (λl M Q h=>?_)
 .obtain⟨z,rfl,_⟩:=h;rfl
 obtain⟨z,rfl,⟨r,p,u⟩,q⟩:=h
 show wSs _ _ _ [some (.str z)] M
 delta Z7e ZaG
 simp!
 refine⟨by lia,?_⟩
 rw[if_pos (by lia:(1:Int)<=(z.length:Int))]
 rw[if_pos (by lia:(z.length:Int)<=8)]
 refine _1b z.cps.toList (λc=>.str ⟨#[c]⟩) (λ_=>.bl true) ?_ ?_ (λj f L h=>by simp at h) λD y=>?_
 .simp!
  have:z.cps.toList.length=z.length:=Y0o
  exact⟨rfl,by lia,trivial⟩
 .intro c m N s
  obtain⟨g,d⟩:=u c m
  simp only[sCm,Y0a,Y0B,Y0t,Y0u,Y0l,Y0v]
  simp!
  rw[if_pos (by simpa using le_a g)]
  simpa using le_z d
 simp!
 refine⟨z.cps.toList.map λ_=>true,by rw[Y0E];rfl,?_⟩
 have e:((z.cps.toList.map λ_=>true).all id)=true:=by simp
 rw[e]
 exact q _ (SameM.new y _)
theorem _bh{z:Str}{j:List Str}:inV (toV (.str z)) ((j.map MV.str).map toV)=decide (z∈j):=by
 unfold inV
 induction j with
 |nil=>simp
 |cons a r l=>
  rw[Y0a,Y0a,Y1l,l]
  have e:eqV (toV (.str a)) (toV (.str z))=decide (a=z):=by
   show(a==z)=decide (a=z)
   by_cases h:a=z
   .subst h;simp
   .simp[h]
  rw[e]
  by_cases h:a=z
  .simp[h]
  .have u:¬z=a:=λw=>h w.symm
   simp[h,u]
theorem _6S(j:List Str):(j.map MV.str).all Z4b=true:=by
 rw[Y2l]
 intro v l
 obtain⟨x,_,rfl⟩:=Y0h.mp l
 rfl
abbrev Z0q:SpM:=λu M Q=>∃(z:Str) (e:Addr) (j:List Str),u=[.str z,.ref e]/\M e=some (.lst (j.map MV.str))/\GoodN z/\z∉j/\∀l,SameM M l->Q .non l
theorem _1w:MonW Z0q:=by walk_at "m"
theorem _32(T:Txt w K mg t):FnOk P w K mg base CX0 2 t.bq t.cQ ["text","earlier"] (liSp K Z0q):=by
 refine T.ah.F.okM _9Q (_0i (u:=[("is_name",Z57)]) (_0k T) (_09 T) (_0j T) rfl (fMc ⟨_a0,(fun _ h=>nomatch h)⟩) (fMc ⟨⟨_,_,_,(FnOk.mono (_ez T) (by decide)),T.b6.m,T.b6.F.kp,T.b6.b⟩,(fun _ h=>nomatch h)⟩):Fts P w K mg base 1 Z6Z [("is_name",Z57)]) Z38 _ac (fun u M Q h=>?_) (fun u M Q h=>?_)
 .obtain⟨z,a,j,rfl,_⟩:=h;rfl
 obtain⟨z,a,j,rfl,y,m,g,q⟩:=h
 show wSs _ _ _ [some (.str z),some (.ref a)] M
 delta Z38 Z5s
 simp!
 refine⟨z,rfl,m,λM1 l=>?_⟩
 simp!
 delta Z5r
 simp!
 refine .inl ⟨_,l _ _ y,rfl,_6S j,?_⟩
 rw[_bh,decide_eq_false g]
 simp!
 exact q M1 l
noncomputable def Leaf(v:MV):Prop:=(∃i,v=.int i)\/∃z,v=.str z
def FroD:Nat->MH->MV->MV->Prop
 |0,_,v,v'=>Leaf v/\v'=v
 |n+1,M,v,v'=>(Leaf v/\v'=v)\/∃j:List (MV×MV),(v=.tup (j.map (·.1))\/∃a,v=.ref a/\M a=some (.lst (j.map (·.1))))/\v'=.tup (j.map (·.2))/\j.length<=1000/\∀p∈j,FroD n M p.1 p.2
theorem FroD.keep{M M':MH}(s:SameM M M'):∀{n:Nat} {v l:MV},FroD n M v l->FroD n M' v l
 |0,_,_,h=>h
 |n+1,v,l,h=>by
  rcases h with h|⟨u,j,y,z,m⟩
  .exact .inl h
  .refine .inr ⟨u,?_,y,z,λp g=>(m p g).keep s⟩
   rcases j with j|⟨a,e,j⟩
   .exact .inl j
   .exact .inr ⟨a,e,s _ _ j⟩
abbrev Z0O(n:Nat):SpM:=λu M Q=>∃v j,u=[v]/\FroD n M v j/\∀l,SameM M l->Q j l
theorem _2j(n:Nat):MonW (Z0O n):=by walk_at "m"
theorem _dw{n:Nat}(m:∀(j:Nat)f g,([("frozen",Z0O n)]:List (Str×SpM))[j]?=some (f,g)->MonW g){d:List MV} {M:MH} {Q:QM} (h:Z0O (n+1) d M Q):wSs [("frozen",Z0O n)] Z3x {nx:=fun _ u=>Q .non u,rt:=Q} (ZbJ 1 d) M:=by
 obtain⟨v,U,rfl,e,q⟩:=h
 show wSs _ _ _ [some v] M
 delta Z3x Z9u
 rcases e with⟨l,rfl⟩|⟨L,c,rfl,W,N⟩
 .rcases l with⟨i,rfl⟩|⟨z,rfl⟩
  .simp!
   simp only[decide_false,Y3t,Y0J,if_false,reduceCtorEq,ne_eq,not_false_eq_true,true_and]
   delta Z3y
   simp!
   exact q M (SameM.refl _)
  .simp!
   simp only[decide_false,Y3t,Y0J,if_false,reduceCtorEq,ne_eq,not_false_eq_true,true_and]
   delta Z3y
   simp!
   exact q M (SameM.refl _)
 .have r:wSs [("frozen",Z0O n)] Z9t {nx:=fun O M=>wSs [("frozen",Z0O n)] Z3y {nx:=fun _ u=>Q .non u,rt:=Q} O M,rt:=Q} [some v] M:=by
   delta Z9t
   simp!
   refine _gB L (·.1) (·.2) ?_ ?_ m λD u Y s hd=>?_
   .rcases c with rfl|⟨a,rfl,y⟩
    .simp!
     exact⟨rfl,by lia,trivial,λ_ _ h=>h⟩
    .simp![y]
     exact⟨rfl,by lia,y,λ_ _ h=>h⟩
   .intro p R u s
    simp only[sCm,Y0a,Y0B,Y0t,Y0u,Y0l,Y0v]
    simp!
    exact⟨p.1,p.2,rfl,(N p R).keep s,λM2 T=>⟨rfl,T⟩⟩
   simp![hd]
   exact q u s
  rcases c with rfl|⟨a,rfl,y⟩
  .simp!
   simp only[decide_true,Bool.or_true,Bool.true_or,if_true,reduceCtorEq,ne_eq,not_false_eq_true,true_and]
   exact r
  .simp![y]
   simp only[decide_true,Bool.or_true,Bool.true_or,if_true,reduceCtorEq,ne_eq,not_false_eq_true,true_and]
   exact r
theorem _c5(T:Txt w K mg t):∀n:Nat,FnOk P w K mg base CX0 (n+8) t.cX t.d0 ["value"] (liSp K (Z0O n))
 |0=>by
  refine T.ae.F.okM _bO (_0i (u:=[("frozen",Zfj)]) (_0k T) (_09 T) (_0j T) rfl (fMc ⟨@_jH,(fun _ h=>nomatch h)⟩) (fMc ⟨⟨_,_,_,_ka,T.ae.m,T.ae.F.kp,T.ae.b⟩,(fun _ h=>nomatch h)⟩):Fts P w K mg base 7 ZbA [("frozen",Zfj)]) Z3x _cB (fun j M Q h=>?_) (fun j M Q h=>?_)
  .obtain⟨v,u,rfl,_⟩:=h;rfl
  obtain⟨v,u,rfl,⟨l,rfl⟩,q⟩:=h
  show wSs _ _ _ [some u] M
  delta Z3x Z9u
  rcases l with⟨i,rfl⟩|⟨z,rfl⟩
  .simp!
   simp only[decide_false,Y3t,Y0J,if_false,reduceCtorEq,ne_eq,not_false_eq_true,true_and]
   delta Z3y
   simp!
   exact q M (SameM.refl _)
  .simp!
   simp only[decide_false,Y3t,Y0J,if_false,reduceCtorEq,ne_eq,not_false_eq_true,true_and]
   delta Z3y
   simp!
   exact q M (SameM.refl _)
 |n+1=>by
  have y:=_c5 T n
  refine T.ae.F.okM _bO (_0i (u:=[("frozen",(Z0O n))]) (_0k T) (_09 T) (_0j T) rfl (fMc ⟨(_2j _),(fun _ h=>nomatch h)⟩) (fMc ⟨⟨_,_,_,y,T.ae.m,T.ae.F.kp,T.ae.b⟩,(fun _ h=>nomatch h)⟩):Fts P w K mg base (n+8) ZbA [("frozen",(Z0O n))]) Z3x _cB (fun j M Q h=>?_) (fun j M Q h=>?_)
  .obtain⟨v,u,rfl,_⟩:=h;rfl
  exact _dw (_61 (fMc ⟨_2j n,(λ_ h=>nomatch h)⟩)) h
structure Isl where
 name:Str
 prs:List (Str×Int)
 stps:List Stp
structure Fer where
 name:Str
 giver:Str
 taker:Str
 k:Nat
 st:Nat
structure Wld where
 w:Nat
 isl:List Isl
 fer:List Fer
noncomputable def prV(p:Str×Int):MV:=.tup [.str p.1,.int p.2]
noncomputable def Fer.mv(f:Fer):MV:=.tup [.str f.name,.str f.giver,.str f.taker,.int f.k,.int f.st]
def Isl.mv(I:Isl):MV:=.tup [.str I.name,.tup (I.prs.map prV),.tup (I.stps.map Stp.mv)]
def Wld.mv(W:Wld):MV:=.tup [.int W.w,.tup (W.isl.map Isl.mv),.tup (W.fer.map Fer.mv)]
noncomputable def Isl.vars(I:Isl):List Str:=I.prs.map (·.1)
noncomputable def Wld.fns(W:Wld):List Str:=W.fer.map (·.name)
noncomputable def Wld.ins(W:Wld):List Str:=W.isl.map (·.name)
noncomputable def TmIn(j:List Str)(T:Tm):Prop:=T.depth<=8/\T.size<=30/\∀x∈T.reads,x∈j
def Zbz(fs:List Str)(j:List Str)(n:Nat):Stp->Prop
 |.take f x=>f∈fs/\x∈j
 |.give f T=>f∈fs/\TmIn j T
 |.put x T=>x∈j/\TmIn j T
 |.jump T i=>TmIn j T/\0<=i/\i<=(n:Int)
structure IslOk (w:Nat)(fs:List Str)(I:Isl):Prop where
 nv:I.prs.length<=6
 ns:I.stps.length<=12
 nd:I.vars.Nodup
 gd:∀x∈I.vars,GoodN x
 wd:∀p∈I.prs,0<=p.2/\p.2<2^w
 st:∀s∈I.stps,Zbz fs I.vars I.stps.length s
structure FerOk (is:List Str)(f:Fer):Prop where
 g:f.giver∈is
 t:f.taker∈is
 ne:f.giver≠f.taker
 k3:f.k<=3
 s1:1<=f.st
 s3:f.st<=3
noncomputable def ZdL(F:List Fer)(z:Str):Stp->Prop
 |.take f _=>∀x∈F,x.name=f->x.taker=z
 |.give f _=>∀x∈F,x.name=f->x.giver=z
 |_=>True
structure Wld.Good (W:Wld):Prop where
 w1:1<=W.w
 w2:W.w<=64
 i5:W.isl.length<=5
 f6:W.fer.length<=6
 fg:∀z∈W.fns,GoodN z
 ig:∀z∈W.ins,GoodN z
 nd:(W.fns++W.ins).Nodup
 io:∀I∈W.isl,IslOk W.w W.fns I
 fo:∀f∈W.fer,FerOk W.ins f
 en:∀I∈W.isl,∀s∈I.stps,ZdL W.fer I.name s
def IslIn(M:MH)(I:Isl)(y:MV):Prop:=∃a b,y=.tup [.str I.name,.ref a,.ref b]/\M a=some (.lst (I.prs.map prV))/\M b=some (.lst (I.stps.map Stp.mv))
theorem IslIn.keep{M M':MH}(s:SameM M M'){I:Isl}{y:MV}(h:IslIn M I y):IslIn M' I y:=by
 obtain⟨a,b,e,j,l⟩:=h
 exact⟨a,b,e,s _ _ j,s _ _ l⟩
def IslsIn(M:MH)(Is:List Isl)(j:List MV):Prop:=j.length=Is.length/\∀(i:Nat)(I:Isl)(y:MV),Is[i]?=some I->j[i]?=some y->IslIn M I y
theorem IslsIn.keep{M M':MH}(s:SameM M M'){Is:List Isl}{ys:List MV}(h:IslsIn M Is ys):IslsIn M' Is ys:=⟨h.1,λi z y a b=>(h.2 i z y a b).keep s⟩
theorem IslsIn.mem{M:MH}{Is:List Isl}{ys:List MV}(h:IslsIn M Is ys){y:MV}(u:y∈ys):∃I∈Is,IslIn M I y:=by
 obtain⟨i,l,rfl⟩:=Y1g u
 have j:i<Is.length:=by rw[<-h.1];exact l
 exact⟨Is[i],Y0j j,h.2 i _ _ (Y02 j) (Y02 l)⟩
theorem IslsIn.fst{M:MH}{Is:List Isl}{l:List MV}(h:IslsIn M Is l){f:MV->MV}(u:∀z r,f (.tup (.str z::r))=.str z):l.map f=(Is.map (·.name)).map MV.str:=by
 apply List.ext_getElem?
 intro i
 rw[Y08,Y08,Y08]
 by_cases hi:i<l.length
 .have j:i<Is.length:=by rw[<-h.1];exact hi
  obtain⟨a,b,e,_⟩:=h.2 i _ _ (Y02 j) (Y02 hi)
  rw[Y02 j,Y02 hi,e]
  show some (f _)=_
  rw[u];rfl
 .have j:¬i<Is.length:=by rw[<-h.1];exact hi
  rw[Y1m (by lia),Y1m (by lia)];rfl
noncomputable abbrev Z1B:SpM:=λj M Q=>∃i:Int,j=[.int i]/\Q (.bl true) M
theorem _4r:MonW Z1B:=by walk_at "m"
theorem _8W(T:Txt w K mg t):FnOk P w K mg base CX0 1 t.bh t.cH ["value"] (liSp K Z1B):=by
 refine T.ao.F.okM _d9 (_0i (u:=[]) (_0k T) (_09 T) (_0j T) rfl (λ_ h=>nomatch h) (λ_ h=>nomatch h):Fts P w K mg base 0 ZaS []) Z6d _dF (λj M Q h=>?_) (λj M Q h=>?_)
 .obtain⟨i,rfl,_⟩:=h;rfl
 obtain⟨i,rfl,q⟩:=h
 show wSs _ _ _ [some (.int i)] M
 delta Z6d Z9s
 simp!
 simpa using q
noncomputable abbrev Z2n:SpM:=λj M Q=>∃i:Int,j=[.int i]/\1<=i/\i<=64/\Q (.bl true) M
theorem _4q:MonW Z2n:=by walk_at "m"
theorem _df(T:Txt w K mg t):FnOk P w K mg base CX0 2 t.dI t.bE ["number"] (liSp K Z2n):=by
 refine T.aK.F.okM _d8 (_0i (u:=[("is_whole",Z1B)]) (_0k T) (_09 T) (_0j T) rfl (fMc ⟨_4r,(fun _ h=>nomatch h)⟩) (fMc ⟨⟨_,_,_,(FnOk.mono (_8W T) (by decide)),T.ao.m,T.ao.F.kp,T.ao.b⟩,(fun _ h=>nomatch h)⟩):Fts P w K mg base 1 ZaR [("is_whole",Z1B)]) Z6c _dE (fun j M Q h=>?_) (fun j M Q h=>?_)
 .obtain⟨i,rfl,_⟩:=h;rfl
 obtain⟨i,rfl,l,u,q⟩:=h
 show wSs _ _ _ [some (.int i)] M
 delta Z6c Z9r
 simp!
 refine⟨i,rfl,?_⟩
 simp!
 rw[if_pos l,decide_eq_true u]
 exact q
noncomputable abbrev ZaY:SpM:=λj M Q=>∃(k:Nat) (i:Int),j=[.int k,.int i]/\k<=64/\0<=i/\i<2^k/\Q (.bl true) M
theorem _di:MonW ZaY:=by walk_at "m"
theorem _jt(T:Txt w K mg t):FnOk P w K mg base CX0 2 t.cq t.dH ["width","number"] (liSp K ZaY):=by
 refine T.b8.F.okM _iW (_0i (u:=[("is_whole",Z1B),("two_to",Z6i)]) (_0k T) (_09 T) (_0j T) rfl (fMc ⟨_4r,(fMc ⟨_be,(fun _ h=>nomatch h)⟩)⟩) (fMc ⟨⟨_,_,_,(FnOk.mono (_8W T) (by decide)),T.ao.m,T.ao.F.kp,T.ao.b⟩,(fMc ⟨⟨_,_,_,(FnOk.mono (_fJ T) (by decide)),T.aY.m,T.aY.F.kp,T.aY.b⟩,(fun _ h=>nomatch h)⟩)⟩):Fts P w K mg base 1 ZiJ [("is_whole",Z1B),("two_to",Z6i)]) Zdt _ki (fun j M Q h=>?_) (fun j M Q h=>?_)
 .obtain⟨k,i,rfl,_⟩:=h;rfl
 obtain⟨k,i,rfl,l,u,y,q⟩:=h
 show wSs _ _ _ [some (.int k),some (.int i)] M
 delta Zdt Zgs
 simp!
 refine⟨i,rfl,?_⟩
 simp!
 rw[if_pos u]
 refine⟨k,rfl,l,?_⟩
 simp!
 rw[decide_eq_true y]
 exact q
noncomputable abbrev Z0d:SpM:=λl M Q=>∃(z:Str) (e:Addr) (j:List Str),l=[.str z,.ref e]/\M e=some (.lst (j.map MV.str))/\z∈j/\Q .non M
theorem _0X:MonW Z0d:=by walk_at "m"
theorem _1C(T:Txt w K mg t):FnOk P w K mg base CX0 1 t.bS t.dX ["name","known"] (liSp K Z0d):=by
 refine T.af.F.okM _75 (_0i (u:=[]) (_0k T) (_09 T) (_0j T) rfl (λ_ h=>nomatch h) (λ_ h=>nomatch h):Fts P w K mg base 0 Z49 []) Z1F _7h (λl M Q h=>?_) (λl M Q h=>?_)
 .obtain⟨z,a,j,rfl,_⟩:=h;rfl
 obtain⟨z,a,j,rfl,u,y,q⟩:=h
 show wSs _ _ _ [some (.str z),some (.ref a)] M
 delta Z1F Z3r
 simp!
 refine .inl ⟨_,u,rfl,_6S j,?_⟩
 rw[_bh,decide_eq_true y]
 simp!
 exact q
theorem _8Y{l:Type} [DecidableEq l] {u:List l}(m:u.Nodup){j:Nat}{z:l}(g:u[j]?=some z):z∉u.take j:=λd=>by
 obtain⟨q,rfl⟩:=Y0b.mp g
 obtain⟨k,c,y⟩:=Y1g d
 have f:k<j:=by rw[Y0s]at c;lia
 rw[List.getElem_take]at y
 have:=(Y34 m).mp y
 lia
theorem _aV{l y:Type}{f:l->y}{u:List l}{j:Nat}{z:l}(m:u[j]?=some z):(u.take j).map f++[f z]=(u.take (j+1)).map f:=by
 rw[Y0K,m,Y07];rfl
abbrev Z0g:SpM:=λl M Q=>∃(f:Addr) (F:List Fer),l=[.ref f]/\M f=some (.lst (F.map Fer.mv))/\F.length<=6/\(F.map (·.name)).Nodup/\(∀x∈F,GoodN x.name)/\∀j,SameM M j->Q .non j
theorem _1a:MonW Z0g:=by walk_at "m"
theorem _4l(T:Txt w K mg t):FnOk P w K mg base CX0 3 t.c9 t.dF ["ferries"] (liSp K Z0g):=by
 refine T.ba.F.okM _4e (_0i (u:=[("refuse_name",Z0q)]) (_0k T) (_09 T) (_0j T) rfl (fMc ⟨_1w,(fun _ h=>nomatch h)⟩) (fMc ⟨⟨_,_,_,(FnOk.mono (_32 T) (by decide)),T.ah.m,T.ah.F.kp,T.ah.b⟩,(fun _ h=>nomatch h)⟩):Fts P w K mg base 2 Z2g [("refuse_name",Z0q)]) Z0Y _50 (fun Y M Q h=>?_) (fun Y M Q h=>?_)
 .obtain⟨f,F,rfl,_⟩:=h;rfl
 obtain⟨f,F,rfl,N,C,Z,A,q⟩:=h
 show wSs _ _ _ [some (.ref f),none,none] M
 delta Z0Y Z1X
 simp!
 intro p O
 have R:=SameM.new O (.lst [])
 have d:=R _ _ N
 have c:updM M p (.lst []) p=some (.lst []):=_00
 have r:∀a o,M a=some o->a≠p:=λa o h=>neM h O
 generalize updM M p _=M1 at*
 delta Z1W
 simp![d]
 obtain⟨J,u⟩:∃J:Nat->Sm->MH->Prop,∀j z l,J j z l↔SameM M l/\l p=some (.lst (((F.map (·.name)).take j).map MV.str))/\∃v,z=[some (.ref f),some (.ref p),v]:=⟨_,λ_ _ _=>Y1y⟩
 refine⟨J,(u _ _ _).mpr ⟨R,by simpa using c,_,rfl⟩,λj z l h=>((u _ _ _).mp h).1 _ _ N,?_,?_⟩
 .rintro j y z l B h
  obtain⟨e,m,v,rfl⟩:=(u _ _ _).mp h
  obtain⟨g,rfl⟩:=_0z B
  have g:j<F.length:=g
  have U:(F.map (·.name))[j]?=some F[j].name:=by rw[Y08,Y02 g];rfl
  delta Z1V
  simp![Fer.mv]
  refine⟨F[j].name,p,(F.map (·.name)).take j,rfl,m,A _ (Y0j g),_8Y Z U,λD W=>?_⟩
  have L:=W _ _ m
  simp!
  delta Z1U
  simp![Fer.mv,L,Y01,Y0s]
  refine⟨⟨_,rfl⟩,by lia,(u _ _ _).mpr ⟨λa o h=>by rw[_06 (r a o h)];exact W _ _ (e _ _ h),?_,_,rfl⟩⟩
  rw[_00,_aV U]
 .rintro z l h
  obtain⟨e,_⟩:=(u _ _ _).mp h
  exact q _ e
abbrev Z0t:SpM:=λu M Q=>∃(k:Nat) (f:Addr) (j:List (Str×Int)),u=[.int k,.ref f]/\M f=some (.lst (j.map prV))/\k<=64/\j.length<=6/\(j.map (·.1)).Nodup/\(∀x∈j,GoodN x.1/\0<=x.2/\x.2<2^k)/\∀l,SameM M l->Q .non l
theorem _1v:MonW Z0t:=by walk_at "m"
theorem _5Z(T:Txt w K mg t):FnOk P w K mg base CX0 3 t.dY t.dj ["width","pairs"] (liSp K Z0t):=by
 refine T.aS.F.okM _5X (_0i (u:=[("fits",ZaY),("refuse_name",Z0q)]) (_0k T) (_09 T) (_0j T) rfl (fMc ⟨_di,(fMc ⟨_1w,(fun _ h=>nomatch h)⟩)⟩) (fMc ⟨⟨_,_,_,(FnOk.mono (_jt T) (by decide)),T.b8.m,T.b8.F.kp,T.b8.b⟩,(fMc ⟨⟨_,_,_,(FnOk.mono (_32 T) (by decide)),T.ah.m,T.ah.F.kp,T.ah.b⟩,(fun _ h=>nomatch h)⟩)⟩):Fts P w K mg base 2 Z30 [("fits",ZaY),("refuse_name",Z0q)]) Z1h _6f (fun Z M Q h=>?_) (fun Z M Q h=>?_)
 .obtain⟨k,f,F,rfl,_⟩:=h;rfl
 obtain⟨k,f,F,rfl,N,A,S,B,C,q⟩:=h
 show wSs _ _ _ [some (.int k),some (.ref f),none,none,none] M
 delta Z1h Z2H
 simp!
 intro p O
 have R:=SameM.new O (.lst [])
 have d:=R _ _ N
 have c:updM M p (.lst []) p=some (.lst []):=_00
 have r:∀a o,M a=some o->a≠p:=λa o h=>neM h O
 generalize updM M p _=M1 at*
 delta Z2G
 simp![d]
 obtain⟨J,u⟩:∃J:Nat->Sm->MH->Prop,∀j z l,J j z l↔SameM M l/\l p=some (.lst (((F.map (·.1)).take j).map MV.str))/\∃v U,z=[some (.int k),some (.ref f),some (.ref p),v,U]:=⟨_,λ_ _ _=>Y1y⟩
 refine⟨J,(u _ _ _).mpr ⟨R,by simpa using c,_,_,rfl⟩,λj z l h=>((u _ _ _).mp h).1 _ _ N,?_,?_⟩
 .rintro j y z l D h
  obtain⟨e,m,v,U,rfl⟩:=(u _ _ _).mp h
  obtain⟨g,rfl⟩:=_0z D
  have g:j<F.length:=g
  have W:(F.map (·.1))[j]?=some F[j].1:=by rw[Y08,Y02 g];rfl
  obtain⟨E,G,I⟩:=C _ (Y0j g)
  delta Z2F
  simp![prV]
  delta Z2E
  simp!
  refine⟨F[j].1,p,(F.map (·.1)).take j,rfl,m,E,_8Y B W,λX Y=>?_⟩
  have L:=Y _ _ m
  simp!
  delta Z2D
  simp![L,Y01,Y0s]
  refine⟨⟨_,rfl⟩,by lia,?_⟩
  delta Z2C
  simp![prV]
  refine⟨k,F[j].2,rfl,A,G,I,?_⟩
  simp!
  refine(u _ _ _).mpr ⟨λa o h=>by rw[_06 (r a o h)];exact Y _ _ (e _ _ h),?_,_,_,rfl⟩
  rw[_00,_aV W]
 .rintro z l h
  obtain⟨e,_⟩:=(u _ _ _).mp h
  exact q _ e
abbrev Z1H:SpM:=λu M Q=>∃(U:Tm) (e:Addr) (j:List Str),u=[U.mv,.ref e]/\M e=some (.lst (j.map MV.str))/\j.length<=6/\TmIn j U/\∀l,SameM M l->Q .non l
theorem _6o:MonW Z1H:=by walk_at "m"
theorem _9V(T:Txt w K mg t):FnOk P w K mg base CX0 51 t.cN t.dr ["T","known"] (liSp K Z1H):=by
 refine T.aH.F.okM _9O (_0i (u:=[("refuse_unknown",Z0d),("size_of",(Z1z 8)),("vars_in",Z56)]) (_0k T) (_09 T) (_0j T) rfl (fMc ⟨_0X,(fMc ⟨(_5e _),(fMc ⟨_9Z,(fun _ h=>nomatch h)⟩)⟩)⟩) (fMc ⟨⟨_,_,_,FnOk.mono (_1C T) (by decide),T.af.m,T.af.F.kp,T.af.b⟩,(fMc ⟨⟨_,_,_,FnOk.mono (_ap T 8) (by decide),T.ai.m,T.ai.F.kp,T.ai.b⟩,(fMc ⟨⟨_,_,_,FnOk.mono (_ey T) (by decide),T.aT.m,T.aT.F.kp,T.aT.b⟩,(fun _ h=>nomatch h)⟩)⟩)⟩):Fts P w K mg base 50 Z6X [("refuse_unknown",Z0d),("size_of",(Z1z 8)),("vars_in",Z56)]) Z36 _aa (fun e M Q h=>?_) (fun e M Q h=>?_)
 .obtain⟨U,a,g,rfl,_⟩:=h;rfl
 obtain⟨U,a,g,rfl,L,Y,⟨hd,Z,d⟩,q⟩:=h
 show wSs _ _ _ [some U.mv,some (.ref a),none,none] M
 delta Z36 Z5i
 simp!
 refine⟨U,rfl,hd,λM1 c=>?_⟩
 simp!
 delta Z5h
 simp!
 rw[if_neg (by lia:¬((U.size:Nat):Int)>30)]
 rw[if_neg (by lia:¬((U.depth:Nat):Int)>8)]
 delta Z5g
 simp!
 refine⟨U,g,rfl,by lia,by lia,d,by lia,λp M2 N f A l B O _=>?_⟩
 simp![l]
 obtain⟨J,u⟩:∃J:Nat->Sm->MH->Prop,∀j z m,J j z m↔m=M2/\∃v r,z=[some U.mv,some (.ref a),v,r]:=⟨_,λ_ _ _=>Y1y⟩
 refine⟨J,(u _ _ _).mpr ⟨rfl,_,_,rfl⟩,λj z m h=>by rw[((u _ _ _).mp h).1];exact l,?_,?_⟩
 .rintro j y z m R h
  obtain⟨rfl,v,r,rfl⟩:=(u _ _ _).mp h
  obtain⟨W,rfl⟩:=_0z R
  delta Z5f
  simp!
  refine⟨N[j],a,g,rfl,f _ _ (c _ _ L),d _ ((O _).mp (Y0j W)),?_⟩
  simp!
  exact(u _ _ _).mpr ⟨rfl,_,_,rfl⟩
 .rintro z m h
  obtain⟨rfl,_⟩:=(u _ _ _).mp h
  exact q _ (c.trans f)
theorem _d1{f x:Str}:(Stp.take f x).mv=.tup [.str "take",.str f,.str x]:=rfl
theorem _d3{f:Str}{U:Tm}:(Stp.give f U).mv=.tup [.str "give",.str f,U.mv]:=rfl
theorem _fi{f:Str}{U:Tm}:(Stp.put f U).mv=.tup [.str "put",.str f,U.mv]:=rfl
theorem _d2{i:Int}{U:Tm}:(Stp.jump U i).mv=.tup [.str "jump",U.mv,.int i]:=rfl
abbrev Z12:SpM:=λu M Q=>∃(S:Stp) (a b:Addr) (j fs:List Str) (n:Nat),u=[S.mv,.ref a,.int n,.ref b]/\M a=some (.lst (j.map MV.str))/\M b=some (.lst (fs.map MV.str))/\j.length<=6/\Zbz fs j n S/\∀l,SameM M l->Q .non l
theorem _2V:MonW Z12:=by walk_at "m"
theorem _9W(T:Txt w K mg t):FnOk P w K mg base CX0 52 t.bj t.cb ["step","known","count","ferry_names"] (liSp K Z12):=by
 refine T.aV.F.okM _9P (_0i (u:=[("refuse_term",Z1H),("refuse_unknown",Z0d)]) (_0k T) (_09 T) (_0j T) rfl (fMc ⟨_6o,(fMc ⟨_0X,(fun _ h=>nomatch h)⟩)⟩) (fMc ⟨⟨_,_,_,(FnOk.mono (_9V T) (by decide)),T.aH.m,T.aH.F.kp,T.aH.b⟩,(fMc ⟨⟨_,_,_,(FnOk.mono (_1C T) (by decide)),T.af.m,T.af.F.kp,T.af.b⟩,(fun _ h=>nomatch h)⟩)⟩):Fts P w K mg base 51 Z6Y [("refuse_term",Z1H),("refuse_unknown",Z0d)]) Z37 _ab (fun c M Q h=>?_) (fun c M Q h=>?_)
 .obtain⟨S,a,b,u,fs,n,rfl,_⟩:=h;rfl
 obtain⟨S,a,b,u,fs,n,rfl,y,d,g,m,q⟩:=h
 show wSs _ _ _ [some S.mv,some (.ref a),some (.int n),some (.ref b)] M
 delta Z37 Z5q
 cases S with
 |take f x=>
  obtain⟨j,l⟩:=m
  simp![_d1]
  delta Z5p
  simp!
  refine⟨f,b,fs,rfl,d,j,?_⟩
  simp!
  delta Z5o
  simp!
  refine⟨x,a,u,rfl,y,l,?_⟩
  simp!
  exact q _ (SameM.refl _)
 |give f U=>
  obtain⟨j,l⟩:=m
  simp![_d3]
  delta Z1I
  simp!
  delta Z5n
  simp!
  refine⟨f,b,fs,rfl,d,j,?_⟩
  simp!
  delta Z5m
  simp!
  refine⟨U,a,u,rfl,y,g,l,λM1 z=>?_⟩
  simp!
  exact q _ z
 |put f U=>
  obtain⟨j,l⟩:=m
  simp![_fi]
  delta Z1I
  simp!
  delta Z34
  simp!
  delta Z5l
  simp!
  refine⟨f,a,u,rfl,y,j,?_⟩
  simp!
  delta Z5k
  simp!
  refine⟨U,a,u,rfl,y,g,l,λM1 z=>?_⟩
  simp!
  exact q _ z
 |jump U i=>
  obtain⟨j,l,r⟩:=m
  simp![_d2]
  delta Z1I
  simp!
  delta Z34
  simp!
  delta Z5j
  simp!
  refine⟨U,a,u,rfl,y,g,j,λM1 z=>?_⟩
  simp!
  delta Z4s
  simp!
  rw[if_pos l]
  rw[if_neg (by lia:¬¬i<=(n:Int))]
  exact q _ z
abbrev Z1c:SpM:=λl M Q=>∃(k:Nat) (I:Isl) (y:MV) (b:Addr) (fs:List Str),l=[.int k,y,.ref b]/\k<=64/\IslIn M I y/\M b=some (.lst (fs.map MV.str))/\IslOk k fs I/\∀j,SameM M j->Q .non j
theorem _5b:MonW Z1c:=by walk_at "m"
theorem _8q(T:Txt w K mg t):FnOk P w K mg base CX0 53 t.cL t.cT ["width","island","ferry_names"] (liSp K Z1c):=by
 refine T.bd.F.okM _8o (_0i (u:=[("refuse_step",Z12),("refuse_variables",Z0t)]) (_0k T) (_09 T) (_0j T) rfl (fMc ⟨_2V,(fMc ⟨_1v,(fun _ h=>nomatch h)⟩)⟩) (fMc ⟨⟨_,_,_,(FnOk.mono (_9W T) (by decide)),T.aV.m,T.aV.F.kp,T.aV.b⟩,(fMc ⟨⟨_,_,_,(FnOk.mono (_5Z T) (by decide)),T.aS.m,T.aS.F.kp,T.aS.b⟩,(fun _ h=>nomatch h)⟩)⟩):Fts P w K mg base 52 Z53 [("refuse_step",Z12),("refuse_variables",Z0t)]) Z26 _8A (fun A M Q h=>?_) (fun A M Q h=>?_)
 .obtain⟨k,I,y,b,fs,rfl,_⟩:=h;rfl
 obtain⟨k,I,y,f,fs,rfl,B,⟨a,b,rfl,r,U⟩,e,ok,q⟩:=h
 show wSs _ _ _ [some (.int k),some (.tup [.str I.name,.ref a,.ref b]),some (.ref f),none,none] M
 have W:=ok.nv
 have S:=ok.ns
 delta Z26 Z45
 simp![r,Y01]
 refine _63 (λz=>by lia) (λ_=>?_)
 delta Z44
 simp![U,Y01]
 refine _63 (λz=>by lia) (λ_=>?_)
 delta Z43
 simp!
 refine⟨k,a,I.prs,rfl,r,B,W,ok.nd,λx Y=>⟨ok.gd _ (Y0h.mpr ⟨x,Y,rfl⟩),ok.wd _ Y⟩,λM1 Z=>?_⟩
 simp!
 have g:=Z _ _ r
 delta Z42
 simp!
 refine _1b I.prs prV (fun p=>.str p.1) ?_ ?_ (_61 (u:=[("refuse_step",Z12),("refuse_variables",Z0t)]) (fMc ⟨_2V,(fMc ⟨_1v,(fun _ h=>nomatch h)⟩)⟩)) fun D C=>?_
 .simp![g]
  exact⟨rfl,by lia,g⟩
 .intro p X u s
  simp only[sCm,Y0a,Y0B,Y0t,Y0u,Y0l,Y0v]
  simp![prV]
  try exact⟨rfl,rfl⟩
 have E:(I.prs.map λp=>MV.str p.1)=I.vars.map MV.str:=by unfold Isl.vars;rw[Y0E];rfl
 rw[E]
 have L:=Z.trans (SameM.new C (.lst (I.vars.map MV.str)))
 have N:updM M1 D (.lst (I.vars.map MV.str)) D=some (.lst (I.vars.map MV.str)):=_00
 generalize updM M1 D _=M2 at*
 have l:=L _ _ U
 delta Z41
 simp![l]
 obtain⟨J,d⟩:∃J:Nat->Sm->MH->Prop,∀j c u,J j c u↔SameM M2 u/\∃v,c=[some (.int k),some (.tup [.str I.name,.ref a,.ref b]),some (.ref f),some (.ref D),v]:=⟨_,λ_ _ _=>Y1y⟩
 refine⟨J,(d _ _ _).mpr ⟨SameM.refl _,_,rfl⟩,λj c u h=>((d _ _ _).mp h).1 _ _ l,?_,?_⟩
 .rintro j y c u F h
  obtain⟨m,v,rfl⟩:=(d _ _ _).mp h
  obtain⟨O,rfl⟩:=_0z F
  have O:j<I.stps.length:=O
  have R:=m _ _ l
  delta Z40
  simp![R,Y01]
  refine⟨I.stps[j],D,f,I.vars,fs,I.stps.length,rfl,m _ _ N,m _ _ (L _ _ e),by unfold Isl.vars;rw[Y01];exact W,ok.st _ (Y0j O),λH G=>?_⟩
  simp!
  exact(d _ _ _).mpr ⟨m.trans G,_,rfl⟩
 .rintro c u h
  obtain⟨m,_⟩:=(d _ _ _).mp h
  exact q _ (L.trans m)
abbrev Z0J:SpM:=λy M Q=>∃(k:Nat) (p b:Addr) (j:List Isl) (l:List MV) (fs:List Str),y=[.int k,.ref p,.ref b]/\k<=64/\M p=some (.lst l)/\IslsIn M j l/\j.length<=5/\fs.length<=6/\M b=some (.lst (fs.map MV.str))/\(fs++j.map (·.name)).Nodup/\(∀I∈j,GoodN I.name)/\(∀I∈j,IslOk k fs I)/\∀u,SameM M u->Q .non u
theorem _1T:MonW Z0J:=by walk_at "m"
theorem _77(T:Txt w K mg t):FnOk P w K mg base CX0 54 t.bV t.bm ["width","islands","ferry_names"] (liSp K Z0J):=by
 refine T.aD.F.okM _76 (_0i (u:=[("refuse_island",Z1c),("refuse_name",Z0q)]) (_0k T) (_09 T) (_0j T) rfl (fMc ⟨_5b,(fMc ⟨_1w,(fun _ h=>nomatch h)⟩)⟩) (fMc ⟨⟨_,_,_,(FnOk.mono (_8q T) (by decide)),T.bd.m,T.bd.F.kp,T.bd.b⟩,(fMc ⟨⟨_,_,_,(FnOk.mono (_32 T) (by decide)),T.ah.m,T.ah.F.kp,T.ah.b⟩,(fun _ h=>nomatch h)⟩)⟩):Fts P w K mg base 53 Z4a [("refuse_island",Z1c),("refuse_name",Z0q)]) Z1G _7i (fun n M Q h=>?_) (fun n M Q h=>?_)
 .obtain⟨k,p,b,l,E,fs,rfl,_⟩:=h;rfl
 obtain⟨k,p,f,l,E,fs,rfl,x,F,L,h5,hf6,G,N,hg,ok,q⟩:=h
 show wSs _ _ _ [some (.int k),some (.ref p),some (.ref f),none,none] M
 delta Z1G Z3w
 simp![G]
 intro e I
 have S:=SameM.new I (.lst (fs.map MV.str))
 have O:updM M e (.lst (fs.map MV.str)) e=some (.lst (fs.map MV.str)):=_00
 have R:=S _ _ F
 have U:∀a o,M a=some o->a≠e:=λa o h=>neM h I
 generalize updM M e _=M1 at*
 delta Z3v
 simp![R]
 obtain⟨J,m⟩:∃J:Nat->Sm->MH->Prop,∀j g u,J j g u↔SameM M u/\u e=some (.lst ((fs++(l.map (·.name)).take j).map MV.str))/\∃v,g=[some (.int k),some (.ref p),some (.ref f),some (.ref e),v]:=⟨_,λ_ _ _=>Y1y⟩
 refine⟨J,(m _ _ _).mpr ⟨S,by simpa using O,_,rfl⟩,λj g u h=>((m _ _ _).mp h).1 _ _ F,?_,?_⟩
 .rintro j y g u d h
  obtain⟨r,c,v,rfl⟩:=(m _ _ _).mp h
  have d:E[j]?=some y:=d
  have X:j<l.length:=by rw[<-L.1];exact(Y0b.mp d).1
  have W:l[j]?=some l[j]:=Y02 X
  have H:(l.map (·.name))[j]?=some l[j].name:=by rw[Y08,W];rfl
  have Y:=Y0j X
  obtain⟨a,b,rfl,_⟩:=(L.keep r).2 j l[j] y W d
  have Z:l[j].name∉fs++(l.map (·.name)).take j:=by
   rw[Y1t]at N
   intro z
   rcases Y0m.mp z with z|z
   .exact N.2.2 _ z _ (Y0h.mpr ⟨_,Y,rfl⟩) rfl
   .exact _8Y N.2.1 H z
  delta Z3u
  simp!
  refine⟨l[j].name,e,fs++(l.map (·.name)).take j,rfl,c,hg _ Y,Z,λA s=>?_⟩
  have B:=s _ _ c
  simp!
  delta Z3t
  simp![B,Y01,Y0i,Y0s]
  refine⟨⟨_,rfl⟩,by lia,?_⟩
  have C:SameM M (updM A e (.lst ((fs++(l.map (·.name)).take j).map MV.str++[.str l[j].name]))):=λa o h=>by rw[_06 (U a o h)];exact s _ _ (r _ _ h)
  have D:updM A e (.lst ((fs++(l.map (·.name)).take j).map MV.str++[.str l[j].name])) e=some (.lst ((fs++(l.map (·.name)).take (j+1)).map MV.str)):=by
   rw[_00,Y07,Y07,Y0x,_aV H]
  generalize updM A e _=M4 at*
  delta Z3s
  simp!
  refine⟨k,l[j],_,f,fs,rfl,x,(L.keep C).2 j _ _ W d,C _ _ G,ok _ Y,λM5 i=>?_⟩
  simp!
  exact(m _ _ _).mpr ⟨C.trans i,i _ _ D,_,rfl⟩
 .rintro g u h
  obtain⟨r,_⟩:=(m _ _ _).mp h
  exact q _ r
noncomputable abbrev Z0S:SpM:=λl M Q=>∃(x:Fer) (e:Addr) (j:List Str),l=[x.mv,.ref e]/\M e=some (.lst (j.map MV.str))/\FerOk j x/\Q .non M
theorem _2x:MonW Z0S:=by walk_at "m"
theorem _8V(T:Txt w K mg t):FnOk P w K mg base CX0 2 t.cr t.dt ["ferry","island_names"] (liSp K Z0S):=by
 refine T.aF.F.okM _8L (_0i (u:=[("refuse_unknown",Z0d)]) (_0k T) (_09 T) (_0j T) rfl (fMc ⟨_0X,(fun _ h=>nomatch h)⟩) (fMc ⟨⟨_,_,_,(FnOk.mono (_1C T) (by decide)),T.af.m,T.af.F.kp,T.af.b⟩,(fun _ h=>nomatch h)⟩):Fts P w K mg base 1 Z5Q [("refuse_unknown",Z0d)]) Z2I _9z (fun u M Q h=>?_) (fun u M Q h=>?_)
 .obtain⟨x,a,j,rfl,_⟩:=h;rfl
 obtain⟨x,a,j,rfl,l,ok,q⟩:=h
 show wSs _ _ _ [some (.tup [.str x.name,.str x.giver,.str x.taker,.int x.k,.int x.st]),some (.ref a)] M
 have y:=ok.k3
 have z:=ok.s1
 have m:=ok.s3
 delta Z2I Z4x
 simp!
 refine⟨_,a,j,rfl,l,ok.g,?_⟩
 simp!
 delta Z4w
 simp!
 refine⟨_,a,j,rfl,l,ok.t,?_⟩
 simp!
 delta Z4v
 simp!
 rw[if_neg ok.ne]
 delta Z4u
 simp!
 rw[if_pos (by lia:(0:Int)<=(x.k:Int))]
 rw[if_neg (by lia:¬¬(x.k:Int)<=3)]
 delta Z4t
 simp!
 rw[if_pos (by lia:(1:Int)<=(x.st:Int))]
 rw[if_neg (by lia:¬¬(x.st:Int)<=3)]
 exact q
theorem _eu{F:List Fer}{g:Fer->Str}:∀{c:List (Key×MV)},(F.map (·.name)).Nodup->(∀x∈F,valM c (Y12 x.name)=none)->∀x∈F,valM ((F.map λy=>((Y12 y.name:Key),MV.str (g y))).foldl (λc z=>putM c z.1 z.2) c) (Y12 x.name)=some (.str (g x)):=by
 have stay:∀(F:List Fer)(c:List (Key×MV))(z:Str),(∀y∈F,y.name≠z)->valM ((F.map λy=>((Y12 y.name:Key),MV.str (g y))).foldl (λc z=>putM c z.1 z.2) c) (Y12 z)=valM c (Y12 z):=by
  intro F
  induction F with
  |nil=>intro c z _;rfl
  |cons y r m=>
   intro c z h
   rw[Y0a,Y2u,m _ _ (λy d=>h y (Y04 _ d)),_6h,if_neg (λe=>h y (Y0c ..) (Y2Y e).symm)]
 induction F with
 |nil=>intro c _ _ x j;cases j
 |cons y r m=>
  intro c l h x j
  rw[Y0a,Y15]at l
  rw[Y0a,Y2u]
  rcases Y06.mp j with rfl|j
  .rw[stay _ _ _ (λz u e=>l.1 (Y0h.mpr ⟨z,u,e⟩)),_6h,if_pos rfl]
  .refine m l.2 (λz u=>?_) x j
   rw[_6h,if_neg (λe=>l.1 (Y0h.mpr ⟨z,u,Y2Y e⟩))]
   exact h z (Y04 _ u)
def dirK(F:List Fer)(g:Fer->Str):List (Key×MV):=Z8R (F.map λy=>((Y12 y.name:Key),MV.str (g y)))
theorem _ed{F:List Fer}{g:Fer->Str}(j:(F.map (·.name)).Nodup){x:Fer}(l:x∈F):valM (dirK F g) (Y12 x.name)=some (.str (g x)):=_eu j (λ_ _=>rfl) x l
abbrev Z0s:SpM:=λj M Q=>∃(z:Str) (S:Stp) (a b:Addr) (F:List Fer),j=[.str z,S.mv,.ref a,.ref b]/\M a=some (.dic (dirK F (·.giver)))/\M b=some (.dic (dirK F (·.taker)))/\(F.map (·.name)).Nodup/\ZdL F z S/\(∀f,(∃x,S=.take f x)\/(∃U,S=.give f U)->f∈F.map (·.name))/\Q .non M
theorem _1u:MonW Z0s:=by walk_at "m"
theorem _5Y(T:Txt w K mg t):FnOk P w K mg base CX0 1 t.du t.bR ["name","step","givers","takers"] (liSp K Z0s):=by
 refine T.bc.F.okM _5W (_0i (u:=[]) (_0k T) (_09 T) (_0j T) rfl (λ_ h=>nomatch h) (λ_ h=>nomatch h):Fts P w K mg base 0 Z2Z []) Z1g _6e (λd M Q h=>?_) (λd M Q h=>?_)
 .obtain⟨z,S,a,b,F,rfl,_⟩:=h;rfl
 obtain⟨z,S,a,b,F,rfl,c,r,l,u,m,q⟩:=h
 show wSs _ _ _ [some (.str z),some S.mv,some (.ref a),some (.ref b)] M
 delta Z1g Z2B
 cases S with
 |take f x=>
  obtain⟨y,j,rfl⟩:=Y0h.mp (m f (.inl ⟨x,rfl⟩))
  have v:=_ed (g:=(·.taker)) l j
  have e:=u y j rfl
  simp![_d1,r,v,e]
  delta Z0x
  simp![_d1]
  exact q
 |give f U=>
  obtain⟨y,j,rfl⟩:=Y0h.mp (m f (.inr ⟨U,rfl⟩))
  have v:=_ed (g:=(·.giver)) l j
  have e:=u y j rfl
  simp![_d3]
  delta Z0x
  simp![_d3,c,v,e]
  exact q
 |put f U=>
  simp![_fi]
  delta Z0x
  simp![_fi]
  exact q
 |jump U i=>
  simp![_d2]
  delta Z0x
  simp![_d2]
  exact q
theorem _bd{fs j:List Str}{n:Nat}{S:Stp}(h:Zbz fs j n S):∀f,(∃x,S=.take f x)\/(∃U,S=.give f U)->f∈fs:=by
 rintro f (⟨x,rfl⟩|⟨U,rfl⟩)
 .exact h.1
 .exact h.1
abbrev Z0n:SpM:=λy M Q=>∃(p f:Addr) (l:List MV) (j:List Isl) (F:List Fer),y=[.ref p,.ref f]/\M p=some (.lst l)/\IslsIn M j l/\j.length<=5/\M f=some (.lst (F.map Fer.mv))/\F.length<=6/\(F.map (·.name)).Nodup/\
 (∀I∈j,I.stps.length<=12/\∀s∈I.stps,ZdL F I.name s/\∃z n,Zbz (F.map (·.name)) z n s)/\∀u,SameM M u->Q .non u
theorem _1k:MonW Z0n:=by walk_at "m"
theorem _cr(F:List Fer)(g:Fer->Str):(F.map λx=>MV.tup [.str x.name,.str (g x)])=(F.map λy=>((Y12 y.name:Key),MV.str (g y))).map prM:=by rw[Y0E];rfl
theorem _5a(T:Txt w K mg t):FnOk P w K mg base CX0 2 t.cG t.dk ["islands","ferries"] (liSp K Z0n):=by
 refine T.aW.F.okM _59 (_0i (u:=[("refuse_wrong_end",Z0s)]) (_0k T) (_09 T) (_0j T) rfl (fMc ⟨_1u,(fun _ h=>nomatch h)⟩) (fMc ⟨⟨_,_,_,(FnOk.mono (_5Y T) (by decide)),T.bc.m,T.bc.F.kp,T.bc.b⟩,(fun _ h=>nomatch h)⟩):Fts P w K mg base 1 Z2Q [("refuse_wrong_end",Z0s)]) Z11 _5c (fun o M Q h=>?_) (fun o M Q h=>?_)
 .obtain⟨p,f,ys,Is,F,rfl,_⟩:=h;rfl
 obtain⟨p,f,ys,Is,F,rfl,hp,hI,h5,N,h6,nd,hE,q⟩:=h
 show wSs _ _ _ [some (.ref p),some (.ref f),none,none,none,none] M
 have g:=(_61 (u:=[("refuse_wrong_end",Z0s)]) (fMc ⟨_1u,(fun _ h=>nomatch h)⟩))
 delta Z11 Z2e
 simp!
 refine _1b F Fer.mv (λx=>.tup [.str x.name,.str x.giver]) ?_ ?_ g λD hD=>?_
 .simp![N]
  exact⟨rfl,by lia,N⟩
 .intro x O z s
  simp only[sCm,Y0a,Y0B,Y0t,Y0u,Y0l,Y0v]
  simp![Fer.mv]
  try exact⟨rfl,rfl⟩
 rw[_cr F (·.giver)]
 have s1:=SameM.new hD (.lst ((F.map λy=>((Y12 y.name:Key),MV.str y.giver)).map prM))
 have d1:updM M D (.lst ((F.map λy=>((Y12 y.name:Key),MV.str y.giver)).map prM)) D=some (.lst ((F.map λy=>((Y12 y.name:Key),MV.str y.giver)).map prM)):=_00
 generalize updM M D _=M1 at*
 simp!
 refine⟨_,d1,λa ha=>?_⟩
 have X:=s1.trans (SameM.new ha (.dic (dirK F (·.giver))))
 have R:updM M1 a (.dic (dirK F (·.giver))) a=some (.dic (dirK F (·.giver))):=_00
 change wSs _ _ _ _ (updM M1 a (.dic (dirK F (·.giver))))
 generalize updM M1 a _=M2 at*
 have r:=X _ _ N
 delta Z2d
 simp!
 refine _1b F Fer.mv (λx=>.tup [.str x.name,.str x.taker]) ?_ ?_ g λU W=>?_
 .simp![r]
  exact⟨rfl,by lia,r⟩
 .intro x O z s
  simp only[sCm,Y0a,Y0B,Y0t,Y0u,Y0l,Y0v]
  simp![Fer.mv]
  try exact⟨rfl,rfl⟩
 rw[_cr F (·.taker)]
 have s3:=SameM.new W (.lst ((F.map λy=>((Y12 y.name:Key),MV.str y.taker)).map prM))
 have d3:updM M2 U (.lst ((F.map λy=>((Y12 y.name:Key),MV.str y.taker)).map prM)) U=some (.lst ((F.map λy=>((Y12 y.name:Key),MV.str y.taker)).map prM)):=_00
 generalize updM M2 U _=M3 at*
 simp!
 refine⟨_,d3,λb hb=>?_⟩
 have H:=s3.trans (SameM.new hb (.dic (dirK F (·.taker))))
 have Y:updM M3 b (.dic (dirK F (·.taker))) b=some (.dic (dirK F (·.taker))):=_00
 change wSs _ _ _ _ (updM M3 b (.dic (dirK F (·.taker))))
 generalize updM M3 b _=M4 at*
 have Z:=H _ _ R
 have A:=X.trans H
 have e:=A _ _ hp
 have B:=hI.keep A
 delta Z2c
 simp![e]
 obtain⟨J,L⟩:∃J:Nat->Sm->MH->Prop,∀j l z,J j l z↔z=M4/\∃v m,l=[some (.ref p),some (.ref f),some (.ref a),some (.ref b),v,m]:=⟨_,λ_ _ _=>Y1y⟩
 refine⟨J,(L _ _ _).mpr ⟨rfl,_,_,rfl⟩,λj l z h=>by rw[((L _ _ _).mp h).1];exact e,?_,?_⟩
 .rintro j y l z hy h
  obtain⟨rfl,v,m,rfl⟩:=(L _ _ _).mp h
  obtain⟨I,hm,c,d,rfl,hc,hd⟩:=B.mem (Y0G hy)
  obtain⟨l12,hS⟩:=hE I hm
  delta Z2b
  simp![hd]
  obtain⟨C,u⟩:∃C:Nat->Sm->MH->Prop,∀j l M,C j l M↔M=z/\∃m,l=[some (.ref p),some (.ref f),some (.ref a),some (.ref b),some (.tup [.str I.name,.ref c,.ref d]),m]:=⟨_,λ_ _ _=>Y1y⟩
  refine⟨C,(u _ _ _).mpr ⟨rfl,_,rfl⟩,λj l M h=>by rw[((u _ _ _).mp h).1];exact hd,?_,?_⟩
  .rintro i x l E O G
   obtain⟨rfl,m,rfl⟩:=(u _ _ _).mp G
   obtain⟨S,rfl⟩:=_0z O
   have S:i<I.stps.length:=S
   obtain⟨e1,ns,n,e2⟩:=hS _ (Y0j S)
   delta Z2a
   simp!
   refine⟨I.name,I.stps[i],a,b,F,rfl,Z,Y,nd,e1,_bd e2,?_⟩
   simp!
   exact(u _ _ _).mpr ⟨rfl,_,rfl⟩
  .rintro l E G
   obtain⟨rfl,m,rfl⟩:=(u _ _ _).mp G
   try simp!
   exact(L _ _ _).mpr ⟨rfl,_,_,rfl⟩
 .rintro l z h
  obtain⟨rfl,_⟩:=(L _ _ _).mp h
  exact q _ A
theorem FroD.up{M:MH}:∀{n:Nat} {v j:MV},FroD n M v j->FroD (n+1) M v j
 |0,_,_,h=>.inl h
 |n+1,v,j,h=>by
  rcases h with h|⟨l,u,y,z,m⟩
  .exact .inl h
  .exact .inr ⟨l,u,y,z,λp g=>(m p g).up⟩
theorem FroD.to{M:MH}{n m:Nat}{v j:MV}(h:FroD n M v j)(l:n<=m):FroD m M v j:=by
 obtain⟨d,rfl⟩:∃d,m=n+d:=⟨m - n,by lia⟩
 clear l
 induction d with
 |zero=>exact h
 |succ d u=>exact u.up
theorem fro_str{M:MH}{z:Str}:FroD 0 M (.str z) (.str z):=⟨.inr ⟨z,rfl⟩,rfl⟩
theorem fro_int{M:MH}{i:Int}:FroD 0 M (.int i) (.int i):=⟨.inl ⟨i,rfl⟩,rfl⟩
theorem _3e{M:MH}{n:Nat}{j:List MV}(l:j.length<=1000)(h:∀x∈j,FroD n M x x):FroD (n+1) M (.tup j) (.tup j):=by
 have u:(j.map λx=>(x,x)).map (·.1)=j:=by rw[Y0E];exact Y2F j
 have y:(j.map λx=>(x,x)).map (·.2)=j:=by rw[Y0E];exact Y2F j
 refine .inr ⟨j.map λx=>(x,x),.inl (by rw[u]),by rw[y],by rw[Y01];exact l,λp z=>?_⟩
 obtain⟨x,m,rfl⟩:=Y0h.mp z
 exact h x m
theorem _dx{M:MH}{n:Nat}{a:Addr}{j:List MV}(e:M a=some (.lst j))(l:j.length<=1000)(h:∀x∈j,FroD n M x x):FroD (n+1) M (.ref a) (.tup j):=by
 have u:(j.map λx=>(x,x)).map (·.1)=j:=by rw[Y0E];exact Y2F j
 have y:(j.map λx=>(x,x)).map (·.2)=j:=by rw[Y0E];exact Y2F j
 refine .inr ⟨j.map λx=>(x,x),.inr ⟨a,rfl,by rw[u];exact e⟩,by rw[y],by rw[Y01];exact l,λp z=>?_⟩
 obtain⟨x,m,rfl⟩:=Y0h.mp z
 exact h x m
theorem _7k{M:MH}:∀U:Tm,FroD U.depth M U.mv U.mv
 |.num n=>_3e (j:=[.str "num",.int n]) (by simp) (by
   intro x j
   simp only[Y06,Y0k,or_false]at j
   rcases j with rfl|rfl
   .exact fro_str
   .exact fro_int)
 |.var z=>_3e (j:=[.str "var",.str z]) (by simp) (by
   intro x j
   simp only[Y06,Y0k,or_false]at j
   rcases j with rfl|rfl
   .exact fro_str
   .exact fro_str)
 |.two f a b=>by
  have l:=_7k (M:=M) a
  have u:=_7k (M:=M) b
  show FroD (1+max a.depth b.depth) M (.tup [.str f.str,a.mv,b.mv]) (.tup [.str f.str,a.mv,b.mv])
  rw[Y3s]
  refine _3e (by simp) λx j=>?_
  simp only[Y06,Y0k,or_false]at j
  rcases j with rfl|rfl|rfl
  .exact fro_str.to (Y1e _)
  .exact l.to (by lia)
  .exact u.to (by lia)
 |.pick c a b=>by
  have y:=_7k (M:=M) c
  have l:=_7k (M:=M) a
  have u:=_7k (M:=M) b
  show FroD (1+max c.depth (max a.depth b.depth)) M (.tup [.str "pick",c.mv,a.mv,b.mv]) (.tup [.str "pick",c.mv,a.mv,b.mv])
  rw[Y3s]
  refine _3e (by simp) λx j=>?_
  simp only[Y06,Y0k,or_false]at j
  rcases j with rfl|rfl|rfl|rfl
  .exact fro_str.to (Y1e _)
  .exact y.to (by lia)
  .exact l.to (by lia)
  .exact u.to (by lia)
theorem _iR{M:MH}{fs l:List Str}{n:Nat}{S:Stp}(h:Zbz fs l n S):FroD 9 M S.mv S.mv:=by
 cases S with
 |take f x=>
  refine _3e (j:=[.str "take",.str f,.str x]) (by simp) fun v j=>?_
  simp only[Y06,Y0k,or_false]at j
  rcases j with rfl|rfl|rfl<;>exact fro_str.to (by decide)
 |give f U=>
  refine _3e (j:=[.str "give",.str f,U.mv]) (by simp) fun v j=>?_
  simp only[Y06,Y0k,or_false]at j
  rcases j with rfl|rfl|rfl
  .exact fro_str.to (by decide)
  .exact fro_str.to (by decide)
  .exact(_7k U).to h.2.1
 |put f U=>
  refine _3e (j:=[.str "put",.str f,U.mv]) (by simp) fun v j=>?_
  simp only[Y06,Y0k,or_false]at j
  rcases j with rfl|rfl|rfl
  .exact fro_str.to (by decide)
  .exact fro_str.to (by decide)
  .exact(_7k U).to h.2.1
 |jump U i=>
  refine _3e (j:=[.str "jump",U.mv,.int i]) (by simp) fun v j=>?_
  simp only[Y06,Y0k,or_false]at j
  rcases j with rfl|rfl|rfl
  .exact fro_str.to (by decide)
  .exact(_7k U).to h.1.1
  .exact fro_int.to (by decide)
theorem _jM{M:MH}{k:Nat}{fs:List Str}{I:Isl}{y:MV}(ok:IslOk k fs I)(h:IslIn M I y):FroD 11 M y I.mv:=by
 obtain⟨a,b,rfl,z,m⟩:=h
 have d:=ok.nv
 have c:=ok.ns
 refine .inr ⟨[(.str I.name,.str I.name),(.ref a,.tup (I.prs.map prV)),(.ref b,.tup (I.stps.map Stp.mv))],.inl rfl,rfl,by simp,λp l=>?_⟩
 simp only[Y06,Y0k,or_false]at l
 rcases l with rfl|rfl|rfl
 .exact fro_str.to (by decide)
 .refine _dx z (by rw[Y01];lia) λx j=>?_
  obtain⟨q,_,rfl⟩:=Y0h.mp j
  refine(_3e (n:=0) (j:=[.str q.1,.int q.2]) (by simp) λv u=>?_).to (by decide)
  simp only[Y06,Y0k,or_false]at u
  rcases u with rfl|rfl
  .exact fro_str
  .exact fro_int
 .refine _dx m (by rw[Y01];lia) λx j=>?_
  obtain⟨S,g,rfl⟩:=Y0h.mp j
  exact _iR (ok.st S g)
theorem _kb{M:MH}(f:Fer):FroD 1 M f.mv f.mv:=by
 refine _3e (j:=[.str f.name,.str f.giver,.str f.taker,.int f.k,.int f.st]) (by simp) λv j=>?_
 simp only[Y06,Y0k,or_false]at j
 rcases j with rfl|rfl|rfl|rfl|rfl
 .exact fro_str
 .exact fro_str
 .exact fro_str
 .exact fro_int
 .exact fro_int
theorem _hw{M:MH}{k:Nat}{fs:List Str}{Is:List Isl}{j:List MV}{p:Addr}(z:M p=some (.lst j))(h:IslsIn M Is j)(l:Is.length<=5)(ok:∀I∈Is,IslOk k fs I):FroD 12 M (.ref p) (.tup (Is.map Isl.mv)):=by
 have f:=h.1
 have m:(j.zip (Is.map Isl.mv)).map (·.1)=j:=Y38 (by rw[Y01];lia)
 have g:(j.zip (Is.map Isl.mv)).map (·.2)=Is.map Isl.mv:=Y39 (by rw[Y01];lia)
 refine .inr ⟨j.zip (Is.map Isl.mv),.inr ⟨p,rfl,by rw[m];exact z⟩,by rw[g],by rw[Y1u,Y01];lia,λq d=>?_⟩
 obtain⟨i,c,rfl⟩:=Y1g d
 rw[Y1u,Y01]at c
 have y:i<j.length:=by lia
 have u:i<Is.length:=by lia
 rw[Y3a,Y1A]
 exact _jM (ok _ (Y0j u)) (h.2 i _ _ (Y02 u) (Y02 y))
noncomputable def fstM:MV->MV
 |.tup (x::_)=>x
 |v=>v
abbrev Z31:SpM:=λu M Q=>∃(p f:Addr) (j:List MV) (W:Wld),u=[.int W.w,.ref p,.ref f]/\M p=some (.lst j)/\IslsIn M W.isl j/\M f=some (.lst (W.fer.map Fer.mv))/\W.Good/\∀l,SameM M l->Q W.mv l
theorem _2z:MonW Z31:=by walk_at "m"
theorem _fK(T:Txt w K mg t):FnOk P w K mg base CX0 56 t.bZ t.de ["width","islands","ferries"] (liSp K Z31):=by
 refine T.aB.F.okM _iV (_0i (u:=[("frozen",(Z0O 13)),("is_width",Z2n),("refuse_ferry",Z0S),("refuse_ferry_names",Z0g),("refuse_islands",Z0J),("refuse_wrong_ends",Z0n)]) (_0k T) (_09 T) (_0j T) rfl (fMc ⟨(_2j _),(fMc ⟨_4q,(fMc ⟨_2x,(fMc ⟨_1a,(fMc ⟨_1T,(fMc ⟨_1k,(fun _ h=>nomatch h)⟩)⟩)⟩)⟩)⟩)⟩) (fMc ⟨⟨_,_,_,FnOk.mono (_c5 T 13) (by decide),T.ae.m,T.ae.F.kp,T.ae.b⟩,(fMc ⟨⟨_,_,_,FnOk.mono (_df T) (by decide),T.aK.m,T.aK.F.kp,T.aK.b⟩,(fMc ⟨⟨_,_,_,FnOk.mono (_8V T) (by decide),T.aF.m,T.aF.F.kp,T.aF.b⟩,(fMc ⟨⟨_,_,_,FnOk.mono (_4l T) (by decide),T.ba.m,T.ba.F.kp,T.ba.b⟩,(fMc ⟨⟨_,_,_,FnOk.mono (_77 T) (by decide),T.aD.m,T.aD.F.kp,T.aD.b⟩,(fMc ⟨⟨_,_,_,FnOk.mono (_5a T) (by decide),T.aW.m,T.aW.F.kp,T.aW.b⟩,(fun _ h=>nomatch h)⟩)⟩)⟩)⟩)⟩)⟩):Fts P w K mg base 55 ZiI [("frozen",(Z0O 13)),("is_width",Z2n),("refuse_ferry",Z0S),("refuse_ferry_names",Z0g),("refuse_islands",Z0J),("refuse_wrong_ends",Z0n)]) Zds _kh (fun vs M Q h=>?_) (fun vs M Q h=>?_)
 .obtain⟨p,f,d,W,rfl,_⟩:=h;rfl
 obtain⟨p,f,d,W,rfl,c,m,g,G,q⟩:=h
 have e:=_61 (u:=[("frozen",Z0O 13),("is_width",Z2n),("refuse_ferry",Z0S),("refuse_ferry_names",Z0g),("refuse_islands",Z0J),("refuse_wrong_ends",Z0n)]) (fMc ⟨_2j 13,fMc ⟨_4q,fMc ⟨_2x,fMc ⟨_1a,fMc ⟨_1T,fMc ⟨_1k,fun _ h=>nomatch h⟩⟩⟩⟩⟩⟩)
 show wSs _ _ _ [some (.int W.w),some (.ref p),some (.ref f),none,none] M
 have w1:=G.w1
 have w2:=G.w2
 have C:=G.i5
 have E:=G.f6
 have hl:=m.1
 have nd:=Y1t.mp G.nd
 delta Zds Zgq
 simp!
 refine⟨W.w,rfl,by lia,by lia,?_⟩
 simp!
 delta Zgp
 simp![c]
 refine _63 (λz=>by lia) (λ_=>?_)
 delta Zgo
 simp![g,Y01]
 refine _63 (λz=>by lia) (λ_=>?_)
 delta Zgn
 simp!
 refine⟨f,W.fer,rfl,g,E,nd.1,λx Y=>G.fg _ (Y0h.mpr ⟨x,Y,rfl⟩),λM1 s1=>?_⟩
 simp!
 have L:=s1 _ _ g
 delta Zgm
 simp!
 refine _1b W.fer Fer.mv (λx=>.str x.name) ?_ ?_ e λD F=>?_
 .simp![L]
  exact⟨rfl,by lia,L⟩
 .intro x Y l s
  simp only[sCm,Y0a,Y0B,Y0t,Y0u,Y0l,Y0v]
  simp![Fer.mv]
  try exact⟨rfl,rfl⟩
 have eF:(W.fer.map λx=>MV.str x.name)=W.fns.map MV.str:=by unfold Wld.fns;rw[Y0E];rfl
 rw[eF]
 have X:=s1.trans (SameM.new F (.lst (W.fns.map MV.str)))
 have H:updM M1 D (.lst (W.fns.map MV.str)) D=some (.lst (W.fns.map MV.str)):=_00
 generalize updM M1 D _=M2 at*
 try simp!
 refine⟨W.w,p,D,W.isl,d,W.fns,rfl,w2,X _ _ c,m.keep X,C,by unfold Wld.fns;rw[Y01];exact E,H,G.nd,λI N=>G.ig _ (Y0h.mpr ⟨I,N,rfl⟩),G.io,λM3 s3=>?_⟩
 have Z:=X.trans s3
 have O:=Z _ _ c
 have hf3:=Z _ _ g
 have o:=m.keep Z
 simp!
 delta Zgl
 simp!
 refine _1b d (λy=>y) fstM ?_ ?_ e λD F=>?_
 .simp![O]
  exact⟨by simp[Src.items],by lia,O⟩
 .intro y i l s
  obtain⟨I,_,a,b,rfl,_⟩:=o.mem i
  simp only[sCm,Y0a,Y0B,Y0t,Y0u,Y0l,Y0v]
  simp!
  rfl
 have eI:d.map fstM=W.ins.map MV.str:=m.fst λz r=>rfl
 rw[eI]
 have A:=Z.trans (SameM.new F (.lst (W.ins.map MV.str)))
 have hD5:updM M3 D (.lst (W.ins.map MV.str)) D=some (.lst (W.ins.map MV.str)):=_00
 generalize updM M3 D _=M5 at*
 have u:=A _ _ g
 delta Zgk
 simp![u]
 obtain⟨J,R⟩:∃J:Nat->Sm->MH->Prop,∀j U l,J j U l↔l=M5/\∃v,U=[some (.int W.w),some (.ref p),some (.ref f),some (.ref D),v]:=⟨_,λ_ _ _=>Y1y⟩
 refine⟨J,(R _ _ _).mpr ⟨rfl,_,rfl⟩,λj U l h=>by rw[((R _ _ _).mp h).1];exact u,?_,?_⟩
 .rintro j y U l i h
  obtain⟨rfl,v,rfl⟩:=(R _ _ _).mp h
  obtain⟨hj,rfl⟩:=_0z i
  have hj:j<W.fer.length:=hj
  delta Zea
  simp!
  refine⟨W.fer[j],D,W.ins,rfl,hD5,G.fo _ (Y0j hj),?_⟩
  simp!
  exact(R _ _ _).mpr ⟨rfl,_,rfl⟩
 .rintro U l h
  obtain⟨rfl,v,rfl⟩:=(R _ _ _).mp h
  delta Ze9
  simp!
  refine⟨p,f,d,W.isl,W.fer,rfl,A _ _ c,m.keep A,C,u,E,nd.1,λI N=>⟨(G.io I N).ns,λS hS=>⟨G.en I N S hS,_,_,(G.io I N).st S hS⟩⟩,λM6 s6=>?_⟩
  have B:=A.trans s6
  simp!
  delta Ze8
  simp!
  refine⟨_,W.mv,rfl,?_,λl s'=>q l (B.trans s')⟩
  refine .inr ⟨[(.int W.w,.int W.w),(.ref p,.tup (W.isl.map Isl.mv)),(.ref f,.tup (W.fer.map Fer.mv))],.inl rfl,rfl,by simp,λz hz=>?_⟩
  simp only[Y06,Y0k,or_false]at hz
  rcases hz with rfl|rfl|rfl
  .exact fro_int.to (by decide)
  .exact _hw (B _ _ c) (m.keep B) C G.io
  .refine(_dx (n:=1) (B _ _ g) (by rw[Y01];lia) λx Y=>?_).to (by decide)
   obtain⟨y,_,rfl⟩:=Y0h.mp Y
   exact _kb y
def Tm.ws:Tm->List Str
 |.num n=>["num",tS n]
 |.var x=>["var",x]
 |.two f a b=>f.str::(a.ws++b.ws)
 |.pick c a b=>"pick"::(c.ws++(a.ws++b.ws))
def Tm.fit:Tm->Prop
 |.num n=>Small n
 |.var x=>GoodN x
 |.two _ a b=>a.fit/\b.fit
 |.pick c a b=>c.fit/\a.fit/\b.fit
noncomputable def Tm.hd:Tm->Str
 |.num _=>"num"|.var _=>"var"|.two f _ _=>f.str|.pick _ _ _=>"pick"
def wss(j:List Tm):List Str:=(j.map Tm.ws).flatten
theorem _iM(j:List Tm)(T:Tm):wss (j++[T])=wss j++T.ws:=by simp[wss]
theorem Tm.ws_len:∀T:Tm,T.ws.length<=2*T.size
 |.num _=>by simp[Tm.ws,Tm.size]
 |.var _=>by simp[Tm.ws,Tm.size]
 |.two _ a b=>by
  have:=a.ws_len
  have:=b.ws_len
  simp[Tm.ws,Tm.size];lia
 |.pick c a b=>by
  have:=c.ws_len
  have:=a.ws_len
  have:=b.ws_len
  simp[Tm.ws,Tm.size];lia
theorem _f0:∀j:List Tm,(wss j).length<=2*szs j
 |[]=>by simp[wss]
 |T::r=>by
  have:=T.ws_len
  have:=_f0 r
  have e:wss (T::r)=T.ws++wss r:=by simp[wss]
  have l:szs (T::r)=T.size+szs r:=by simp[szs]
  rw[e,Y0i];lia
theorem Tm.kid_fit{T U:Tm}(h:T.fit)(j:U∈T.kids):U.fit:=by
 cases T<;>simp[Tm.kids]at j
 .rcases j with rfl|rfl
  .exact h.1
  .exact h.2
 .rcases j with rfl|rfl|rfl
  .exact h.1
  .exact h.2.1
  .exact h.2.2
abbrev Z0p(n:Nat):SpM:=λl M Q=>∃T:Tm,l=[T.mv]/\T.depth<=n/\T.size<=30/\T.fit/\∀p j,SameM M j->M p=none->j p=some (.lst (T.ws.map MV.str))->Q (.ref p) j
theorem _3m(n:Nat):MonW (Z0p n):=by walk_at "m"
theorem _6m(T:Txt w K mg t):∀n:Nat,FnOk P w K mg base CX0 (n+8) t.bx t.dS ["T"] (liSp K (Z0p n))
 |0=>by
  have B:∀l M Q,¬Z0p 0 l M Q:=λl M Q h=>by
   obtain⟨T,_,C,_⟩:=h
   have:=T.depth_pos
   lia
  exact⟨λl H Q E ⟨G,M,r,I,h⟩=>absurd h (B _ _ _),λA R s H D us l Q E _ _ _ _ ⟨G,M,r,I,h⟩=>absurd h (B _ _ _)⟩
 |n+1=>by
  have S:=_6m T n
  refine T.aw.F.okM _b0 (_0i (u:=[("term_words",(Z0p n))]) (_0k T) (_09 T) (_0j T) rfl (fMc ⟨(_3m _),(fun _ h=>nomatch h)⟩) (fMc ⟨⟨_,_,_,S,T.aw.m,T.aw.F.kp,T.aw.b⟩,(fun _ h=>nomatch h)⟩):Fts P w K mg base (n+8) Z8g [("term_words",(Z0p n))]) Z3K _bp (fun l M Q h=>?_) (fun l M Q h=>?_)
  .obtain⟨T,rfl,_⟩:=h;rfl
  obtain⟨U,rfl,hn,hz,d,q⟩:=h
  show wSs _ _ _ [some U.mv,none,none] M
  have rest:U.mv=.tup (.str U.hd::U.kids.map Tm.mv)->U.ws=U.hd::wss U.kids->wSs [("term_words",Z0p n)] Z3E {nx:=fun x X=>Q MV.non X,rt:=Q} [some U.mv,none,none] M:=by
   intro v o
   delta Z3E;rw[v]
   simp!
   intro u j
   have s0:=SameM.new j (.lst [.str U.hd])
   have C:updM M u (.lst [.str U.hd]) u=some (.lst [.str U.hd]):=_00
   generalize updM M u _=M0 at*
   delta Z6t
   simp!
   have ec:cutM (MV.str U.hd::U.kids.map Tm.mv) (some 1) none=U.kids.map Tm.mv:=_2l _ 1
   rw[ec]
   obtain⟨J,L⟩:∃J:Nat->Sm->MH->Prop,∀i y M2,J i y M2↔∃(W:Option MV),SameM M M2/\M2 u=some (.lst ((U.hd::wss (U.kids.take i)).map MV.str))/\y=[some (.tup (.str U.hd::U.kids.map Tm.mv)),some (.ref u),W]:=⟨_,λ_ _ _=>Y1y⟩
   refine⟨J,(L _ _ _).2 ⟨_,s0,C,rfl⟩,λi y M2 N=>trivial,λi x y M2 hx N=>?_,λy M2 N=>?_⟩
   .obtain⟨W,Y,z,rfl⟩:=(L _ _ _).1 N
    obtain⟨O,rfl⟩:=_0z hx
    have hk:=U.kid_depth (Y0j O)
    have hk2:=U.kid_size (Y0j O)
    delta Z6s
    simp![z]
    refine⟨⟨_,rfl⟩,?_⟩
    refine⟨U.kids[i],rfl,by lia,by lia,U.kid_fit d (Y0j O),λp3 M3 F n3 g3=>?_⟩
    have Z:=F _ _ z
    simp!
    have l1:=_f0 (U.kids.take i)
    have l2:=_dM U.kids i
    have l3:=U.size_kids
    have l4:=U.kids[i].ws_len
    refine⟨_,Z,_,g3,by simp only[Y01,Y0e];lia,(L _ _ _).2 ⟨_,(Y.trans F).upd j _,?_,rfl⟩⟩
    rw[_00,Y0K,Y02 O,Y1n,_iM,<-Y07];rfl
   .obtain⟨W,Y,z,rfl⟩:=(L _ _ _).1 N
    have e:U.kids.take (Src.tup (U.kids.map Tm.mv)).len=U.kids:=by simp[Src.len]
    rw[e,<-o]at z
    delta Z6r
    simp!
    exact q u M2 Y j z
  delta Z3K Z6u
  cases U with
  |num m=>
   have d:Small m:=d
   simp only[Tm.mv]
   simp!
   delta Z3F
   simp!
   exact⟨d.log,λp g=>q p _ (SameM.new g _) g _00⟩
  |var x=>
   simp only[Tm.mv]
   simp!
   delta Z3F
   simp!
   exact λp g=>q p _ (SameM.new g _) g _00
  |two f a b=>
   simp only[Tm.mv]
   simp!
   rw[if_neg (_bk f),if_neg (_8F f)]
   exact rest rfl (by simp[Tm.ws,Tm.hd,wss,Tm.kids])
  |pick c a b=>
   simp only[Tm.mv]
   simp!
   exact rest rfl (by simp[Tm.ws,Tm.hd,wss,Tm.kids])
def Stp.ws:Stp->List Str
 |.take f x=>["take",f,x]
 |.give f T=>"give"::f::T.ws
 |.put x T=>"put"::x::T.ws
 |.jump T i=>"jump"::tS i::T.ws
noncomputable def ZcT(T:Tm):Prop:=T.depth<=8/\T.size<=30/\T.fit
def Stp.fit:Stp->Prop
 |.take f x=>GoodN f/\GoodN x
 |.give f T=>GoodN f/\ZcT T
 |.put x T=>GoodN x/\ZcT T
 |.jump T i=>ZcT T/\0<=i/\i<=12
theorem Stp.ws_len{s:Stp}(h:s.fit):s.ws.length<=62:=by
 cases s with
 |take f x=>simp[Stp.ws]
 |give f T=>have:=T.ws_len;have:=h.2.2.1;simp[Stp.ws];lia
 |put x T=>have:=T.ws_len;have:=h.2.2.1;simp[Stp.ws];lia
 |jump T i=>have:=T.ws_len;have:=h.1.2.1;simp[Stp.ws];lia
abbrev Z1l:SpM:=λl M Q=>∃s:Stp,l=[s.mv]/\s.fit/\∀p j,SameM M j->M p=none->j p=some (.lst (s.ws.map MV.str))->Q (.ref p) j
theorem _3n:MonW Z1l:=by walk_at "m"
theorem _b8(T:Txt w K mg t):FnOk P w K mg base CX0 17 t.bK t.dn ["step"] (liSp K Z1l):=by
 refine T.aX.F.okM _b1 (_0i (u:=[("term_words",(Z0p 8))]) (_0k T) (_09 T) (_0j T) rfl (fMc ⟨(_3m _),(fun _ h=>nomatch h)⟩) (fMc ⟨⟨_,_,_,_6m T 8,T.aw.m,T.aw.F.kp,T.aw.b⟩,(fun _ h=>nomatch h)⟩):Fts P w K mg base 16 Z8h [("term_words",(Z0p 8))]) Z3L _bq (fun U M Q h=>?_) (fun U M Q h=>?_)
 .obtain⟨T,rfl,_⟩:=h;rfl
 obtain⟨u,rfl,z,q⟩:=h
 show wSs _ _ _ [some u.mv] M
 delta Z3L Z6x
 have r:∀(x y:Str)(T:Tm)(ws:List Str)(g:MH)(d:Addr),M d=none->SameM M g->g d=some (.lst [.str x,.str y])->ws=x::y::T.ws->ZcT T->(∀p L,SameM M L->M p=none->L p=some (.lst (ws.map MV.str))->Q (.ref p) L)->Z0p 8 [T.mv] g λv M1=>wBin .Add (.ref d) v M1 Q:=by
  intro x y T ws g d W O Y e c q
  refine⟨T,rfl,c.1,c.2.1,c.2.2,λp M1 N B Z=>?_⟩
  have R:=N _ _ Y
  have l:=T.ws_len
  have:=c.2.1
  simp!
  refine⟨_,R,_,Z,by simp only[Y01,Y0e,Y1O];lia,λA m=>q A _ ((O.trans N).trans (SameM.new m _)) ((O.trans N).free m) ?_⟩
  rw[_00,e];rfl
 cases u with
 |take f x=>
  simp only[Stp.mv]
  simp!
  delta Z6w
  simp!
  exact λp j=>q p _ (SameM.new j _) j _00
 |give f T=>
  simp only[Stp.mv]
  simp!
  delta Z2k
  simp!
  delta Z3G
  simp!
  exact λp j=>r _ _ T _ _ p j (SameM.new j _) _00 rfl z.2 q
 |put x T=>
  simp only[Stp.mv]
  simp!
  delta Z2k
  simp!
  delta Z3G
  simp!
  exact λp j=>r _ _ T _ _ p j (SameM.new j _) _00 rfl z.2 q
 |jump T i=>
  have sm:Small i:=by have R:=z.2.1;have C:=z.2.2;unfold Small;lia
  simp only[Stp.mv]
  simp!
  delta Z2k
  simp!
  delta Z6v
  simp!
  exact⟨sm.log,λp j=>r _ _ T _ _ p j (SameM.new j _) _00 rfl z.1 q⟩
noncomputable def RowsAt(M:MH)(l:List Addr)(u:List (List Str)):Prop:=l.length=u.length/\∀(j:Nat)a r,l[j]?=some a->u[j]?=some r->M a=some (.lst (r.map MV.str))
theorem RowsAt.keep{M M':MH}{as:List Addr}{rs:List (List Str)}(h:RowsAt M as rs)(s:SameM M M'):RowsAt M' as rs:=⟨h.1,λj a r l u=>s _ _ (h.2 j a r l u)⟩
theorem RowsAt.off{M:MH}{l:List Addr}{u:List (List Str)}(h:RowsAt M l u){p:Addr}(n:p∉l)(o:MO):RowsAt (updM M p o) l u:=⟨h.1,λj a r y m=>(_06 λz:a=p=>n (z▸Y0G y)).trans (h.2 j a r y m)⟩
theorem RowsAt.app{M:MH}{y bs:List Addr}{z m:List (List Str)}(h:RowsAt M y z)(g:RowsAt M bs m):RowsAt M (y++bs) (z++m):=by
 refine⟨by rw[Y0i,Y0i,h.1,g.1],λj a r l u=>?_⟩
 by_cases hj:j<y.length
 .rw[Y0H hj]at l
  rw[Y0H (h.1▸hj)]at u
  exact h.2 j a r l u
 .rw[Y0C (by lia)]at l
  rw[Y0C (by rw[<-h.1];lia),<-h.1]at u
  exact g.2 _ a r l u
theorem _dY{S:Src}{M M2:MH}(h:S.okF M)(s:SameM M M2):S.ok M2:=by
 cases S with
 |tup _=>trivial
 |rng _ _=>trivial
 |str _=>trivial
 |lst a j=>exact s _ _ h
 |rev a j=>exact s _ _ h
theorem _9y{A:List (Str×SpM)}{own:List Str}{s:List Nat}{d:ISr}{E:ITg}{c:IE}{F:Sm}{M:MH}{Q:QM}{G:Type}(m:List G)(f:G->MV)(g:G->List Str)
  (hs:wSr A d F M λS M1=>S.items=m.map f/\m.length<sizeLine/\S.okF M1/\SameM M M1)
  (ht:∀x∈m,∀u,SameM M u->wTg E (f x) (sCm own s F) λT=>wE A c T u λy M2=>∃p,y=.ref p/\u p=none/\SameM u M2/\M2 p=some (.lst ((g x).map MV.str)))
  (U:∀(j:Nat)f n,A[j]?=some (f,n)->MonW n)
  (q:∀D l u,M D=none->SameM M u->(∀a∈l,M a=none)->D∉l->RowsAt u l (m.map g)->u D=some (.lst (l.map MV.ref))->Q (.ref D) u):wE A (.comp own s d E .none c) F M Q:=by
 rw[_aI]
 refine mon_sr U d (λS M1 ⟨W,I,b,B⟩=>?_) hs
 have hl:S.len=m.length:=by rw[<-S.items_len,W,Y01]
 refine⟨by rw[hl];exact I,λD J=>⟨λi Y M2=>SameM M1 M2/\∃l:List Addr,Y=l.map MV.ref/\M2 D=some (.lst Y)/\(∀a∈l,M1 a=none)/\D∉l/\RowsAt M2 l ((m.take i).map g)/\i<=m.length,⟨SameM.new J _,[],rfl,_00,λ_ h=>(Y0k h).elim,Y0k,⟨rfl,λ_ _ _ h=>by cases h⟩,Y1e _⟩,?_,?_,?_⟩⟩
 .rintro i Y M2 ⟨L,l,rfl,O,_,_,R,C⟩
  exact⟨O,by rw[Y01,R.1,Y01,Y0s];lia,_dY b L⟩
 .rintro i x Y M2 hx ⟨L,l,rfl,O,X,H,R,_⟩
  rw[W]at hx
  obtain⟨C,rfl⟩:=_0z hx
  refine _90 E (λT h=>?_) (ht m[i] (Y0j C) M2 (B.trans L))
  rw[wI,if_pos rfl]
  refine _07 U c (λy M3 ⟨p,e,np,v,hp⟩=>?_) h
  subst e
  have pD:D≠p:=neM O np
  have Z:D∉l++[p]:=λz=>(Y0m.mp z).elim H λz=>pD (Y0w.mp z)
  refine⟨v _ _ O,λa o e=>by rw[_06 (neM e J)];exact v _ _ (L _ _ e),l++[p],by rw[Y07];rfl,_00,λa N=>?_,Z,?_,C⟩
  .rcases Y0m.mp N with N|N
   .exact X a N
   .rw[Y0w.mp N];exact L.free np
  .rw[Y0K,Y02 C,Y1n,Y07]
   refine((R.keep v).app ⟨rfl,λj a r W I=>?_⟩).off Z _
   cases j with
   |zero=>cases W;cases I;exact hp
   |succ j=>cases W
 .rintro Y M2 ⟨L,l,rfl,O,X,H,R,_⟩
  rw[hl,Y0y (Y09 _)]at R
  rw[_bF b]
  exact q D l M2 (B.free J) (B.trans L) (λa N=>B.free (X a N)) H R O
def Isl.rows(I:Isl):List (List Str):=["island",I.name]::((I.prs.map fun p=>(["var",p.1,tS p.2]:List Str))++I.stps.map Stp.ws)
def Fer.row(f:Fer):List Str:=["ferry",f.name,f.giver,f.taker,tS f.k,tS f.st]
def Wld.rows(W:Wld):List (List Str):=["width",tS W.w]::((W.isl.map Isl.rows).flatten++W.fer.map Fer.row)
def Isl.fit(I:Isl):Prop:=I.prs.length<=6/\I.stps.length<=12/\(∀p∈I.prs,Small p.2)/\∀s∈I.stps,s.fit
theorem Isl.rows_len{I:Isl}(h:I.fit):I.rows.length<=19:=by
 have:=h.1
 have:=h.2.1
 simp[Isl.rows];lia
abbrev Z13:SpM:=λu M Q=>∃I:Isl,u=[I.mv]/\I.fit/\∀p l j,SameM M j->M p=none->(∀a∈l,M a=none)->j p=some (.lst (l.map MV.ref))->RowsAt j l I.rows->Q (.ref p) j
theorem _2W:MonW Z13:=by walk_at "m"
theorem _9X(T:Txt w K mg t):FnOk P w K mg base CX0 18 t.bJ t.dG ["island"] (liSp K Z13):=by
 refine T.aZ.F.okM _9S (_0i (u:=[("step_words",Z1l)]) (_0k T) (_09 T) (_0j T) rfl (fMc ⟨_3n,(fun _ h=>nomatch h)⟩) (fMc ⟨⟨_,_,_,(FnOk.mono (_b8 T) (by decide)),T.aX.m,T.aX.F.kp,T.aX.b⟩,(fun _ h=>nomatch h)⟩):Fts P w K mg base 17 Z71 [("step_words",Z1l)]) Z3a _ae (fun v M Q h=>?_) (fun v M Q h=>?_)
 .obtain⟨_,rfl,_⟩:=h;rfl
 obtain⟨I,rfl,⟨f1,f2,o,i⟩,q⟩:=h
 have c:=(_61 (u:=[("step_words",Z1l)]) (fMc ⟨_3n,(fun _ h=>nomatch h)⟩))
 show wSs _ _ _ [some I.mv,none] M
 delta Z3a Z5y
 simp![Isl.mv]
 intro u f y m
 have D:=SameM.new f (.lst [.str "island",.str I.name])
 have E:updM M u (.lst [.str "island",.str I.name]) u=some (.lst [.str "island",.str I.name]):=_00
 generalize updM M u _=M1 at*
 have L:=D.trans (SameM.new m (.lst [.ref u]))
 have n:=SameM.new m (.lst [.ref u]) _ _ E
 have R:updM M1 y (.lst [.ref u]) y=some (.lst [.ref u]):=_00
 have U:M y=none:=D.free m
 have W:y≠u:=(neM E m).symm
 generalize updM M1 y _=M2 at*
 delta Z5x
 simp![R]
 refine⟨⟨_,rfl⟩,?_⟩
 refine _9y I.prs prV (fun p=>["var",p.1,tS p.2]) ?_ ?_ c fun D3 l Y b Z F nD3 G d3=>?_
 .simp!
  exact⟨rfl,by lia,trivial,SameM.refl _⟩
 .intro x A M' s
  simp only[sCm,Y0a,Y0B,Y0l,Y0v]
  simp![prV]
  exact⟨(o x A).log,λp N=>⟨N,SameM.new N _⟩⟩
 have g3:=Z _ _ R
 simp![g3,d3]
 have l3:=G.1
 refine⟨by simp only[Y0e,Y1O,Y01]at l3 ⊢;lia,?_⟩
 have d:y∉u::l:=λz=>by
  rcases Y06.mp z with z|z
  .exact W z
  .have:=F _ z;rw[R]at this;cases this
 have O:RowsAt Y (u::l) (["island",I.name]::I.prs.map fun p=>(["var",p.1,tS p.2]:List Str)):=RowsAt.app (y:=[u]) (z:=[["island",I.name]]) ⟨rfl,fun j a r J e2=>by
  cases j with
  |zero=>cases J;cases e2;exact Z _ _ n
  |succ j=>cases J⟩ G
 have S:=(L.trans Z).upd U (.lst ([.ref u]++l.map MV.ref))
 have O:=O.off d (.lst ([.ref u]++l.map MV.ref))
 have B:updM Y y (.lst ([.ref u]++l.map MV.ref)) y=some (.lst ((u::l).map MV.ref)):=_00
 have n4:∀a∈u::l,M a=none:=λa g=>by
  rcases Y06.mp g with rfl|g
  .exact f
  .exact L.free (F a g)
 generalize updM Y y _=M4 at*
 delta Z5w
 simp![B]
 refine⟨⟨_,rfl⟩,?_⟩
 refine _9y I.stps Stp.mv Stp.ws ?_ ?_ c λD5 e M5 hD5 C X nD5 H d5=>?_
 .simp!
  exact⟨rfl,by lia,trivial,SameM.refl _⟩
 .intro x A M' s
  simp only[sCm,Y0a,Y0B,Y0l,Y0v]
  simp!
  exact⟨x,rfl,i x A,λp M2 L np N=>⟨p,rfl,np,L,N⟩⟩
 have g5:=C _ _ B
 simp![g5,d5]
 have l5:=H.1
 have l4:=O.1
 refine⟨by simp only[Y0e,Y1O,Y01]at l4 l5 ⊢;lia,?_⟩
 delta Z5v
 simp!
 have nn:y∉(u::l)++e:=λz=>by
  rcases Y0m.mp z with z|z
  .exact d z
  .have:=X _ z;rw[B]at this;cases this
 refine q y ((u::l)++e) _ ((S.trans C).upd U _) U (λa g=>?_) ?_ (((O.keep C).app H).off nn _)
 .rcases Y0m.mp g with g|g
  .exact n4 a g
  .exact S.free (X a g)
 .rw[_00,<-Y07]
noncomputable abbrev Z03:SpM:=λj M Q=>∃(a:Addr) (ws:List MV) (n:Int),j=[.ref a,.int n]/\M a=some (.lst ws)/\(ws.length:Int)=n/\Q .non M
theorem _0a:MonW Z03:=by walk_at "m"
theorem _0m(T:Txt w K mg t):FnOk P w K mg base CX0 1 t.cR t.bL ["words","count"] (liSp K Z03):=by
 refine T.aa.F.okM _8n (_0i (u:=[]) (_0k T) (_09 T) (_0j T) rfl (λ_ h=>nomatch h) (λ_ h=>nomatch h):Fts P w K mg base 0 Z52 []) Z25 _8z (λj M Q h=>?_) (λj M Q h=>?_)
 .obtain⟨_,_,_,rfl,_⟩:=h;rfl
 obtain⟨a,ws,n,rfl,l,u,q⟩:=h
 show wSs _ _ _ [some (.ref a),some (.int n)] M
 delta Z25 Z3Z
 simp![l,u]
 exact q
theorem _mk:(("0":Str)).cps.toList=[48]:=by decide+kernel
theorem _oa:(("9":Str)).cps.toList=[57]:=by decide+kernel
theorem le_0{c:Nat}(h:48<=c):(!decide ((⟨#[c]⟩:Str).cps.toList<(("0":Str)).cps.toList))=true:=by
 rw[_mk]
 have:¬((⟨#[c]⟩:Str).cps.toList<[48]):=λz=>by
  have z:([c]:List Nat)<[48]:=z
  rw[_dX]at z
  lia
 simpa using this
theorem le_9{c:Nat}(h:c<=57):(!decide ((("9":Str)).cps.toList<(⟨#[c]⟩:Str).cps.toList))=true:=by
 rw[_oa]
 have:¬([57]<(⟨#[c]⟩:Str).cps.toList):=λz=>by
  have z:([57]:List Nat)<[c]:=z
  rw[_dX]at z
  lia
 simpa using this
abbrev Z08:SpM:=λl M Q=>∃m:Nat,l=[.str (tS (m:Int))]/\m<10^20/\∀j,SameM M j->Q (.int m) j
theorem _0F:MonW Z08:=by walk_at "m"
theorem _18(T:Txt w K mg t):FnOk P w K mg base CX0 1 t.ci t.dE ["word"] (liSp K Z08):=by
 refine T.ac.F.okM _9R (_0i (u:=[]) (_0k T) (_09 T) (_0j T) rfl (λ_ h=>nomatch h) (λ_ h=>nomatch h):Fts P w K mg base 0 Z70 []) Z39 _ad (λO M Q h=>?_) (λO M Q h=>?_)
 .obtain⟨_,rfl,_⟩:=h;rfl
 obtain⟨m,rfl,R,q⟩:=h
 obtain⟨U,C,E⟩:=_hm R
 have W:=_7l m
 have g:=_9w m
 have d:∀r,dig m=48::r->m=0:=λr=>_ee
 rw[<-W]at g d
 have Y:m=0->tS (m:Int)="0":=fun h=>by subst h;rfl
 generalize tS (m:Int)=z at*
 have p:=_62 z
 show wSs _ _ _ [some (.str z)] M
 delta Z39 Z5u
 simp!
 refine⟨by lia,?_⟩
 rw[if_pos (by lia:(1:Int)<=(z.length:Int))]
 rw[if_neg (λh=>h (by lia):¬¬(z.length:Int)<=20)]
 refine _1b z.cps.toList (λc=>.str ⟨#[c]⟩) (λ_=>.bl true) ?_ ?_ (λj f F h=>by simp at h) λD Z=>?_
 .simp!
  exact⟨rfl,by lia,trivial⟩
 .intro c y l s
  obtain⟨A,B⟩:=g c y
  simp only[sCm,Y0a,Y0B,Y0t,Y0u,Y0l,Y0v]
  simp!
  rw[if_pos (by simpa using le_0 A)]
  simpa using le_9 B
 simp!
 refine⟨z.cps.toList.map λ_=>true,by rw[Y0E];rfl,?_⟩
 have e:((z.cps.toList.map λ_=>true).all id)=true:=by simp
 rw[e]
 simp!
 have u:∀l,SameM M l->wSs [] Z35 {nx:=λx l=>Q MV.non l,rt:=Q} [some (.str z)] l:=λl s=>by
  delta Z35
  simp!
  exact⟨m,U,by lia,q _ s⟩
 have L:=SameM.new Z (.lst (z.cps.toList.map λ_=>MV.bl true))
 generalize updM M D _=M1 at*
 delta Z5t
 simp!
 obtain⟨c,r,N⟩:∃c r,z.cps.toList=c::r:=by
  cases q:z.cps.toList with
  |nil=>rw[q]at p;simp at p;lia
  |cons c r=>exact⟨c,r,rfl⟩
 refine⟨by lia,c,by rw[N];exact at0,_63 (λh=>?_) (λ_=>u _ L)⟩
 have y:c=48:=by
  have h:=congrArg (λs:Str=>s.cps.toList) h
  have h:[c]=(("0":Str)).cps.toList:=h
  rw[_mk]at h
  exact(Y1x h).1
 rw[if_neg (λn=>n (Y (d r (by rw[N,y]))))]
 exact u _ L
theorem _gA(z:Str)(k:Nat):(cutS z (some (k:Int)) none).cps.toList=z.cps.toList.drop k:=by
 unfold cutS
 simp only[HT.sIx_none,HT.sIx_nat]
 show List.take _ (List.drop (min k _) _)=_
 by_cases h:k<=z.cps.toList.length
 .rw[Y25 h,Y0y (by rw[Y1a];exact Y09 _)]
 .rw[Y2m (by lia),Y1b (Y09 _),Y1b (by lia)]
  simp
abbrev Z3D:SpM:=λl M Q=>∃n:Int,l=[.str (tS n)]/\Small n/\∀j,SameM M j->Q (.int n) j
theorem _91:MonW Z3D:=by walk_at "m"
theorem _dd(T:Txt w K mg t):FnOk P w K mg base CX0 2 t.bg t.c7 ["word"] (liSp K Z3D):=by
 refine T.aL.F.okM _d6 (_0i (u:=[("read_number",Z08)]) (_0k T) (_09 T) (_0j T) rfl (fMc ⟨_0F,(fun _ h=>nomatch h)⟩) (fMc ⟨⟨_,_,_,(FnOk.mono (_18 T) (by decide)),T.ac.m,T.ac.F.kp,T.ac.b⟩,(fun _ h=>nomatch h)⟩):Fts P w K mg base 1 ZaP [("read_number",Z08)]) Z6a _dC (fun g M Q h=>?_) (fun g M Q h=>?_)
 .obtain⟨_,rfl,_⟩:=h;rfl
 obtain⟨n,rfl,u,q⟩:=h
 show wSs _ _ _ [some (.str (tS n))] M
 delta Z6a Z9d
 simp!
 rcases _gi n with⟨m,rfl⟩|⟨m,rfl⟩
 .have j:m<10^20:=by have h:(m:Int).natAbs<10^20:=u;lia
  obtain⟨c,r,y⟩:∃c r,dig m=c::r:=by
   cases e:dig m with
   |nil=>have:=_dz m;rw[e]at this;cases this
   |cons c r=>exact⟨c,r,rfl⟩
  have p:=_9w m c (by rw[y];exact Y0c ..)
  rw[_e1 ((_7l m).trans y),decide_eq_false (by lia)]
  simp!
  delta Z9c
  simp!
  exact⟨m,rfl,j,q⟩
 .have j:m+1<10^20:=by have h:(-((m+1:Nat):Int)).natAbs<10^20:=u;lia
  rw[_e1 (_bG m),decide_eq_true rfl]
  simp!
  have l:=_62 (tS (-((m+1:Nat):Int)))
  rw[_bG]at l
  have L:=_bo j
  have d:¬tS (-((m+1:Nat):Int))="-0":=fun h=>by
   have h:=congrArg (λs:Str=>s.cps.toList) h
   have h:(tS (-((m+1:Nat):Int))).cps.toList=[45,48]:=h
   rw[_bG]at h
   have:=_ee (Y1x h).2
   cases this
  have f:cutS (tS (-((m+1:Nat):Int))) (some 1) none=tS ((m+1:Nat):Int):=by
   refine Str.ext' (Y36.mp ?_)
   have:=_gA (tS (-((m+1:Nat):Int))) 1
   rw[_bG]at this
   rw[_7l];exact this
  generalize tS (-((m+1:Nat):Int))=z at*
  delta Z9b
  simp!
  rw[if_neg d];delta Z9a
  simp!
  rw[f]
  refine⟨by simp only[Y0e]at l;lia,m+1,rfl,j,λN s=>⟨_,rfl,q _ s⟩⟩
def Tm.leaf:Tm->Prop
 |.num n=>Small n
 |.var _=>True
 |_=>False
abbrev Z2U:SpM:=λl M Q=>∃(a:Addr) (T:Tm),l=[.ref a]/\T.leaf/\M a=some (.lst (T.ws.map MV.str))/\∀j,SameM M j->Q T.mv j
theorem _8v:MonW Z2U:=by walk_at "m"
theorem _c4(T:Txt w K mg t):FnOk P w K mg base CX0 3 t.bU t.cy ["words"] (liSp K Z2U):=by
 refine T.aR.F.okM _bN (_0i (u:=[("read_num",Z3D),("refuse_length",Z03)]) (_0k T) (_09 T) (_0j T) rfl (fMc ⟨_91,(fMc ⟨_0a,(fun _ h=>nomatch h)⟩)⟩) (fMc ⟨⟨_,_,_,(FnOk.mono (_dd T) (by decide)),T.aL.m,T.aL.F.kp,T.aL.b⟩,(fMc ⟨⟨_,_,_,(FnOk.mono (_0m T) (by decide)),T.aa.m,T.aa.F.kp,T.aa.b⟩,(fun _ h=>nomatch h)⟩)⟩):Fts P w K mg base 2 Z9H [("read_num",Z3D),("refuse_length",Z03)]) Z4D _cA (fun u M Q h=>?_) (fun u M Q h=>?_)
 .obtain⟨_,_,rfl,_⟩:=h;rfl
 obtain⟨a,T,rfl,l,j,q⟩:=h
 show wSs _ _ _ [some (.ref a),none] M
 delta Z4D Z7L
 simp!
 refine⟨a,T.ws.map MV.str,2,rfl,j,by cases T<;>first|rfl|exact l.elim,?_⟩
 delta Z7K
 cases T with
 |num n=>
  have j:M a=some (.lst [.str "num",.str (tS n)]):=j
  simp![j]
  delta Z7J
  simp![j]
  exact⟨n,rfl,l,λy s=>q y s⟩
 |var x=>
  have j:M a=some (.lst [.str "var",.str x]):=j
  simp![j]
  delta Z7I
  simp![j]
  delta Z7H
  simp![j]
  exact q M (SameM.refl _)
 |two f a b=>exact l.elim
 |pick c a b=>exact l.elim
inductive Tk where|op (f:Str)(k:Nat)|lf (T:Tm)
noncomputable abbrev PT:List (Str×Int):=[("plus",2),("minus",2),("times",2),("less",2),("same",2),("pick",3)]
noncomputable def Tk.ok:Tk->Prop
 |.op f k=>PT.lookup f=some (k:Int)/\k<=3
 |.lf T=>T.leaf
noncomputable def Tk.ws:Tk->List Str
 |.op f _=>[f]
 |.lf T=>T.ws
noncomputable def Tk.mv:Tk->MV
 |.op f _=>.str f
 |.lf T=>T.mv
noncomputable def Tm.tks:Tm->List Tk
 |.num n=>[.lf (.num n)]
 |.var x=>[.lf (.var x)]
 |.two f a b=>.op f.str 2::(a.tks++b.tks)
 |.pick c a b=>.op "pick" 3::(c.tks++(a.tks++b.tks))
def tkw(j:List Tk):List Str:=(j.map Tk.ws).flatten
theorem _8K(a b:List Tk):tkw (a++b)=tkw a++tkw b:=by simp[tkw]
theorem _8E(t:Tk)(b:List Tk):tkw (t::b)=t.ws++tkw b:=by simp[tkw]
theorem Tm.tks_ws:∀T:Tm,tkw T.tks=T.ws
 |.num n=>rfl
 |.var x=>rfl
 |.two f a b=>by rw[Tm.tks,_8E,_8K,a.tks_ws,b.tks_ws];rfl
 |.pick c a b=>by rw[Tm.tks,_8E,_8K,_8K,c.tks_ws,a.tks_ws,b.tks_ws];rfl
theorem Tm.tks_len:∀T:Tm,T.tks.length=T.size
 |.num n=>rfl
 |.var x=>rfl
 |.two f a b=>by simp[Tm.tks,Tm.size,a.tks_len,b.tks_len];lia
 |.pick c a b=>by simp[Tm.tks,Tm.size,c.tks_len,a.tks_len,b.tks_len];lia
theorem Tm.tks_ok:∀{T:Tm},T.fit->∀t∈T.tks,t.ok
 |.num n,h,t,j=>by rw[Y0w.mp j];exact h
 |.var x,h,t,j=>by rw[Y0w.mp j];trivial
 |.two f a b,h,t,j=>by
  rcases Y06.mp j with rfl|j
  .cases f<;>exact⟨by decide+kernel,by decide⟩
  .rcases Y0m.mp j with j|j
   .exact a.tks_ok h.1 t j
   .exact b.tks_ok h.2 t j
 |.pick c a b,h,t,j=>by
  rcases Y06.mp j with rfl|j
  .exact⟨by decide+kernel,by decide⟩
  .rcases Y0m.mp j with j|j
   .exact c.tks_ok h.1 t j
   .rcases Y0m.mp j with j|j
    .exact a.tks_ok h.2.1 t j
    .exact b.tks_ok h.2.2 t j
theorem _hM(j:List MV)(k:Nat):cutM j (some (k:Int)) (some ((k:Int)+2))=(j.drop k).take 2:=by
 have e:(k:Int)+2=((k+2:Nat):Int):=by lia
 unfold cutM
 rw[e,HT.sIx_nat,HT.sIx_nat]
 by_cases h:k<=j.length
 .rw[Y25 h]
  by_cases h2:k+2<=j.length
  .rw[Y25 h2,show k+2 - k=2 by lia]
  .rw[Y2m (by lia),Y0y (by rw[Y1a];exact Y09 _),Y0y (by rw[Y1a];lia)]
 .have l:min k j.length=j.length:=Y2m (by lia)
  rw[l,Y1b (Y09 _),Y1b (show j.length<=k by lia)]
  simp
theorem _mv{j:List Tk}{i:Nat}{t:Tk}(h:j[i]?=some t):tkw j=tkw (j.take i)++(t.ws++tkw (j.drop (i+1)))/\tkw (j.take (i+1))=tkw (j.take i)++t.ws/\(j.take (i+1)).map Tk.mv=(j.take i).map Tk.mv++[t.mv]:=by
 obtain⟨u,rfl⟩:=Y0b.mp h
 have e:j=j.take i++j[i]::j.drop (i+1):=by rw[<-Y1U u,List.take_append_drop]
 have l:j.take (i+1)=j.take i++[j[i]]:=by rw[Y0K,h];rfl
 refine⟨?_,?_,?_⟩
 .rw[<-_8E,<-_8K,<-e]
 .rw[l,_8K,_8E];simp[tkw]
 .rw[l,Y07];rfl
abbrev Z1A:SpM:=λu M Q=>∃(a:Addr) (j:List Tk),u=[.ref a]/\M a=some (.lst ((tkw j).map MV.str))/\(∀t∈j,t.ok)/\j.length<=100/\∀p l,SameM M l->M p=none->l p=some (.lst (j.map Tk.mv))->Q (.ref p) l
theorem _4p:MonW Z1A:=by walk_at "m"
theorem _de(T:Txt w K mg t):FnOk P w K mg base CX0 4 t.ce t.bu ["words"] (liSp K Z1A):=by
 refine T.b0.F.okM _d7 (_0i (u:=[("read_leaf",Z2U)]) (_0k T) (_09 T) (_0j T) rfl (fMc ⟨_8v,(fun _ h=>nomatch h)⟩) (fMc ⟨⟨_,_,_,(FnOk.mono (_c4 T) (by decide)),T.aR.m,T.aR.F.kp,T.aR.b⟩,(fun _ h=>nomatch h)⟩):Fts P w K mg base 3 ZaQ [("read_leaf",Z2U)]) Z6b _dD (fun F M Q h=>?_) (fun F M Q h=>?_)
 .obtain⟨_,_,rfl,_⟩:=h;rfl
 obtain⟨a,j,rfl,A,O,hl,q⟩:=h
 show wSs _ _ _ [some (.ref a),none,none] M
 delta Z6b Z9q
 simp!
 intro p y
 have G:=SameM.new y (.lst [])
 have I:updM M p (.lst []) p=some (.lst ([]:List MV)):=_00
 generalize updM M p _=M0 at*
 delta Z9p
 simp!
 delta Z9o
 simp!
 obtain⟨J,R⟩:∃J:Nat->Sm->MH->Prop,∀m U M2,J m U M2↔∃i,m=j.length - i/\i<=j.length/\SameM M M2/\M2 p=some (.lst ((j.take i).map Tk.mv))/\U=[some (.ref a),some (.ref p),some (.int ((tkw (j.take i)).length:Nat))]:=⟨_,λ_ _ _=>Y1y⟩
 refine⟨J,⟨_,(R _ _ _).mpr ⟨0,rfl,Y1e _,G,I,rfl⟩⟩,λm U M2 S=>?_⟩
 obtain⟨i,rfl,hi,c,z,rfl⟩:=(R _ _ _).mp S
 have g:=c _ _ A
 simp![g,Y01]
 cases e:j[i]? with
 |none=>
  have l:j.length<=i:=Y2K.mp e
  rw[Y0y l,if_neg (by lia),Z9i]
  simp!
  rw[Y0y l]at z
  exact q p M2 c y z
 |some t=>
  have l:=(Y0b.mp e).1
  have tok:=O t (Y0G e)
  obtain⟨d,X,H⟩:=_mv e
  have pa:a≠p:=neM A y
  have ll:((j.take i).map Tk.mv).length<=100:=by rw[Y01,Y0s];lia
  generalize hw:tkw (j.take i)=pre at*
  have B:∀L,SameM M L->L p=some (.lst ((j.take i).map Tk.mv++[t.mv]))->∀n:Int,n=((pre++t.ws).length:Nat)->∃C,C<j.length - i/\J C [some (.ref a),some (.ref p),some (.int n)] L:=λL N v n o=>
   ⟨j.length - (i+1),by lia,(R _ _ _).mpr ⟨i+1,rfl,l,N,by rw[H];exact v,by rw[X,o]⟩⟩
  delta Z9n
  cases t with
  |op f k=>
   have u:atI ((tkw j).map MV.str) (pre.length:Nat)=some (.str f):=_0A (by rw[d,Y07,Y0C (by simp),Y01,Nat.sub_self];rfl)
   have lt:((pre.length:Nat):Int)<((tkw j).length:Nat):=by rw[d];simp[Tk.ws];lia
   rw[if_pos lt]
   simp![g,u]
   rw[tok.1,Option.isSome_some,if_pos rfl];delta Z9m
   simp![z,g,u]
   refine⟨⟨_,rfl⟩,by lia,?_⟩
   delta Z9l
   simp!
   exact B _ (c.upd y _) _00 _ (by simp[Tk.ws])
  |lf T=>
   have tok:T.leaf:=tok
   have W:T.ws.length=2:=by cases T<;>first|rfl|exact tok.elim
   have Y:∃x r,T.ws=x::r/\PT.lookup x=none:=by
    cases T with
    |num n=>exact⟨_,_,rfl,by decide+kernel⟩
    |var n=>exact⟨_,_,rfl,by decide+kernel⟩
    |two _ _ _=>exact tok.elim
    |pick _ _ _=>exact tok.elim
   obtain⟨x,r,D,Y⟩:=Y
   have u:atI ((tkw j).map MV.str) (pre.length:Nat)=some (.str x):=_0A (by rw[d,Y07,Y0C (by simp),Y01,Nat.sub_self,show Tk.ws (.lf T)=T.ws from rfl,D];rfl)
   have lt:((pre.length:Nat):Int)<((tkw j).length:Nat):=by rw[d];simp[Tk.ws,D];lia
   have cut:cutM ((tkw j).map MV.str) (some (pre.length:Nat)) (some ((pre.length:Nat)+2))=T.ws.map MV.str:=by
    rw[_hM,d,Y07,List.drop_append_of_le_length (by simp),Y29 (by simp),Y0v,Y07,List.take_append_of_le_length (by simp[Tk.ws,W]),Y0y (by simp[Tk.ws,W])];rfl
   rw[if_pos lt]
   simp![g,u,Y]
   delta Z9k
   simp![z,g,cut]
   refine⟨⟨_,rfl⟩,λs Z=>?_⟩
   have N:=SameM.new Z (.lst (T.ws.map MV.str))
   refine⟨s,T,rfl,tok,_00,λM4 E=>?_⟩
   have b:=E _ _ (N _ _ z)
   simp![b]
   refine⟨by lia,?_⟩
   delta Z9j
   simp!
   exact B _ (((c.trans N).trans E).upd y _) _00 _ (by simp[Tk.ws,W])
noncomputable def stk:List Tk->List MV
 |[]=>[]
 |.lf T::r=>stk r++[T.mv]
 |.op f k::r=>(stk r).take ((stk r).length - k)++[.tup (.str f::((stk r).drop ((stk r).length - k)).reverse)]
def gdT:List Tk->Prop
 |[]=>True
 |.lf _::r=>gdT r
 |.op _ k::r=>gdT r/\k<=(stk r).length
theorem _i3{S:List MV}{f:Str}{j:List MV}{k:Nat}(h:j.length=k):(S++j.reverse).take ((S++j.reverse).length - k)++[MV.tup (.str f::((S++j.reverse).drop ((S++j.reverse).length - k)).reverse)]=S++[.tup (.str f::j)]:=by
 have e:(S++j.reverse).length - k=S.length:=by rw[Y0i,List.length_reverse,h];lia
 rw[e,List.take_left',List.drop_left',List.reverse_reverse]<;>rfl
theorem Tm.stk_is:∀(T:Tm)(r:List Tk),stk (T.tks++r)=stk r++[T.mv]
 |.num n,r=>rfl
 |.var x,r=>rfl
 |.two f a b,r=>by
  rw[Tm.tks,Y0l,Y0x,stk,a.stk_is,b.stk_is]
  have:=_i3 (S:=stk r) (f:=f.str) (j:=[a.mv,b.mv]) (k:=2) rfl
  simpa [Tm.mv]using this
 |.pick c a b,r=>by
  rw[Tm.tks,Y0l,Y0x,Y0x,stk,c.stk_is,a.stk_is,b.stk_is]
  have:=_i3 (S:=stk r) (f:="pick") (j:=[c.mv,a.mv,b.mv]) (k:=3) rfl
  simpa [Tm.mv]using this
theorem Tm.gd_is:∀(T:Tm){r:List Tk},gdT r->gdT (T.tks++r)
 |.num n,r,h=>h
 |.var x,r,h=>h
 |.two f a b,r,h=>by
  rw[Tm.tks,Y0l,Y0x]
  exact⟨a.gd_is (b.gd_is h),by rw[a.stk_is,b.stk_is];simp⟩
 |.pick c a b,r,h=>by
  rw[Tm.tks,Y0l,Y0x,Y0x]
  exact⟨c.gd_is (a.gd_is (b.gd_is h)),by rw[c.stk_is,a.stk_is,b.stk_is];simp⟩
theorem _d0:∀j:List Tk,(stk j).length<=j.length
 |[]=>Y09 _
 |.lf T::r=>by have:=_d0 r;simp[stk];lia
 |.op f k::r=>by have:=_d0 r;simp[stk];lia
theorem _bj:∀{j:List Tk} (n:Nat),gdT j->gdT (j.drop n)
 |j,0,h=>h
 |[],_+1,h=>h
 |.lf _::r,n+1,h=>_bj (j:=r) n h
 |.op _ _::r,n+1,h=>_bj (j:=r) n h.1
abbrev Z1j:SpM:=λl M Q=>∃(a:Addr) (T:Tm),l=[.ref a]/\M a=some (.lst (T.ws.map MV.str))/\ZcT T/\∀j,SameM M j->Q T.mv j
theorem _8s:MonW Z1j:=by walk_at "m"
theorem _c1(T:Txt w K mg t):FnOk P w K mg base CX0 5 t.cZ t.df ["words"] (liSp K Z1j):=by
 refine T.bb.F.okM _bK (_0i (u:=[("marks_of",Z1A),("refuse_length",Z03)]) (_0k T) (_09 T) (_0j T) rfl (fMc ⟨_4p,(fMc ⟨_0a,(fun _ h=>nomatch h)⟩)⟩) (fMc ⟨⟨_,_,_,(FnOk.mono (_de T) (by decide)),T.b0.m,T.b0.F.kp,T.b0.b⟩,(fMc ⟨⟨_,_,_,(FnOk.mono (_0m T) (by decide)),T.aa.m,T.aa.F.kp,T.aa.b⟩,(fun _ h=>nomatch h)⟩)⟩):Fts P w K mg base 4 Z9E [("marks_of",Z1A),("refuse_length",Z03)]) Z4A _cx (fun vs M Q h=>?_) (fun vs M Q h=>?_)
 .obtain⟨_,_,rfl,_⟩:=h;rfl
 obtain⟨a,U,rfl,ha,⟨_,u1,u2⟩,q⟩:=h
 have hΦ:=(_61 (u:=[("marks_of",Z1A),("refuse_length",Z03)]) (fMc ⟨_4p,(fMc ⟨_0a,(fun _ h=>nomatch h)⟩)⟩))
 show wSs _ _ _ [some (.ref a),none,none,none] M
 delta Z4A Z7x
 simp!
 intro b I
 have s:=SameM.new I (.lst [])
 have h0:updM M b (.lst []) b=some (.lst ([]:List MV)):=_00
 generalize updM M b _=M0 at*
 delta Z7w
 simp!
 have L:=Tm.tks_ok u2
 have Z:=U.gd_is (r:=[]) trivial
 have y:=U.stk_is []
 have hl:=U.tks_len
 rw[Y18]at Z y
 refine⟨a,U.tks,rfl,by rw[U.tks_ws];exact s _ _ ha,L,by lia,λR M1 s1 X A=>?_⟩
 have b1:=s1 _ _ h0
 have H:b≠R:=neM h0 X
 generalize U.tks=ts at*
 simp![A]
 obtain⟨J,W⟩:∃J:Nat->Sm->MH->Prop,∀i B M2,J i B M2↔∃N z:Option MV,SameM M M2/\M2 R=some (.lst (ts.map Tk.mv))/\M2 b=some (.lst (stk (ts.drop (ts.length - i))))/\B=[some (.ref a),some (.ref b),N,z]:=⟨_,λ_ _ _=>Y1y⟩
 refine⟨J,(W _ _ _).mpr ⟨_,_,s.trans s1,A,by rw[Y3p,Y29 (Y09 _)];exact b1,rfl⟩,λi B M2 g=>?_,λi x B M2 d g=>?_,λB M2 g=>?_⟩
 .obtain⟨_,_,_,h1,_⟩:=(W _ _ _).mp g
  exact h1
 .obtain⟨N,z,C,S,c,rfl⟩:=(W _ _ _).mp g
  have hi:i<ts.length:=by have:=(Y0b.mp d).1;simpa [Src.items]using this
  have d:(ts.map Tk.mv).reverse[i]?=some x:=d
  rw[Y2k (by simpa using hi),Y01,Y08,Y02 (by lia)]at d
  obtain rfl:=Y0z d
  have tok:=L ts[ts.length - 1 - i] (Y0j (by lia))
  have v:ts.drop (ts.length - (i+1))=ts[ts.length - 1 - i]::ts.drop (ts.length - i):=by
   have:=Y1U (l:=ts) (i:=ts.length - 1 - i) (by lia)
   rw[show ts.length - 1 - i+1=ts.length - i by lia]at this
   rw[show ts.length - (i+1)=ts.length - 1 - i by lia];exact this
  have gd:=_bj (ts.length - (i+1)) Z
  have sl:=_d0 (ts.drop (ts.length - i))
  rw[Y1a]at sl
  rw[v]at gd
  have nx:∀N z u,SameM M u->u R=some (.lst (ts.map Tk.mv))->u b=some (.lst (stk (ts[ts.length - 1 - i]::ts.drop (ts.length - i))))->J (i+1) [some (.ref a),some (.ref b),N,z] u:=λN z u E F p=>(W _ _ _).mpr ⟨N,z,E,F,by rw[v];exact p,rfl⟩
  clear v W d L g
  generalize ts[ts.length - 1 - i]=t at*
  generalize ts.drop (ts.length - i)=r at*
  have sl:(stk r).length<=30:=by lia
  show wSs _ _ _ [some (.ref a),some (.ref b),some t.mv,z] M2
  delta Z7v
  cases t with
  |lf T=>
   have m:∀D:EndM,D.nx=J (i+1)->wSs ([("marks_of",Z1A),("refuse_length",Z03)]:List (Str×SpM)) Z4y D [some (.ref a),some (.ref b),some T.mv,z] M2:=by
    intro D Y
    delta Z4y
    simp![c]
    rw[Y]
    exact⟨⟨_,rfl⟩,by lia,nx _ _ _ (C.upd I _) ((_06 H.symm).trans S) _00⟩
   cases T with
   |num n=>
    simp only[Tk.mv,Tm.mv]at m ⊢
    simp!
    exact m _ rfl
   |var n=>
    simp only[Tk.mv,Tm.mv]at m ⊢
    simp!
    exact m _ rfl
   |two _ _ _=>exact tok.elim
   |pick _ _ _=>exact tok.elim
  |op f k=>
   have gk:k<=(stk r).length:=gd.2
   simp only[Tk.mv]
   simp!
   delta Z7u
   simp![c]
   refine⟨k,tok.1,?_⟩
   rw[if_neg (by lia),Z7t]
   simp!
   rw[_aI]
   simp!
   refine⟨k,tok.1,by lia,by lia,?_⟩
   rw[Y0V]
   have hk3:k<=3:=tok.2
   refine⟨by show k<16777216;lia,λD Y=>?_⟩
   have o:D≠b:=(neM c Y).symm
   have Dm:D≠R:=(neM S Y).symm
   have nD:M D=none:=C.free Y
   refine⟨λj G u=>SameM M u/\u R=some (.lst (ts.map Tk.mv))/\u b=some (.lst ((stk r).take ((stk r).length - j)))/\u D=some (.lst G)/\G=(stk r).reverse.take j/\j<=k,⟨C.trans (SameM.new Y _),(_06 Dm.symm).trans S,?_,_00,rfl,Y1e _⟩,?_,?_,?_⟩
   .rw[_06 o.symm,Y3p,Y0y (Y09 _)];exact c
   .rintro j G u ⟨_,_,_,O,rfl,_⟩
    exact⟨O,by rw[Y0s];lia,trivial⟩
   .rintro j x G u d ⟨E,F,p,O,rfl,_⟩
    obtain⟨g,rfl⟩:=_6l d
    simp only[sCm,Y0a,Y0B,Y0l,Y0v,Y0t,Y0u]
    simp!
    have hy:=Y02 (l:=stk r) (i:=(stk r).length - j - 1) (by lia)
    refine⟨⟨_,p⟩,(stk r).take ((stk r).length - j),p,(stk r)[(stk r).length - j - 1],?_,?_,?_⟩
    .rw[Y0s,Y25 (by lia),Y2M (by lia)];exact hy
    .rw[_06 o];exact O
    refine⟨(E.upd I _).upd nD _,by rw[_06 Dm.symm,_06 H.symm];exact F,?_,?_,g⟩
    .rw[_06 o.symm,_00,Y2j,Y0s,List.take_take,show min (min ((stk r).length - j) (stk r).length - 1) ((stk r).length - j)=(stk r).length - (j+1) by lia]
    .rw[Y0K,Y2k (by lia),show(stk r).length - 1 - j=(stk r).length - j - 1 by lia,hy];rfl
   .rintro G u ⟨E,F,p,O,rfl,_⟩
    have p:u b=some (.lst ((stk r).take ((stk r).length - k))):=p
    have O:u D=some (.lst ((stk r).reverse.take k)):=O
    delta Z7s
    simp![p,O]
    refine⟨⟨_,rfl⟩,by rw[Y0s];lia,by rw[Y0s];lia,nx _ _ _ (E.upd I _) ((_06 H.symm).trans F) ?_⟩
    rw[_00,List.take_reverse];rfl
 .obtain⟨N,z,C,S,c,rfl⟩:=(W _ _ _).mp g
  have e:ts.length - (Src.rev R (ts.map Tk.mv)).len=0:=by simp[Src.len]
  have y:stk ts=[U.mv]:=y
  rw[e,Y3E,y]at c
  delta Z7r
  simp!
  refine⟨b,_,1,rfl,c,rfl,?_⟩
  delta Z7q
  simp![c]
  exact q _ C
theorem Tm.ws_pos:∀T:Tm,2<=T.ws.length
 |.num _=>Y09 _
 |.var _=>Y09 _
 |.two _ a b=>by have:=a.ws_pos;simp[Tm.ws];lia
 |.pick c a b=>by have:=c.ws_pos;simp[Tm.ws];lia
theorem _4K{x:Str}(j:List Str){M:MH}{q:Bool->Prop}(h:q (decide (x∈j))):wIn (.str x) (.tup (j.map MV.str)) M q:=⟨rfl,_6S j,by rw[_bh];exact h⟩
abbrev Z2S:SpM:=λl M Q=>∃(a:Addr) (s:Stp),l=[.ref a]/\M a=some (.lst (s.ws.map MV.str))/\s.fit/\∀j,SameM M j->Q s.mv j
theorem _8t:MonW Z2S:=by walk_at "m"
theorem _c2(T:Txt w K mg t):FnOk P w K mg base CX0 6 t.bz t.be ["words"] (liSp K Z2S):=by
 refine T.aM.F.okM _bL (_0i (u:=[("read_number",Z08),("read_term",Z1j),("refuse_length",Z03)]) (_0k T) (_09 T) (_0j T) rfl (fMc ⟨_0F,(fMc ⟨_8s,(fMc ⟨_0a,(fun _ h=>nomatch h)⟩)⟩)⟩) (fMc ⟨⟨_,_,_,(FnOk.mono (_18 T) (by decide)),T.ac.m,T.ac.F.kp,T.ac.b⟩,(fMc ⟨⟨_,_,_,(FnOk.mono (_c1 T) (by decide)),T.bb.m,T.bb.F.kp,T.bb.b⟩,(fMc ⟨⟨_,_,_,(FnOk.mono (_0m T) (by decide)),T.aa.m,T.aa.F.kp,T.aa.b⟩,(fun _ h=>nomatch h)⟩)⟩)⟩):Fts P w K mg base 5 Z9F [("read_number",Z08),("read_term",Z1j),("refuse_length",Z03)]) Z4B _cy (fun r M Q h=>?_) (fun r M Q h=>?_)
 .obtain⟨_,_,rfl,_⟩:=h;rfl
 obtain⟨a,u,rfl,g,c,q⟩:=h
 show wSs _ _ _ [some (.ref a),none] M
 delta Z4B Z7B
 have two:∀(x y:Str)(T:Tm),u.ws=x::y::T.ws->ZcT T->(∀z,SameM M z->wSs ([("read_number",Z08),("read_term",Z1j),("refuse_length",Z03)]:List (Str×SpM)) Z1Y {nx:=fun x z=>Q MV.non z,rt:=Q} [some (.ref a),some T.mv] z)->wSs ([("read_number",Z08),("read_term",Z1j),("refuse_length",Z03)]:List (Str×SpM)) Z4z {nx:=fun x z=>Q MV.non z,rt:=Q} [some (.ref a),none] M:=by
  intro x y T e L k
  delta Z4z
  simp![g]
  intro p N
  have O:=SameM.new N (.lst (T.ws.map MV.str))
  have R:cutM (u.ws.map MV.str) (some 2) none=T.ws.map MV.str:=by rw[e];exact _2l _ 2
  rw[R]
  exact⟨p,T,rfl,_00,L,λz s=>k z (O.trans s)⟩
 cases u with
 |take f x=>
  have g:M a=some (.lst [.str "take",.str f,.str x]):=g
  simp![g]
  refine _4K ["take","give","put","jump"] ?_
  rw[decide_eq_true (by simp),if_neg (by decide),Z20]
  simp![g]
  delta Z1Z
  simp![g]
  delta Z7A
  simp!
  refine⟨a,_,3,rfl,g,rfl,?_⟩
  delta Z7z
  simp![g]
  exact q M (SameM.refl _)
 |give f T=>
  have l:=T.ws_pos
  have j:M a=some (.lst (.str "give"::.str f::T.ws.map MV.str)):=g
  simp![j]
  refine _4K ["take","give","put","jump"] ?_
  rw[decide_eq_true (by simp),if_neg (by decide),Z20]
  simp![j,Y0e,Y01]
  rw[if_neg (by lia),Z1Z]
  simp![j]
  refine two _ _ T rfl c.2 λz s=>?_
  have d:=s _ _ j
  delta Z1Y
  simp![d]
  delta Z3H
  simp![d]
  exact q z s
 |put x T=>
  have l:=T.ws_pos
  have j:M a=some (.lst (.str "put"::.str x::T.ws.map MV.str)):=g
  simp![j]
  refine _4K ["take","give","put","jump"] ?_
  rw[decide_eq_true (by simp),if_neg (by decide),Z20]
  simp![j,Y0e,Y01]
  rw[if_neg (by lia),Z1Z]
  simp![j]
  refine two _ _ T rfl c.2 λz s=>?_
  have d:=s _ _ j
  delta Z1Y
  simp![d]
  delta Z3H
  simp![d]
  exact q z s
 |jump T i=>
  have l:=T.ws_pos
  have j:M a=some (.lst (.str "jump"::.str (tS i)::T.ws.map MV.str)):=g
  obtain⟨m,rfl⟩:=Y26 c.2.1
  have:=c.2.2
  simp![j]
  refine _4K ["take","give","put","jump"] ?_
  rw[decide_eq_true (by simp),if_neg (by decide),Z20]
  simp![j,Y0e,Y01]
  rw[if_neg (by lia),Z1Z]
  simp![j]
  refine two _ _ T rfl c.1 λz s=>?_
  have d:=s _ _ j
  delta Z1Y
  simp![d]
  delta Z7y
  simp![d]
  exact⟨m,rfl,by lia,λM2 U=>q M2 (s.trans U)⟩
abbrev Z2T:SpM:=fun l M Q=>∃(a:Addr) (x:Str) (m:Nat),l=[.ref a]/\M a=some (.lst [.str "var",.str x,.str (tS (m:Int))])/\m<10^20/\∀j,SameM M j->Q (prV (x,(m:Int))) j
theorem _8u:MonW Z2T:=by walk_at "m"
theorem _c3(T:Txt w K mg t):FnOk P w K mg base CX0 2 t.bB t.bX ["words"] (liSp K Z2T):=by
 refine T.aO.F.okM _bM (_0i (u:=[("read_number",Z08),("refuse_length",Z03)]) (_0k T) (_09 T) (_0j T) rfl (fMc ⟨_0F,(fMc ⟨_0a,(fun _ h=>nomatch h)⟩)⟩) (fMc ⟨⟨_,_,_,(FnOk.mono (_18 T) (by decide)),T.ac.m,T.ac.F.kp,T.ac.b⟩,(fMc ⟨⟨_,_,_,(FnOk.mono (_0m T) (by decide)),T.aa.m,T.aa.F.kp,T.aa.b⟩,(fun _ h=>nomatch h)⟩)⟩):Fts P w K mg base 1 Z9G [("read_number",Z08),("refuse_length",Z03)]) Z4C _cz (fun l M Q h=>?_) (fun l M Q h=>?_)
 .obtain⟨_,_,_,rfl,_⟩:=h;rfl
 obtain⟨a,x,m,rfl,j,u,q⟩:=h
 show wSs _ _ _ [some (.ref a)] M
 delta Z4C Z7G
 simp!
 refine⟨a,_,3,rfl,j,rfl,?_⟩
 delta Z7F
 simp![j]
 exact⟨m,rfl,u,λy s=>q y s⟩
def Fer.fit(f:Fer):Prop:=GoodN f.name/\GoodN f.giver/\GoodN f.taker/\f.k<=3/\f.st<=3
abbrev Z2h:SpM:=λl M Q=>∃(a:Addr) (f:Fer),l=[.ref a]/\M a=some (.lst (f.row.map MV.str))/\f.fit/\∀j,SameM M j->Q f.mv j
theorem _78:MonW Z2h:=by walk_at "m"
theorem _ba(T:Txt w K mg t):FnOk P w K mg base CX0 2 t.dN t.bn ["words"] (liSp K Z2h):=by
 refine T.b9.F.okM _b3 (_0i (u:=[("read_number",Z08),("refuse_length",Z03)]) (_0k T) (_09 T) (_0j T) rfl (fMc ⟨_0F,(fMc ⟨_0a,(fun _ h=>nomatch h)⟩)⟩) (fMc ⟨⟨_,_,_,(FnOk.mono (_18 T) (by decide)),T.ac.m,T.ac.F.kp,T.ac.b⟩,(fMc ⟨⟨_,_,_,(FnOk.mono (_0m T) (by decide)),T.aa.m,T.aa.F.kp,T.aa.b⟩,(fun _ h=>nomatch h)⟩)⟩):Fts P w K mg base 1 Z8j [("read_number",Z08),("refuse_length",Z03)]) Z3N _bs (fun z M Q h=>?_) (fun z M Q h=>?_)
 .obtain⟨_,_,rfl,_⟩:=h;rfl
 obtain⟨a,f,rfl,l,⟨_,_,_,d,c⟩,q⟩:=h
 have l:M a=some (.lst [.str "ferry",.str f.name,.str f.giver,.str f.taker,.str (tS f.k),.str (tS f.st)]):=l
 show wSs _ _ _ [some (.ref a)] M
 delta Z3N Z6C
 simp!
 refine⟨a,_,6,rfl,l,rfl,?_⟩
 delta Z6B
 simp![l]
 refine⟨f.k,rfl,by lia,λM1 y=>?_⟩
 have m:=y _ _ l
 have u:atI [MV.str "ferry",.str f.name,.str f.giver,.str f.taker,.str (tS f.k),.str (tS f.st)] 5=some (.str (tS f.st)):=_0A (j:=5) rfl
 simp![m,u]
 exact⟨f.st,rfl,by lia,λM2 g=>q M2 (y.trans g)⟩
abbrev Z1m:SpM:=fun l M Q=>∃(a:Addr) (m:Nat),l=[.ref a]/\M a=some (.lst [.str "width",.str (tS (m:Int))])/\m<10^20/\∀j,SameM M j->Q (.int m) j
theorem _3o:MonW Z1m:=by walk_at "m"
theorem _b9(T:Txt w K mg t):FnOk P w K mg base CX0 2 t.dJ t.cc ["words"] (liSp K Z1m):=by
 refine T.aN.F.okM _b2 (_0i (u:=[("read_number",Z08),("refuse_length",Z03)]) (_0k T) (_09 T) (_0j T) rfl (fMc ⟨_0F,(fMc ⟨_0a,(fun _ h=>nomatch h)⟩)⟩) (fMc ⟨⟨_,_,_,(FnOk.mono (_18 T) (by decide)),T.ac.m,T.ac.F.kp,T.ac.b⟩,(fMc ⟨⟨_,_,_,(FnOk.mono (_0m T) (by decide)),T.aa.m,T.aa.F.kp,T.aa.b⟩,(fun _ h=>nomatch h)⟩)⟩):Fts P w K mg base 1 Z8i [("read_number",Z08),("refuse_length",Z03)]) Z3M _br (fun l M Q h=>?_) (fun l M Q h=>?_)
 .obtain⟨_,_,rfl,_⟩:=h;rfl
 obtain⟨a,m,rfl,j,u,q⟩:=h
 show wSs _ _ _ [some (.ref a)] M
 delta Z3M Z6A
 simp![j]
 delta Z6z
 simp!
 refine⟨a,_,2,rfl,j,rfl,?_⟩
 delta Z6y
 simp![j]
 exact⟨m,rfl,u,λy s=>q y s⟩
inductive Rw where|isl (n:Str)|var (x:Str)(m:Nat)|stp (s:Stp)|fer (f:Fer)
def Rw.ws:Rw->List Str
 |.isl n=>["island",n]
 |.var x m=>["var",x,tS (m:Int)]
 |.stp s=>s.ws
 |.fer f=>f.row
def Rw.fit:Rw->Prop
 |.isl n=>GoodN n
 |.var x m=>GoodN x/\m<10^20
 |.stp s=>s.fit
 |.fer f=>f.fit
noncomputable def Rw.to(r:Rw)(Is j:List Isl)(Fs l:List Fer):Prop:=match r with
 |.fer f=>j=Is/\l=Fs++[f]
 |.isl n=>Fs=[]/\l=[]/\j=Is++[⟨n,[],[]⟩]
 |.var x m=>Fs=[]/\l=[]/\∃L I,Is=L++[I]/\I.stps=[]/\j=L++[⟨I.name,I.prs++[(x,(m:Int))],I.stps⟩]
 |.stp s=>Fs=[]/\l=[]/\∃L I,Is=L++[I]/\j=L++[⟨I.name,I.prs,I.stps++[s]⟩]
noncomputable abbrev Qd:=Isl×Addr×Addr
noncomputable def qM(q:Qd):MV:=.tup [.str q.1.name,.ref q.2.1,.ref q.2.2]
noncomputable def qA(j:List Qd):List Addr:=j.flatMap λq=>[q.2.1,q.2.2]
theorem _i9(a b:List Qd):qA (a++b)=qA a++qA b:=by simp[qA]
theorem _ak{j:List Qd}{q:Qd}(h:q∈j):q.2.1∈qA j/\q.2.2∈qA j:=⟨Y3b.mpr ⟨q,h,by simp⟩,Y3b.mpr ⟨q,h,by simp⟩⟩
structure RdAt (M0 M:MH)(pi pf:Addr)(qs:List Qd)(Fs:List Fer):Prop where
 s:SameM M0 M
 hi:M pi=some (.lst (qs.map qM))
 hf:M pf=some (.lst (Fs.map Fer.mv))
 hq:∀q∈qs,M q.2.1=some (.lst (q.1.prs.map prV))/\M q.2.2=some (.lst (q.1.stps.map Stp.mv))
 nd:(pi::pf::qA qs).Nodup
 fr:∀x∈pi::pf::qA qs,M0 x=none
theorem RdAt.keep{j M M':MH}{l u:Addr}{y:List Qd}{Fs:List Fer}(h:RdAt j M l u y Fs)(s:SameM M M'):RdAt j M' l u y Fs:=⟨h.s.trans s,s _ _ h.hi,s _ _ h.hf,λq z=>⟨s _ _ (h.hq q z).1,s _ _ (h.hq q z).2⟩,h.nd,h.fr⟩
theorem RdAt.addF{g M:MH}{d l:Addr}{y:List Qd}{m:List Fer}(h:RdAt g M d l y m)(f:Fer):RdAt g (updM M l (.lst (m.map Fer.mv++[f.mv]))) d l y (m++[f]):=by
 have u:=h.nd
 simp only[Y15,Y06,not_or]at u
 have c:∀q∈y,q.2.1≠l/\q.2.2≠l:=λq j=>⟨λz=>u.2.1 (z▸(_ak j).1),λz=>u.2.1 (z▸(_ak j).2)⟩
 exact⟨h.s.upd (h.fr l (by simp)) _,(_06 u.1.1).trans h.hi,by rw[_00,Y07];rfl,λq j=>⟨(_06 (c q j).1).trans (h.hq q j).1,(_06 (c q j).2).trans (h.hq q j).2⟩,h.nd,h.fr⟩
theorem RdAt.addI{R M:MH}{m c:Addr}{g:List Qd}{T:List Fer}(h:RdAt R M m c g T)(n:Str){a b:Addr}(L:M a=none)(r:updM M a (.lst []) b=none):RdAt R (updM (updM (updM M a (.lst [])) b (.lst [])) m (.lst (g.map qM++[.tup [.str n,.ref a,.ref b]]))) m c (g++[(⟨n,[],[]⟩,a,b)]) T:=by
 have N:b≠a:=λz=>by rw[z,_00]at r;cases r
 have f:M b=none:=by rwa [_06 N]at r
 have u:∀x∈m::c::qA g,x≠a/\x≠b:=λx j=>by
  have:∃o,M x=some o:=by
   rcases Y06.mp j with rfl|j
   .exact⟨_,h.hi⟩
   .rcases Y06.mp j with rfl|j
    .exact⟨_,h.hf⟩
    .obtain⟨q,d,j⟩:=Y3b.mp j
     have:=h.hq q d
     simp only[Y06,Y0k,or_false]at j
     rcases j with rfl|rfl
     .exact⟨_,this.1⟩
     .exact⟨_,this.2⟩
  obtain⟨o,p⟩:=this
  exact⟨neM p L,neM p f⟩
 have O:=h.nd
 simp only[Y15,Y06,not_or]at O
 have up:∀x o,x∈c::qA g->M x=some o->updM (updM (updM M a (.lst [])) b (.lst [])) m (.lst (g.map qM++[.tup [.str n,.ref a,.ref b]])) x=some o:=λx o j p=>by
  have l:=u x (Y04 _ j)
  have W:x≠m:=λz=>by
   rw[z]at j
   rcases Y06.mp j with e|e
   .exact O.1.1 e
   .exact O.1.2 e
  rw[_06 W,_06 l.2,_06 l.1];exact p
 have Y:=(u m (by simp)).1
 have Z:=(u m (by simp)).2
 have A:=SameM.new L (.lst [])
 have B:=SameM.new r (.lst [])
 have e:qA (g++[(⟨n,[],[]⟩,a,b)])=qA g++[a,b]:=by rw[_i9];rfl
 refine⟨((h.s.trans A).trans B).upd (h.fr m (by simp)) _,by rw[_00,Y07];rfl,up _ _ (by simp) h.hf,λq d=>?_,?_,λx j=>?_⟩
 .rcases Y0m.mp d with d|d
  .exact⟨up _ _ (Y04 _ (_ak d).1) (h.hq q d).1,up _ _ (Y04 _ (_ak d).2) (h.hq q d).2⟩
  .rw[Y0w.mp d]
   exact⟨by rw[_06 Y.symm,_06 N.symm,_00];rfl,by rw[_06 Z.symm,_00];rfl⟩
 .rw[e]
  show((m::c::qA g)++[a,b]).Nodup
  rw[Y1t]
  refine⟨h.nd,by simp[N.symm],λx j y U=>?_⟩
  simp only[Y06,Y0k,or_false]at U
  rcases U with rfl|rfl
  .exact(u x j).1
  .exact(u x j).2
 .rw[e]at j
  have j:x∈(m::c::qA g)++[a,b]:=j
  rcases Y0m.mp j with j|j
  .exact h.fr x j
  .simp only[Y06,Y0k,or_false]at j
   rcases j with rfl|rfl
   .exact h.s.free L
   .exact h.s.free f
theorem RdAt.last{d M:MH}{u y:Addr}{L:List Qd}{I:Isl}{a b:Addr}{c:List Fer}(h:RdAt d M u y (L++[(I,a,b)]) c):
  (∀p,RdAt d (updM M a (.lst (I.prs.map prV++[prV p]))) u y (L++[(⟨I.name,I.prs++[p],I.stps⟩,a,b)]) c)/\∀s,RdAt d (updM M b (.lst (I.stps.map Stp.mv++[Stp.mv s]))) u y (L++[(⟨I.name,I.prs,I.stps++[s]⟩,a,b)]) c:=by
 have e:∀J:Isl,qA (L++[(J,a,b)])=qA L++[a,b]:=λJ=>by rw[_i9];rfl
 have N:∀J:Isl,J.name=I.name->(L++[(J,a,b)]).map qM=(L++[(I,a,b)]).map qM:=λJ h=>by simp[qM,h]
 have f:((u::y::qA L)++[a,b]).Nodup:=by have:=h.nd;rw[e]at this;exact this
 obtain⟨_,T,O⟩:=Y1t.mp f
 have R:a≠b:=by simpa using T
 have z:∀x∈u::y::qA L,x≠a:=λx l=>O x l a (by simp)
 have g:∀x∈u::y::qA L,x≠b:=λx l=>O x l b (by simp)
 have U:=h.fr a (Y04 _ (Y04 _ (by rw[e];simp)))
 have W:=h.fr b (Y04 _ (Y04 _ (by rw[e];simp)))
 obtain⟨Y,Z⟩:=h.hq (I,a,b) (by simp)
 refine⟨λp=>⟨h.s.upd U _,?_,?_,λq r=>?_,by rw[e];exact f,λx l=>h.fr x (by rw[e]at l ⊢;exact l)⟩,λs=>⟨h.s.upd W _,?_,?_,λq r=>?_,by rw[e];exact f,λx l=>h.fr x (by rw[e]at l ⊢;exact l)⟩⟩
 .rw[_06 (z u (by simp)),N ⟨I.name,I.prs++[p],I.stps⟩ rfl];exact h.hi
 .rw[_06 (z y (by simp))];exact h.hf
 .rcases Y0m.mp r with j|j
  .have m:=_ak j
   have o:=h.hq q (Y1S _ j)
   exact⟨(_06 (z _ (Y04 _ (Y04 _ m.1)))).trans o.1,(_06 (z _ (Y04 _ (Y04 _ m.2)))).trans o.2⟩
  .rw[Y0w.mp j]
   exact⟨by rw[_00,Y07];rfl,(_06 R.symm).trans Z⟩
 .rw[_06 (g u (by simp)),N ⟨I.name,I.prs,I.stps++[s]⟩ rfl];exact h.hi
 .rw[_06 (g y (by simp))];exact h.hf
 .rcases Y0m.mp r with j|j
  .have m:=_ak j
   have o:=h.hq q (Y1S _ j)
   exact⟨(_06 (g _ (Y04 _ (Y04 _ m.1)))).trans o.1,(_06 (g _ (Y04 _ (Y04 _ m.2)))).trans o.2⟩
  .rw[Y0w.mp j]
   exact⟨(_06 R).trans Y,by rw[_00,Y07];rfl⟩
theorem _dH{l:Type}{j:List l}{x:l}:atI (j++[x]) (-1)=some x:=by
 unfold atI ixN
 simp
 rw[if_pos (by lia),Option.bind_some,show(-1+((j.length:Int)+1)).toNat=j.length by lia]
 simp
theorem _kJ(s:Stp):∃x r,s.ws=x::r/\¬x="ferry"/\¬x="island"/\¬x="var":=by
 cases s<;>exact⟨_,_,rfl,by decide+kernel,by decide+kernel,by decide+kernel⟩
abbrev Z2m:SpM:=λf M Q=>∃(a z m:Addr) (r:Rw) (y:List Qd) (g:List Fer) (d:MH) (j:List Isl) (l:List Fer),f=[.ref a,.ref z,.ref m]/\d a=some (.lst (r.ws.map MV.str))/\RdAt d M z m y g/\r.fit/\r.to (y.map (·.1)) j g l/\y.length<=100/\g.length<=100/\(∀q∈y,q.1.prs.length<=100/\q.1.stps.length<=100)/\∀u c,RdAt d c z m u l->u.map (·.1)=j->Q .non c
theorem _4o:MonW Z2m:=by walk_at "m"
theorem _dc(T:Txt w K mg t):FnOk P w K mg base CX0 7 t.cU t.dv ["words","islands","ferries"] (liSp K Z2m):=by
 refine T.b5.F.okM _d5 (_0i (u:=[("read_ferry",Z2h),("read_pair",Z2T),("read_step",Z2S),("refuse_length",Z03)]) (_0k T) (_09 T) (_0j T) rfl (fMc ⟨_78,(fMc ⟨_8u,(fMc ⟨_8t,(fMc ⟨_0a,(fun _ h=>nomatch h)⟩)⟩)⟩)⟩) (fMc ⟨⟨_,_,_,(FnOk.mono (_ba T) (by decide)),T.b9.m,T.b9.F.kp,T.b9.b⟩,(fMc ⟨⟨_,_,_,(FnOk.mono (_c3 T) (by decide)),T.aO.m,T.aO.F.kp,T.aO.b⟩,(fMc ⟨⟨_,_,_,(FnOk.mono (_c2 T) (by decide)),T.aM.m,T.aM.F.kp,T.aM.b⟩,(fMc ⟨⟨_,_,_,(FnOk.mono (_0m T) (by decide)),T.aa.m,T.aa.F.kp,T.aa.b⟩,(fun _ h=>nomatch h)⟩)⟩)⟩)⟩):Fts P w K mg base 6 ZaO [("read_ferry",Z2h),("read_pair",Z2T),("read_step",Z2S),("refuse_length",Z03)]) Z69 _dB (fun o M Q h=>?_) (fun o M Q h=>?_)
 .obtain⟨_,_,_,_,_,_,_,_,_,rfl,_⟩:=h;rfl
 obtain⟨a,C,i,r,b,Fs,M0,Is',Fs',rfl,h0,g,D,Z,l1,l2,v,q⟩:=h
 have c:=g.s _ _ h0
 have A:=g.hi
 have B:=g.hf
 show wSs _ _ _ [some (.ref a),some (.ref C),some (.ref i)] M
 delta Z69 Z99
 cases r with
 |fer f=>
  have j:M a=some (.lst [.str "ferry",.str f.name,.str f.giver,.str f.taker,.str (tS f.k),.str (tS f.st)]):=c
  obtain⟨rfl,rfl⟩:=Z
  simp![j]
  delta Z98
  simp![B]
  refine⟨⟨_,rfl⟩,a,f,rfl,c,D,λM1 p=>?_⟩
  have N:=g.keep p
  have E:=N.hf
  simp![E]
  exact⟨by rw[Y01];lia,q b _ (N.addF f) rfl⟩
 |isl n=>
  have j:M a=some (.lst [.str "island",.str n]):=c
  obtain⟨rfl,rfl,rfl⟩:=Z
  simp![j]
  delta Z3J
  simp![B]
  delta Z3I
  simp![j]
  delta Z97
  simp!
  refine⟨a,_,2,rfl,c,rfl,?_⟩
  delta Z96
  simp![A,j]
  refine⟨⟨_,rfl⟩,λz O y R=>?_⟩
  have F:=SameM.new R (.lst []) _ _ (SameM.new O (.lst []) _ _ A)
  simp![F]
  refine⟨by rw[Y01];lia,q _ _ (g.addI n O R) (by rw[Y07];rfl)⟩
 |var x m=>
  have j:M a=some (.lst [.str "var",.str x,.str (tS (m:Int))]):=c
  obtain⟨rfl,rfl,L,I,e,G,rfl⟩:=Z
  obtain⟨L,U,rfl,rfl,W⟩:=Y3i.mp e
  obtain⟨⟨l,z,y⟩,rfl,rfl⟩:∃q:Qd,U=[q]/\q.1=I:=by
   cases U with
   |nil=>cases W
   |cons q r=>
    obtain⟨J,S⟩:=Y1x W
    exact⟨q,by rw[List.map_eq_nil_iff.mp S],J⟩
  have G:l.stps=[]:=G
  obtain⟨Y,d⟩:=g.hq (l,z,y) (by simp)
  have Y:M z=some (.lst (l.prs.map prV)):=Y
  have d:M y=some (.lst ([]:List MV)):=by have:=d;rw[show(l,z,y).1.stps=[]from G]at this;exact this
  have u:M C=some (.lst (L.map qM++[.tup [.str l.name,.ref z,.ref y]])):=by rw[A,Y07];rfl
  have X:=(v (l,z,y) (by simp)).1
  simp![j]
  delta Z3J
  simp![B]
  delta Z3I
  simp![j]
  delta Z68
  simp![u,Y0i,Y01,Y0e,Y1O]
  rw[if_neg (by lia),Z67]
  simp![j]
  delta Z7E
  simp![u,_dH,d]
  delta Z7D
  simp![u,_dH,Y]
  refine⟨⟨_,rfl⟩,a,x,m,rfl,j,D.2,λM1 p=>?_⟩
  have H:=p _ _ Y
  simp![H]
  have X:l.prs.length<=100:=X
  exact⟨by rw[Y01];lia,q _ _ ((g.keep p).last.1 (x,(m:Int))) (by rw[Y07];rfl)⟩
 |stp s=>
  obtain⟨x,r,hx,x1,x2,x3⟩:=_kJ s
  have j:M a=some (.lst (.str x::r.map MV.str)):=by rw[c,show(Rw.stp s).ws=s.ws from rfl,hx];rfl
  obtain⟨rfl,rfl,L,I,e,rfl⟩:=Z
  obtain⟨L,U,rfl,rfl,W⟩:=Y3i.mp e
  obtain⟨⟨l,z,y⟩,rfl,rfl⟩:∃q:Qd,U=[q]/\q.1=I:=by
   cases U with
   |nil=>cases W
   |cons q r=>
    obtain⟨J,S⟩:=Y1x W
    exact⟨q,by rw[List.map_eq_nil_iff.mp S],J⟩
  obtain⟨Y,d⟩:=g.hq (l,z,y) (by simp)
  have d:M y=some (.lst (l.stps.map Stp.mv)):=d
  have u:M C=some (.lst (L.map qM++[.tup [.str l.name,.ref z,.ref y]])):=by rw[A,Y07];rfl
  have X:l.stps.length<=100:=(v (l,z,y) (by simp)).2
  simp![j]
  rw[if_neg x1];delta Z3J
  simp![B]
  delta Z3I
  simp![j]
  rw[if_neg x2];delta Z68
  simp![u,Y0i,Y01,Y0e,Y1O]
  rw[if_neg (by lia),Z67]
  simp![j]
  rw[if_neg x3];delta Z7C
  simp![u,_dH,d]
  refine⟨⟨_,rfl⟩,a,s,rfl,c,D,λM1 p=>?_⟩
  have H:=p _ _ d
  simp![H]
  exact⟨by rw[Y01];lia,q _ _ ((g.keep p).last.2 s) (by rw[Y07];rfl)⟩
theorem GoodN.wd{z:Str}(h:GoodN z):Wd z:=GoodN.wd' h.1 h.2.1 h.2.2
theorem wd_lit:Wd "num"/\Wd "var"/\Wd "pick"/\Wd "take"/\Wd "give"/\Wd "put"/\Wd "jump"/\Wd "island"/\Wd "ferry"/\Wd "width":=by unfold Wd;decide+kernel
theorem _f1(f:Form):Wd f.str:=by cases f<;>(unfold Wd;decide+kernel)
theorem Tm.ws_wd:∀{T:Tm},T.fit->∀x∈T.ws,Wd x
 |.num n,h,x,j=>by
  have h:Small n:=h
  simp only[Tm.ws,Y06,Y0k,or_false]at j
  rcases j with rfl|rfl
  .exact wd_lit.1
  .exact h.wd
 |.var y,h,x,j=>by
  have h:GoodN y:=h
  simp only[Tm.ws,Y06,Y0k,or_false]at j
  rcases j with rfl|rfl
  .exact wd_lit.2.1
  .exact h.wd
 |.two f a b,h,x,j=>by
  simp only[Tm.ws,Y06,Y0m]at j
  rcases j with rfl|j|j
  .exact _f1 f
  .exact a.ws_wd h.1 x j
  .exact b.ws_wd h.2 x j
 |.pick c a b,h,x,j=>by
  simp only[Tm.ws,Y06,Y0m]at j
  rcases j with rfl|j|j|j
  .exact wd_lit.2.2.1
  .exact c.ws_wd h.1 x j
  .exact a.ws_wd h.2.1 x j
  .exact b.ws_wd h.2.2 x j
theorem Stp.row{s:Stp}(h:s.fit):RowFit s.ws:=by
 have l:=Stp.ws_len h
 have u:∀(a b:Str)(T:Tm),Wd a->Wd b->ZcT T->∀x∈a::b::T.ws,Wd x:=λa b T z m g x j=>by
  rcases Y06.mp j with rfl|j
  .exact z
  .rcases Y06.mp j with rfl|j
   .exact m
   .exact T.ws_wd g.2.2 x j
 refine⟨?_,by lia,?_⟩
 .cases s<;>simp[Stp.ws]
 .cases s with
  |take f y=>
   intro x j
   simp only[Stp.ws,Y06,Y0k,or_false]at j
   rcases j with rfl|rfl|rfl
   .exact wd_lit.2.2.2.1
   .exact h.1.wd
   .exact h.2.wd
  |give f T=>exact u _ _ T wd_lit.2.2.2.2.1 h.1.wd h.2
  |put y T=>exact u _ _ T wd_lit.2.2.2.2.2.1 h.1.wd h.2
  |jump T i=>exact u _ _ T wd_lit.2.2.2.2.2.2.1 (Small.wd (by have d:=h.2.1;have c:=h.2.2;unfold Small;lia)) h.1
def Tm.sm:Tm->Prop
 |.num n=>Small n
 |.var _=>True
 |.two _ a b=>a.sm/\b.sm
 |.pick c a b=>c.sm/\a.sm/\b.sm
theorem Tm.fit_of:∀{T:Tm},T.sm->(∀x∈T.reads,GoodN x)->T.fit
 |.num n,h,_=>h
 |.var x,_,h=>h x (by simp[Tm.reads])
 |.two f a b,h,g=>⟨a.fit_of h.1 λx j=>g x (by simp[Tm.reads,j]),b.fit_of h.2 λx j=>g x (by simp[Tm.reads,j])⟩
 |.pick c a b,h,g=>⟨c.fit_of h.1 λx j=>g x (by simp[Tm.reads,j]),a.fit_of h.2.1 λx j=>g x (by simp[Tm.reads,j]),b.fit_of h.2.2 λx j=>g x (by simp[Tm.reads,j])⟩
noncomputable def Stp.sm:Stp->Prop
 |.take _ _=>True
 |.give _ T=>T.sm
 |.put _ T=>T.sm
 |.jump T _=>T.sm
structure Wld.Fit (W:Wld):Prop where
 g:W.Good
 sm:∀I∈W.isl,∀s∈I.stps,s.sm
theorem Wld.Fit.stp{W:Wld}(h:W.Fit){I:Isl}(z:I∈W.isl){s:Stp}(m:s∈I.stps):s.fit:=by
 have l:=h.g.io I z
 have j:=l.st s m
 have sm:=h.sm I z s m
 have u:∀{T:Tm},TmIn I.vars T->T.sm->ZcT T:=fun{T} y g=>⟨y.1,y.2.1,T.fit_of g λx d=>l.gd x (y.2.2 x d)⟩
 have:=l.ns
 cases s with
 |take f x=>exact⟨h.g.fg f j.1,l.gd x j.2⟩
 |give f T=>exact⟨h.g.fg f j.1,u j.2 sm⟩
 |put x T=>exact⟨l.gd x j.1,u j.2 sm⟩
 |jump T i=>exact⟨u j.1 sm,j.2.1,by have:=j.2.2;lia⟩
theorem Wld.Fit.word{W:Wld}(h:W.Fit){I:Isl}(u:I∈W.isl){p:Str×Int}(j:p∈I.prs):GoodN p.1/\∃m:Nat,p.2=(m:Int)/\m<10^20:=by
 have l:=h.g.io I u
 obtain⟨y,g⟩:=l.wd p j
 obtain⟨m,z⟩:=Y26 y
 have:=_ib h.g.w2
 exact⟨l.gd p.1 (Y0h.mpr ⟨p,j,rfl⟩),m,z,by lia⟩
theorem Wld.Fit.isl{W:Wld}(h:W.Fit){I:Isl}(j:I∈W.isl):I.fit:=⟨(h.g.io I j).nv,(h.g.io I j).ns,λp l=>by
  obtain⟨_,m,u,z⟩:=h.word j l
  rw[u];unfold Small;lia,λs y=>h.stp j y⟩
theorem Wld.Fit.fer{W:Wld}(h:W.Fit){f:Fer}(l:f∈W.fer):f.fit:=by
 have j:=h.g.fo f l
 exact⟨h.g.fg _ (Y0h.mpr ⟨f,l,rfl⟩),h.g.ig _ j.g,h.g.ig _ j.t,j.k3,j.s3⟩
theorem _3l:∀{Is:List Isl},(∀I∈Is,I.rows.length<=19)->((Is.map Isl.rows).flatten).length<=19*Is.length
 |[],_=>by simp
 |I::r,hI=>by
  have:=hI I (by simp)
  have:=_3l (Is:=r) λJ j=>hI J (by simp[j])
  simp only[Y0a,Y2W,Y0i,Y0e];lia
theorem Wld.Fit.rows{W:Wld}(h:W.Fit):W.rows≠ []/\W.rows.length<=200/\∀r∈W.rows,RowFit r:=by
 refine⟨by simp[Wld.rows],?_,λr l=>?_⟩
 .have:=_3l (Is:=W.isl) λI u=>Isl.rows_len (h.isl u)
  have:=h.g.i5
  have:=h.g.f6
  simp only[Wld.rows,Y0e,Y0i,Y01];lia
 .have y:=h.g.w2
  simp only[Wld.rows,Y06,Y0m,List.mem_flatten,Y0h]at l
  rcases l with rfl|⟨_,⟨I,u,rfl⟩,l⟩|⟨f,z,rfl⟩
  .exact⟨by simp,by simp,λx j=>by
    simp only[Y06,Y0k,or_false]at j
    rcases j with rfl|rfl
    .exact wd_lit.2.2.2.2.2.2.2.2.2
    .exact Small.wd (by unfold Small;lia)⟩
  .simp only[Isl.rows,Y06,Y0m,Y0h]at l
   rcases l with rfl|⟨p,d,rfl⟩|⟨s,c,rfl⟩
   .exact⟨by simp,by simp,λx j=>by
     simp only[Y06,Y0k,or_false]at j
     rcases j with rfl|rfl
     .exact wd_lit.2.2.2.2.2.2.2.1
     .exact(h.g.ig _ (Y0h.mpr ⟨I,u,rfl⟩)).wd⟩
   .obtain⟨g,m,q,O⟩:=h.word u d
    exact⟨by simp,by simp,λx j=>by
     simp only[Y06,Y0k,or_false]at j
     rcases j with rfl|rfl|rfl
     .exact wd_lit.2.1
     .exact g.wd
     .exact Small.wd (by rw[q];unfold Small;lia)⟩
   .exact Stp.row (h.stp u c)
  .obtain⟨e,L,N,R,T⟩:=h.fer z
   exact⟨by simp[Fer.row],by simp[Fer.row],λx j=>by
    simp only[Fer.row,Y06,Y0k,or_false]at j
    rcases j with rfl|rfl|rfl|rfl|rfl|rfl
    .exact wd_lit.2.2.2.2.2.2.2.2.1
    .exact e.wd
    .exact L.wd
    .exact N.wd
    .exact Small.wd (by unfold Small;lia)
    .exact Small.wd (by unfold Small;lia)⟩
abbrev Z1i:SpM:=λl M Q=>∃W:Wld,l=[W.mv]/\W.Fit/\∀j,SameM M j->Q (.str (textT W.rows)) j
theorem _33:MonW Z1i:=by walk_at "m"
theorem Wld.rows_at(W:Wld)(i:Nat){I:Isl}(h:W.isl[i]?=some I):((W.isl.take (i+1)).map Isl.rows).flatten=((W.isl.take i).map Isl.rows).flatten++I.rows:=by
 rw[Y0K,h];simp
theorem _ex(T:Txt w K mg t):FnOk P w K mg base CX0 19 t.bT t.dU ["world"] (liSp K Z1i):=by
 refine T.aU.F.okM _ep (_0i (u:=[("island_rows",Z13)]) (_0k T) (_09 T) (_0j T) rfl (fMc ⟨_2W,(fun _ h=>nomatch h)⟩) (fMc ⟨⟨_,_,_,(FnOk.mono (_9X T) (by decide)),T.aZ.m,T.aZ.F.kp,T.aZ.b⟩,(fun _ h=>nomatch h)⟩):Fts P w K mg base 18 ZcU [("island_rows",Z13)]) Z7b _eP (fun H M Q h=>?_) (fun H M Q h=>?_)
 .obtain⟨_,rfl,_⟩:=h;rfl
 obtain⟨W,rfl,c,q⟩:=h
 have b:=(_61 (u:=[("island_rows",Z13)]) (fMc ⟨_2W,(fun _ h=>nomatch h)⟩))
 obtain⟨_,rl,rf⟩:=c.rows
 have i5:=c.g.i5
 have f6:=c.g.f6
 have w2:=c.g.w2
 have sw:Small (W.w:Int):=by unfold Small;lia
 show wSs _ _ _ [some W.mv,none,none,none] M
 delta Z7b Zav
 simp![Wld.mv]
 refine⟨sw.log,λf hp1 p o=>?_⟩
 have s1:=SameM.new hp1 (.lst [.str "width",.str (tS W.w)])
 have h1:updM M f (.lst [.str "width",.str (tS W.w)]) f=some (.lst [.str "width",.str (tS W.w)]):=_00
 generalize updM M f _=M1 at*
 have s2:=s1.trans (SameM.new o (.lst [.ref f]))
 have h2:=SameM.new o (.lst [.ref f]) _ _ h1
 have g2:updM M1 p (.lst [.ref f]) p=some (.lst [.ref f]):=_00
 have n0:M p=none:=s1.free o
 have n1:p≠f:=(neM h1 o).symm
 generalize updM M1 p _=M2 at*
 delta Zau
 simp!
 obtain⟨J,N⟩:∃J:List (List Str)->List (Option MV)->Sm->MH->Prop,∀rs H d y,J rs H d y↔∃l:List Addr,SameM M y/\y p=some (.lst (l.map MV.ref))/\p∉l/\RowsAt y l rs/\d=some (.tup [.int W.w,.tup (W.isl.map Isl.mv),.tup (W.fer.map Fer.mv)])::some (.ref p)::H:=⟨_,λ_ _ _ _=>Y1y⟩
 refine⟨fun i d y=>∃v,J (["width",tS W.w]::((W.isl.take i).map Isl.rows).flatten) [v,none] d y,⟨_,(N _ _ _ _).mpr ⟨[f],s2,g2,by simpa using n1,⟨rfl,fun j a r C e2=>?_⟩,rfl⟩⟩,fun _ _ _ _=>trivial,fun i x d y E ⟨v,L⟩=>?_,fun d y ⟨v,L⟩=>?_⟩
 .cases j with
  |zero=>cases C;cases e2;exact h2
  |succ j=>cases C
 .obtain⟨l,O,g,Z,m,rfl⟩:=(N _ _ _ _).mp L
  obtain⟨F,rfl⟩:=_0z E
  have A:=Y0j F
  have B:=m.1
  delta Zat
  simp![g]
  refine⟨⟨_,rfl⟩,W.isl[i],rfl,c.isl A,λp4 G M4 R np4 n4 g4 n=>?_⟩
  have g34:=R _ _ g
  have l4:=n.1
  have l5:=Isl.rows_len (c.isl A)
  have lb:=_3l (Is:=W.isl.take i) λI A=>Isl.rows_len (c.isl (List.mem_of_mem_take A))
  rw[Y0s]at lb
  rw[Y0e]at B
  simp![g34,g4]
  have S:p∉l++G:=λz=>by
   rcases Y0m.mp z with z|z
   .exact Z z
   .have:=n4 _ z;rw[g]at this;cases this
  refine⟨by rw[Y01,Y01];lia,_,(N _ _ _ _).mpr ⟨l++G,(O.trans R).upd n0 _,by rw[_00,Y07],S,?_,rfl⟩⟩
  rw[W.rows_at i (Y02 F)]
  exact((m.keep R).app n).off S _
 .obtain⟨l,O,g,Z,m,rfl⟩:=(N _ _ _ _).mp L
  have e:W.isl.take (Src.tup (W.isl.map Isl.mv)).len=W.isl:=by simp[Src.len]
  rw[e]at m
  delta Zas
  simp!
  refine⟨fun i d y=>∃v u,J (["width",tS W.w]::((W.isl.map Isl.rows).flatten++(W.fer.take i).map Fer.row)) [v,u] d y,⟨_,_,(N _ _ _ _).mpr ⟨l,O,g,Z,by simpa using m,rfl⟩⟩,fun _ _ _ _=>trivial,fun i x d y E ⟨v,u,L⟩=>?_,fun d y ⟨v,u,L⟩=>?_⟩
  .obtain⟨l,O,g,Z,m,rfl⟩:=(N _ _ _ _).mp L
   obtain⟨F,rfl⟩:=_0z E
   have hf:=c.fer (Y0j F)
   have k1:Small (W.fer[i].k:Int):=by have:=hf.2.2.2.1;unfold Small;lia
   have k2:Small (W.fer[i].st:Int):=by have:=hf.2.2.2.2;unfold Small;lia
   have lb:=_3l (Is:=W.isl) λI A=>Isl.rows_len (c.isl A)
   have B:=m.1
   rw[Y0e,Y0i,Y01,Y0s]at B
   delta Zar
   simp![g,Fer.mv]
   refine⟨⟨_,rfl⟩,k1.log,k2.log,λU X=>?_⟩
   have R:=SameM.new X (.lst (W.fer[i].row.map MV.str))
   have g4:=R _ _ g
   have h4:updM y U (.lst (W.fer[i].row.map MV.str)) U=some (.lst (W.fer[i].row.map MV.str)):=_00
   have n:=m.keep R
   have t4:=O.trans R
   have na:p≠U:=neM g X
   generalize Y:updM y U (.lst (W.fer[i].row.map MV.str))=M4 at*
   have Y:updM y U (.lst [.str "ferry",.str W.fer[i].name,.str W.fer[i].giver,.str W.fer[i].taker,.str (toString (W.fer[i].k:Int):String),.str (toString (W.fer[i].st:Int):String)])=M4:=Y
   rw[Y]
   simp![g4]
   have S:p∉l++[U]:=λz=>by
    rcases Y0m.mp z with z|z
    .exact Z z
    .exact na (Y0w.mp z)
   refine⟨by rw[Y01];lia,_,_,(N _ _ _ _).mpr ⟨l++[U],t4.upd n0 _,by rw[_00,Y07];rfl,S,?_,rfl⟩⟩
   rw[Y0K,Y02 F,Y1n,Y07,<-Y0x,<-Y0l]
   refine(n.app ⟨rfl,λj a r C e2=>?_⟩).off S _
   cases j with
   |zero=>cases C;cases e2;exact h4
   |succ j=>cases C
  .obtain⟨l,O,g,Z,m,rfl⟩:=(N _ _ _ _).mp L
   have e:W.fer.take (Src.tup (W.fer.map Fer.mv)).len=W.fer:=by simp[Src.len]
   rw[e]at m
   have m:RowsAt y l W.rows:=m
   have B:=m.1
   delta Zaq
   simp!
   refine _1b (l.zip W.rows) (λq=>.ref q.1) (λq=>.str (rowT q.2)) ?_ ?_ b λD hD=>?_
   .simp![g]
    refine⟨?_,by rw[Y1u];lia,g⟩
    have z:(l.zip W.rows).map Y3V=l:=Y38 (Y1L B)
    show l.map MV.ref=(l.zip W.rows).map (MV.ref ∘ Y3V)
    rw[<-Y0E,z]
   .intro x E M' s
    obtain⟨j,L,rfl⟩:=Y1g E
    rw[Y1u]at L
    have hr:=s _ _ (m.2 j _ _ (Y02 (show j<l.length by lia)) (Y02 (show j<W.rows.length by lia)))
    have fr:=rf W.rows[j] (Y0j (by lia))
    obtain⟨b1,b2⟩:=fr.len
    rw[Y3a]
    simp only[sCm,Y0a,Y0B,Y0l,Y0v]
    simp!
    exact⟨W.rows[j],hr,by lia,by unfold rowT at b2;lia,rfl⟩
   have z:((l.zip W.rows).map λq=>MV.str (rowT q.2))=(W.rows.map rowT).map MV.str:=by
    have z:(l.zip W.rows).map Prod.snd=W.rows:=Y39 (Y1L B.symm)
    show(l.zip W.rows).map ((MV.str ∘ rowT)∘ Prod.snd)=_
    rw[<-Y0E,z,<-Y0E]
   rw[z]
   obtain⟨b1,b2⟩:=rows_len rl rf
   simp!
   exact⟨_,rfl,by lia,by unfold textT at b2;lia,q _ (O.trans (SameM.new hD _))⟩
structure RdFit (Is:List Isl)(Fs:List Fer):Prop where
 a:Is.length<=100
 b:Fs.length<=100
 c:∀I∈Is,I.prs.length<=100/\I.stps.length<=100
inductive Rds (X:List Isl)(Y:List Fer):List Rw->List Isl->List Fer->Prop
 |nil:Rds X Y [] X Y
 |cons {r:Rw} {rs:List Rw} {Is Is':List Isl} {Fs Fs':List Fer}:RdFit Is Fs->r.fit->r.to Is Is' Fs Fs'->Rds X Y rs Is' Fs'->Rds X Y (r::rs) Is Fs
noncomputable def Isl.rws(I:Isl):List Rw:=.isl I.name::((I.prs.map λp=>.var p.1 p.2.toNat)++I.stps.map .stp)
def Wld.rws(W:Wld):List Rw:=W.isl.flatMap Isl.rws++W.fer.map .fer
theorem _fz{X:List Isl}{Y:List Fer}:∀{fs j:List Fer},(∀f∈fs,f.fit)->X.length<=100->(∀I∈X,I.prs.length<=100/\I.stps.length<=100)->j.length+fs.length<=100->Y=j++fs->Rds X Y (fs.map .fer) X j
 |[],j,_,_,_,_,e=>by rw[e,Y18];exact .nil
 |f::fs,j,h,h1,h2,h3,e=>by
  rw[Y0e]at h3
  refine .cons ⟨h1,by lia,h2⟩ (h f (Y0c ..)) ⟨rfl,rfl⟩ (_fz (λg l=>h g (Y04 _ l)) h1 h2 (by rw[Y0i,Y0T];lia) (by rw[e,Y0x];rfl))
theorem _fw{X:List Isl}{Y:List Fer}{rest:List Rw}{L:List Isl}{n:Str}{y:List (Str×Int)}(d:L.length<=50)(z:∀I∈L,I.prs.length<=100/\I.stps.length<=100)(m:y.length<=100):∀{l j:List Stp},(∀s∈l,s.fit)->j.length+l.length<=100->Rds X Y rest (L++[⟨n,y,j++l⟩]) []->Rds X Y (l.map .stp++rest) (L++[⟨n,y,j⟩]) []
 |[],j,_,_,k=>by rw[Y18]at k;exact k
 |s::l,j,h,h2,k=>by
  rw[Y0e]at h2
  refine .cons ⟨by rw[Y0i,Y0T];lia,by simp,λI u=>?_⟩ (h s (Y0c ..)) ⟨rfl,rfl,L,_,rfl,rfl⟩ (_fw d z m (j:=j++[s]) (λg c=>h g (Y04 _ c)) (by rw[Y0i,Y0T];lia) (by rw[Y0x];exact k))
  rcases Y0m.mp u with u|u
  .exact z I u
  .rw[Y0w.mp u];exact⟨m,by show j.length<=100;lia⟩
theorem _fv{X:List Isl}{Y:List Fer}{rest:List Rw}{L:List Isl}{n:Str}(d:L.length<=50)(z:∀I∈L,I.prs.length<=100/\I.stps.length<=100):∀{l j:List (Str×Int)},(∀p∈l,GoodN p.1/\∃m:Nat,p.2=(m:Int)/\m<10^20)->j.length+l.length<=100->Rds X Y rest (L++[⟨n,j++l,[]⟩]) []->Rds X Y ((l.map λp=>.var p.1 p.2.toNat)++rest) (L++[⟨n,j,[]⟩]) []
 |[],j,_,_,k=>by rw[Y18]at k;exact k
 |p::l,j,h,h2,k=>by
  rw[Y0e]at h2
  obtain⟨g,m,y,c⟩:=h p (Y0c ..)
  have e:p=(p.1,(p.2.toNat:Int)):=by rw[y,Y0V,<-y]
  refine .cons ⟨by rw[Y0i,Y0T];lia,by simp,λI u=>?_⟩ ⟨g,by rw[y];exact c⟩ ⟨rfl,rfl,L,_,rfl,rfl,rfl⟩ (_fv d z (j:=j++[(p.1,(p.2.toNat:Int))]) (λg f=>h g (Y04 _ f)) (by rw[Y0i,Y0T];lia) (by rw[<-e,Y0x];exact k))
  rcases Y0m.mp u with u|u
  .exact z I u
  .rw[Y0w.mp u];exact⟨by show j.length<=100;lia,by simp⟩
theorem _fy{W:Wld}(h:W.Fit){X:List Isl}{Y:List Fer}{rest:List Rw}:∀{Is L:List Isl},(∀I∈Is,I∈W.isl)->(∀I∈L,I∈W.isl)->L.length+Is.length<=5->Rds X Y rest (L++Is) []->Rds X Y (Is.flatMap Isl.rws++rest) L []
 |[],L,_,_,_,k=>by rw[Y18]at k;exact k
 |I::Is,L,hI,hL,l,k=>by
  rw[Y0e]at l
  have m:=hI I (Y0c ..)
  have f:=h.isl m
  have u:∀I∈L,I.prs.length<=100/\I.stps.length<=100:=λJ j=>by
   have:=h.isl (hL J j)
   exact⟨Y0S this.1 (by decide),Y0S this.2.1 (by decide)⟩
  have g:=f.1
  have d:=f.2.1
  rw[List.flatMap_cons,Isl.rws,Y0l,Y0l,Y0x,Y0x]
  refine .cons ⟨by lia,by simp,u⟩ (h.g.ig _ (Y0h.mpr ⟨I,m,rfl⟩)) ⟨rfl,rfl,rfl⟩ (_fv (by lia) u (j:=[]) (λp y=>h.word m y) (by simp;lia) (_fw (by lia) u (by simp;lia) (j:=[]) (λs z=>h.stp m z) (by simp;lia) ?_))
  exact _fy h (L:=L++[I]) (λJ j=>hI J (Y04 _ j)) (λJ j=>by
   rcases Y0m.mp j with j|j
   .exact hL J j
   .rw[Y0w.mp j];exact m) (by rw[Y0i,Y0T];lia) (by rw[Y0x];exact k)
theorem Wld.Fit.rds{W:Wld}(h:W.Fit):Rds W.isl W.fer W.rws [] []:=by
 have l:=h.g.i5
 have y:=h.g.f6
 refine _fy h (λI j=>j) (λI j=>nomatch j) (by simpa using l) ?_
 exact _fz (j:=[]) (λf u=>h.fer u) (by show W.isl.length<=100;lia) (λI j=>by
  have:=h.isl (show I∈W.isl from j)
  exact⟨Y0S this.1 (by decide),Y0S this.2.1 (by decide)⟩) (by simp;lia) rfl
theorem Wld.Fit.rws_ws{W:Wld}(h:W.Fit):W.rows=(["width",tS W.w]:List Str)::W.rws.map Rw.ws:=by
 have one:∀I∈W.isl,I.rows=I.rws.map Rw.ws:=λI j=>by
  unfold Isl.rows Isl.rws
  rw[Y0a,Y07,Y0E,Y0E]
  have e:(I.prs.map fun p=>(["var",p.1,tS p.2]:List Str))=I.prs.map (Rw.ws ∘ fun p=>.var p.1 p.2.toNat):=Y1v fun p l=>by
   obtain⟨_,m,u,_⟩:=h.word j l
   show(["var",p.1,tS p.2]:List Str)=(["var",p.1,tS (p.2.toNat:Int)]:List Str)
   rw[u];rfl
  rw[e];rfl
 unfold Wld.rows Wld.rws
 rw[Y07,Y0E,List.map_flatMap]
 have e:(W.isl.map Isl.rows).flatten=W.isl.flatMap λI=>I.rws.map Rw.ws:=by
  rw[List.flatMap_def,Y1v one]
 rw[e];rfl
theorem _mb{x:Str}(j:List Str){M:MH}{a:Addr}{q:Bool->Prop}(l:M a=some (.lst (j.map MV.str)))(h:q (decide (x∈j))):wIn (.str x) (.ref a) M q:=.inl ⟨_,l,rfl,_6S j,by rw[_bh];exact h⟩
abbrev Z5V:SpM:=λl M Q=>∃W:Wld,l=[.str (textT W.rows)]/\W.Fit/\∀j,SameM M j->Q W.mv j
theorem _60:MonW Z5V:=by walk_at "m"
theorem _js(T:Txt w K mg t):FnOk P w K mg base CX0 57 t.cx t.bv ["text"] (liSp K Z5V):=by
 refine T.aQ.F.okM _iU (_0i (u:=[("made",Z31),("read_row",Z2m),("read_width",Z1m)]) (_0k T) (_09 T) (_0j T) rfl (fMc ⟨_2z,(fMc ⟨_4o,(fMc ⟨_3o,(fun _ h=>nomatch h)⟩)⟩)⟩) (fMc ⟨⟨_,_,_,(FnOk.mono (_fK T) (by decide)),T.aB.m,T.aB.F.kp,T.aB.b⟩,(fMc ⟨⟨_,_,_,(FnOk.mono (_dc T) (by decide)),T.b5.m,T.b5.F.kp,T.b5.b⟩,(fMc ⟨⟨_,_,_,(FnOk.mono (_b9 T) (by decide)),T.aN.m,T.aN.F.kp,T.aN.b⟩,(fun _ h=>nomatch h)⟩)⟩)⟩):Fts P w K mg base 56 ZiH [("made",Z31),("read_row",Z2m),("read_width",Z1m)]) Zdr _kg (fun vs M Q h=>?_) (fun vs M Q h=>?_)
 .obtain⟨_,rfl,_⟩:=h;rfl
 obtain⟨W,rfl,n,q⟩:=h
 have hΦ:=(_61 (u:=[("made",Z31),("read_row",Z2m),("read_width",Z1m)]) (fMc ⟨_2z,(fMc ⟨_4o,(fMc ⟨_3o,(fun _ h=>nomatch h)⟩)⟩)⟩))
 obtain⟨rne,rl,b⟩:=n.rows
 obtain⟨_,tl⟩:=rows_len rl b
 have tb:=_fp rne b
 have L:=n.rws_ws
 have w2:=n.g.w2
 show wSs _ _ _ [some (.str (textT W.rows)),none,none,none,none,none] M
 generalize textT W.rows=tx at*
 delta Zdr Zgd
 simp!
 refine _9y W.rows (λr=>.str (rowT r)) (λr=>r) ?_ ?_ hΦ λD as M1 hD s1 n1 nD F d1=>?_
 .simp!
  refine⟨by decide+kernel,by lia,λp hp=>⟨?_,by lia,_00,SameM.new hp _⟩⟩
  show(Txt.split tx "\n").map MV.str=_
  rw[tb,Y0E];rfl
 .intro x c M' s
  obtain⟨_,b2⟩:=(b x c).len
  have sb:=(b x c).back
  simp only[sCm,Y0a,Y0B,Y0l,Y0v]
  simp!
  exact⟨by decide+kernel,by lia,λp hp=>⟨hp,SameM.new hp _,by rw[sb]⟩⟩
 rw[Y2F]at F
 have l1:=F.1
 delta Zgc
 simp![d1]
 refine⟨λ_ f M2=>M2=M1/\∃v,f=[some (.str tx),some (.ref D),v,none,none,none],⟨rfl,_,rfl⟩,λi f M2 ⟨e,_⟩=>by rw[e];exact d1,λi x f M2 c ⟨e,v,e'⟩=>?_,λf M2 ⟨e,v,e'⟩=>?_⟩
 .subst e e'
  obtain⟨hi,rfl⟩:=_0z c
  have d:i<W.rows.length:=by lia
  have O:=F.2 i _ _ (Y02 hi) (Y02 d)
  delta Zgb
  simp!
  refine _mb W.rows[i] O ?_
  rw[decide_eq_false λz=>by have:=((b _ (Y0j d)).w _ z).1;exact absurd this (by decide+kernel),if_neg (by decide)]
  exact⟨_,rfl⟩
 subst e e'
 obtain⟨Z,l,eas⟩:∃Z l,as=Z::l:=by
  cases as with
  |nil=>rw[L]at l1;cases l1
  |cons a r=>exact⟨a,r,rfl⟩
 subst eas
 have h0:=F.2 0 Z (["width",tS W.w]:List Str) rfl (by rw[L];rfl)
 have h0:M2 Z=some (.lst [.str "width",.str (tS W.w)]):=h0
 have d1':M2 D=some (.lst (.ref Z::l.map MV.ref)):=d1
 delta Zga
 simp![d1']
 refine⟨Z,W.w,rfl,h0,by lia,λM3 A=>?_⟩
 delta Zg9
 simp!
 intro m B
 delta Zg8
 simp!
 intro g N
 have s4:=SameM.new B (.lst [])
 have i4:updM M3 m (.lst []) m=some (.lst ([]:List MV)):=_00
 generalize updM M3 m _=M4 at*
 have s5:=SameM.new N (.lst [])
 have f5:updM M4 g (.lst []) g=some (.lst ([]:List MV)):=_00
 have i5:=s5 _ _ i4
 generalize updM M4 g _=M5 at*
 have d5:=s5 _ _ (s4 _ _ (A _ _ d1'))
 delta Zg7
 simp![d5]
 intro G C
 have ec:cutM (MV.ref Z::l.map MV.ref) (some 1) none=l.map MV.ref:=_2l _ 1
 rw[ec]
 have s6:=SameM.new C (.lst (l.map MV.ref))
 have p6:updM M5 G (.lst (l.map MV.ref)) G=some (.lst (l.map MV.ref)):=_00
 have i6:=s6 _ _ i5
 have f6:=s6 _ _ f5
 generalize updM M5 G _=M6 at*
 have t6:SameM M M6:=((((s1.trans A).trans s4).trans s5).trans s6)
 have npi:M m=none:=(s1.trans A).free B
 have npf:M g=none:=((s1.trans A).trans s4).free N
 have ipf:m≠g:=neM i4 N
 have psi:G≠m:=(neM i5 C).symm
 have psf:G≠g:=(neM f5 C).symm
 simp![p6]
 obtain⟨R,E⟩:∃R:MH,∀x,R x=if x=m\/x=g then none else M6 x:=⟨_,λ_=>rfl⟩
 have z1:∀{x},x≠m->x≠g->R x=M6 x:=λh1 h2=>by rw[E,if_neg (λz=>z.elim h1 h2)]
 have z0:SameM R M6:=λx o e=>by
  rw[E]at e
  split at e
  .cases e
  .exact e
 have zM:SameM M R:=λx o e=>(z1 (neM e npi) (neM e npf)).trans (t6 _ _ e)
 have u:RowsAt R l (W.rws.map Rw.ws):=by
  have r6:=F.keep (((A.trans s4).trans s5).trans s6)
  rw[L]at r6
  refine⟨by have:=r6.1;simpa using this,λj a r e1 S=>?_⟩
  have lv:=F.2 (j+1) a r e1 (by rw[L];exact S)
  have na:a≠m:=neM (A _ _ lv) B
  have nb:a≠g:=neM (s4 _ _ (A _ _ lv)) N
  rw[z1 na nb]
  exact r6.2 (j+1) a r e1 S
 obtain⟨J,hJ⟩:∃J:Nat->Sm->MH->Prop,∀i f M2,J i f M2↔∃(v:Option MV) (U:List Qd) (X:List Fer),RdAt R M2 m g U X/\Rds W.isl W.fer (W.rws.drop i) (U.map (·.1)) X/\f=[some (.str tx),some (.ref D),v,some (.int W.w),some (.ref m),some (.ref g)]:=⟨_,λ_ _ _=>Y1y⟩
 refine⟨J,(hJ _ _ _).mpr ⟨_,[],[],⟨z0,i6,f6,λq H=>(nomatch H),by simpa [qA]using ipf,λx c=>?_⟩,n.rds,rfl⟩,λi f M7 hj=>?_,λi x f M7 c hj=>?_,λf M7 hj=>?_⟩
 .have c:x∈ [m,g]:=c
  rw[E,if_pos (by simpa using c)]
 .obtain⟨v,U,X,Y,_,_⟩:=(hJ _ _ _).mp hj
  exact Y.s _ _ ((z1 psi psf).trans p6)
 .obtain⟨v,U,X,Y,O,rfl⟩:=(hJ _ _ _).mp hj
  obtain⟨hi,rfl⟩:=_0z c
  have d:i<W.rws.length:=by have:=u.1;rw[Y01]at this;lia
  have ha:=u.2 i _ _ (Y02 hi) (by rw[Y08,Y02 d];rfl)
  rw[Y1U d]at O
  cases O with
  |cons fit rfit to rest=>
   delta Zg6
   simp!
   refine⟨_,m,g,_,U,X,R,_,_,rfl,ha,Y,rfit,to,by have:=fit.a;simpa using this,fit.b,λq H=>fit.c q.1 (Y0h.mpr ⟨q,H,rfl⟩),λqs' M' hR' e=>?_⟩
   exact(hJ _ _ _).mpr ⟨_,qs',_,hR',by rw[e];exact rest,rfl⟩
 .obtain⟨v,U,X,Y,O,rfl⟩:=(hJ _ _ _).mp hj
  have e:W.rws.drop (Src.lst G (l.map MV.ref)).len=[]:=Y29 (by have:=u.1;rw[Y01]at this;simp[Src.len];lia)
  rw[e]at O
  generalize H:U.map (·.1)=Is at O
  cases O
  delta Zg5
  simp!
  refine⟨m,g,U.map qM,W,rfl,Y.hi,⟨by rw[<-H,Y01,Y01],λi I y e1 S=>?_⟩,Y.hf,n.g,λM' s=>q M' ((zM.trans Y.s).trans s)⟩
  rw[<-H,Y08]at e1
  rw[Y08]at S
  obtain⟨q1,h1,rfl⟩:=Y1G.mp e1
  rw[h1]at S
  cases S
  have:=Y.hq q1 (Y0G h1)
  exact⟨_,_,rfl,this.1,this.2⟩
noncomputable abbrev Z0v:SpM:=λl M Q=>∃(j:List Int) (k:Nat),l=[.frl (j.map .int),.int k]/\Q (.int (j.getD k 0)) M
theorem _2A:MonW Z0v:=by walk_at "m"
theorem _8X(T:Txt w K mg t):FnOk P w K mg base CX0 1 t.bH t.cW ["script","k"] (liSp K Z0v):=by
 refine T.aE.F.okM _8O (_0i (u:=[]) (_0k T) (_09 T) (_0j T) rfl (λ_ h=>nomatch h) (λ_ h=>nomatch h):Fts P w K mg base 0 Z5T []) Z2L _9C (λu M Q h=>?_) (λu M Q h=>?_)
 .obtain⟨j,k,rfl,_⟩:=h;rfl
 obtain⟨j,k,rfl,q⟩:=h
 show wSs _ _ _ [some (.frl (j.map .int)),some (.int k)] M
 delta Z2L Z4W
 simp!
 refine _63 (λc=>?_) (λc=>?_)
 .rw[Y01]at c
  have l:k<j.length:=by lia
  delta Z4V
  simp!
  have e:j.getD k 0=j[k]:=by simp[Y0N,l]
  rw[e]at q
  exact⟨_,_0A (by rw[Y08,Y02 l];rfl),q⟩
 .rw[Y01]at c
  have e:j.getD k 0=0:=by simp[Y0N,Y2K.mpr (show j.length<=k by lia)]
  rw[e]at q
  delta Z4U
  simp!
  exact q
noncomputable abbrev PM:Int:=2305843009213693951
abbrev Z0e:SpM:=λu M Q=>∃(c:Int) (m:Nat),u=[.int c,.int m]/\m<=100/\∀p (j:List Int)l,SameM M l->M p=none->l p=some (.lst (j.map MV.int))->j.length=m->(∀x∈j,0<=x/\x<PM)->Q (.ref p) l
theorem _0R:MonW Z0e:=by walk_at "m"
theorem _5d(T:Txt w K mg t):FnOk P w K mg base CX0 1 t.dq t.bQ ["cell","many"] (liSp K Z0e):=by
 refine T.aj.F.okM _9T (_0i (u:=[]) (_0k T) (_09 T) (_0j T) rfl (λ_ h=>nomatch h) (λ_ h=>nomatch h):Fts P w K mg base 0 Z72 []) Z3b _af (λW M Q h=>?_) (λW M Q h=>?_)
 .obtain⟨c,m,rfl,_⟩:=h;rfl
 obtain⟨c,m,rfl,G,q⟩:=h
 show wSs _ _ _ [some (.int c),some (.int m),none,none,none] M
 delta Z3b Z5H
 simp!
 intro p O
 have Y:=SameM.new O (.lst [])
 have Z:updM M p (.lst []) p=some (.lst []):=_00
 generalize updM M p _=M0 at*
 delta Z5G
 simp!
 delta Z5F
 simp!
 obtain⟨J,r⟩:∃J:Nat->Sm->MH->Prop,∀j d z,J j d z↔SameM M z/\(∃(l:List Int) (x:Int),l.length=j/\(∀y∈l,0<=y/\y<PM)/\0<=x/\x<PM/\z p=some (.lst (l.map MV.int))/\∃v,d=[some (.int c),some (.int m),some (.ref p),some (.int x),v]):=⟨_,λ_ _ _=>Y1y⟩
 refine⟨by lia,by lia,J,(r _ _ _).mpr ⟨Y,[],c%PM,rfl,λ_ h=>(nomatch h),by lia,by lia,Z,_,rfl⟩,λj d z h=>trivial,?_,?_⟩
 .rintro j y d z u h
  obtain⟨s,l,x,e,L,A,B,hd,v,rfl⟩:=(r _ _ _).mp h
  obtain⟨C,rfl⟩:=_6l u
  delta Z5E
  simp!
  refine⟨.inl ⟨by lia,by lia⟩,?_⟩
  obtain⟨g,N,R,U⟩:∃g:Int,(x*x+48271*x+(0+(j:Int))+1)%PM=g/\0<=g/\g<PM:=⟨_,rfl,Y19 _ (by decide),Y0Y _ (by decide)⟩
  rw[N];delta Z5D
  simp![hd,Y01]
  refine⟨⟨_,rfl⟩,by simp at C;lia,?_⟩
  refine(r _ _ _).mpr ⟨s.upd O _,l++[g],g,by simp[e],λy u=>?_,R,U,?_,_,rfl⟩
  .rcases Y0m.mp u with u|u
   .exact L y u
   .rw[Y0w.mp u];exact⟨R,U⟩
  .rw[_00,Y07];rfl
 .rintro d z h
  obtain⟨s,l,x,e,L,A,B,hd,v,rfl⟩:=(r _ _ _).mp h
  have D:(Src.rng 0 ((m:Int)+3).toNat).len=m+3:=by show((m:Int)+3).toNat=_;lia
  rw[D]at e
  delta Z5C
  simp![hd]
  intro E f
  have F:cutM (l.map MV.int) (some 3) none=(l.drop 3).map MV.int:=by
   have:=_2l (l.map MV.int) 3
   rw[List.map_drop];exact this
  rw[F]
  exact q E (l.drop 3) _ (s.trans (SameM.new f _)) (s.free f) _00 (by rw[Y1a];lia) λy u=>L y (List.mem_of_mem_drop u)
abbrev Z1J:SpM:=λj M Q=>∃(n:Int) (w:Nat),j=[.int n,.int w]/\0<=n/\n<PM/\1<=w/\w<=64/\∀v,0<=v->v<2^w->Q (.int v) M
theorem _3X:MonW Z1J:=by walk_at "m"
theorem _c6(T:Txt w K mg t):FnOk P w K mg base CX0 1 t.cC t.dg ["number","width"] (liSp K Z1J):=by
 refine T.aJ.F.okM _bP (_0i (u:=[]) (_0k T) (_09 T) (_0j T) rfl (λ_ h=>nomatch h) (λ_ h=>nomatch h):Fts P w K mg base 0 Z9I []) Z4E _cC (λj M Q h=>?_) (λj M Q h=>?_)
 .obtain⟨_,_,rfl,_⟩:=h;rfl
 obtain⟨n,w,rfl,m,g,l,u,q⟩:=h
 show wSs _ _ _ [some (.int n),some (.int w),none] M
 delta Z4E Z7S
 simp!
 have y:(1:Int)*2^((w:Nat):Int).toNat=2^w:=by rw[Y0V,Int.one_mul]
 have d:=_jc l
 have z:=_ib u
 rw[y]
 generalize(2:Int)^w=pw at*
 refine⟨⟨by lia,by lia⟩,?_⟩
 delta Z7R
 simp!
 refine _63 (λ_=>?_) (λ_=>?_)
 .delta Z7Q
  simp!
  exact q _ (by lia) (by lia)
 .delta Z7P
  simp!
  refine _63 (λ_=>?_) (λ_=>?_)
  .delta Z7O
   simp!
   exact q _ (by lia) (by lia)
  .delta Z7N
   simp!
   rw[show pw - 1+1=pw by lia]
   exact⟨by lia,q _ (Y19 _ (by lia)) (Y0Y _ (by lia))⟩
abbrev Z0L:SpM:=λl M Q=>∃n:Int,l=[.int n]/\∀(w:Nat)j,SameM M j->1<=w->w<=64->Q (.int w) j
theorem _3q:MonW Z0L:=by walk_at "m"
theorem _bc(T:Txt w K mg t):FnOk P w K mg base CX0 1 t.cE t.c6 ["number"] (liSp K Z0L):=by
 refine T.b7.F.okM _b6 (_0i (u:=[]) (_0k T) (_09 T) (_0j T) rfl (λ_ h=>nomatch h) (λ_ h=>nomatch h):Fts P w K mg base 0 Z8m []) Z3Q _bv (λu M Q h=>?_) (λu M Q h=>?_)
 .obtain⟨_,rfl,_⟩:=h;rfl
 obtain⟨n,rfl,q⟩:=h
 show wSs _ _ _ [some (.int n)] M
 delta Z3Q Z6R
 simp!
 intro p y
 have s:=λo=>SameM.new y o
 have j:∀(v:Int)l,SameM M l->1<=v->v<=64->Q (.int v) l:=λv l s z m=>by
  obtain⟨k,rfl⟩:=Y26 (show 0<=v by lia)
  exact q k l s (by lia) (by lia)
 rcases(show n%4=0\/n%4=1\/n%4=2\/n%4=3 by lia)with e|e|e|e<;>rw[e]
 .exact⟨_,at0,j _ _ (s _) (by lia) (by lia)⟩
 .exact⟨_,at1,j _ _ (s _) (by lia) (by lia)⟩
 .exact⟨_,at2,j _ _ (s _) (by lia) (by lia)⟩
 .exact⟨_,at3,j _ _ (s _) (by lia) (by lia)⟩
noncomputable def alph:Str:="abcdefghijklmnopqrstuvwxyz"
theorem _gR:alph.length<=16777216:=by decide+kernel
theorem _kt:alph.cps.toList=(Y0A 26).map (97+·):=by decide+kernel
theorem _ku{i:Int}(l:0<=i)(h1:i<26):atI alph.cps.toList i=some (97+i.toNat):=by
 have u:i.toNat<26:=by lia
 have:=_0A (l:=alph.cps.toList) (j:=i.toNat) (v:=97+i.toNat) (by rw[_kt,Y08,Y2v u];rfl)
 rwa [Int.toNat_of_nonneg l]at this
theorem _eb(c:Nat):∀(k:Nat)(j:Array Nat),((Y1C k #[c]).foldl (·++·) j).toList=j.toList++Y1C k c
 |0,j=>by simp
 |k+1,j=>by
  rw[Y1V,Y2u,_eb c k,Y2t,Y0x,Y1V];rfl
theorem mul_one(c:Nat)(i:Int):(Txt.mul (⟨#[c]⟩:Str) i).cps.toList=Y1C i.toNat c:=by
 unfold Txt.mul
 by_cases h:i<1
 .rw[if_pos h]
  have:i.toNat=0:=by lia
  rw[this];rfl
 rw[if_neg h]
 by_cases h2:(i==1||(⟨#[c]⟩:Str).length==0)=true
 .rw[if_pos h2]
  rcases(Bool.or_eq_true _ _).mp h2 with e|e
  .have:i=1:=by simpa using e
   subst this;rfl
  .have:(⟨#[c]⟩:Str).length=0:=by simpa using e
   cases this
 .rw[if_neg h2]
  show((Y1C i.toNat #[c]).foldl (·++·) #[]).toList=_
  rw[_eb];rfl
noncomputable def nmT(c k:Int):Str:=Txt.mul ⟨#[97+((c+7*k)%26).toNat]⟩ (1+(c/26+k)%8)
theorem _fN(c k:Int):(nmT c k).cps.toList=Y1C (1+(c/26+k)%8).toNat (97+((c+7*k)%26).toNat):=mul_one _ _
theorem _dg(c k:Int):GoodN (nmT c k):=by
 have l:=_62 (nmT c k)
 rw[_fN,Y2f]at l
 refine⟨by lia,by lia,λx j=>?_⟩
 rw[_fN]at j
 rw[List.eq_of_mem_replicate j]
 lia
theorem _ca{c k j:Int}(y:-25<=k - j)(h1:k - j<=25)(e:nmT c k=nmT c j):k=j:=by
 have e:=congrArg (λs:Str=>s.cps.toList.head?) e
 have e:(nmT c k).cps.toList.head?=(nmT c j).cps.toList.head?:=e
 rw[_fN,_fN]at e
 obtain⟨a,l⟩:∃a,(1+(c/26+k)%8).toNat=a+1:=⟨(1+(c/26+k)%8).toNat - 1,by lia⟩
 obtain⟨b,u⟩:∃b,(1+(c/26+j)%8).toNat=b+1:=⟨(1+(c/26+j)%8).toNat - 1,by lia⟩
 rw[l,u,Y1V,Y1V]at e
 have e:=Y0z e
 lia
abbrev Z0r:SpM:=λj M Q=>∃c k:Int,j=[.int c,.int k]/\Q (.str (nmT c k)) M
theorem _1d:MonW Z0r:=by walk_at "m"
theorem _7p(T:Txt w K mg t):FnOk P w K mg base CX0 1 t.c8 t.dM ["cell","k"] (liSp K Z0r):=by
 refine T.aA.F.okM _bT (_0i (u:=[]) (_0k T) (_09 T) (_0j T) rfl (λ_ h=>nomatch h) (λ_ h=>nomatch h):Fts P w K mg base 0 Z9M []) Z4I _cG (λj M Q h=>?_) (λj M Q h=>?_)
 .obtain⟨_,_,rfl,_⟩:=h;rfl
 obtain⟨c,k,rfl,q⟩:=h
 show wSs _ _ _ [some (.int c),some (.int k)] M
 delta Z4I Z8d
 simp!
 have l:=_62 (nmT c k)
 rw[_fN,Y2f]at l
 refine⟨_gR,_,_ku (by lia) (by lia),?_⟩
 exact⟨by show 1<=16;decide,by lia,by lia,q⟩
theorem _iF{l:List (Str×Int)}{i:Int}(y:0<=i)(h1:i<l.length):∃z∈l,atI (l.map prV) i=some (prV z):=by
 have u:i.toNat<l.length:=by lia
 refine⟨l[i.toNat],Y0j u,?_⟩
 have:=_0A (l:=l.map prV) (j:=i.toNat) (v:=prV l[i.toNat]) (by rw[Y08,Y02 u];rfl)
 rwa [Int.toNat_of_nonneg y]at this
theorem _hN{i:Int}(l:2<=i)(h1:i<8):(i=2/\atI [MV.str "",.str "",.str "pick",.str "minus",.str "times",.str "less",.str "same",.str "plus"] i=some (.str "pick"))\/∃f:Form,atI [MV.str "",.str "",.str "pick",.str "minus",.str "times",.str "less",.str "same",.str "plus"] i=some (.str f.str):=by
 rcases(show i=2\/i=3\/i=4\/i=5\/i=6\/i=7 by lia)with rfl|rfl|rfl|rfl|rfl|rfl
 .exact .inl ⟨rfl,_0A (j:=2) rfl⟩
 .exact .inr ⟨.minus,_0A (j:=3) rfl⟩
 .exact .inr ⟨.times,_0A (j:=4) rfl⟩
 .exact .inr ⟨.less,_0A (j:=5) rfl⟩
 .exact .inr ⟨.same,_0A (j:=6) rfl⟩
 .exact .inr ⟨.plus,_0A (j:=7) rfl⟩
abbrev Z0b(N:Nat):SpM:=λu M Q=>∃(n:Int) (a:Addr) (j:List (Str×Int)) (k:Nat),u=[.int n,.int k,.ref a]/\k<N/\k<=2/\0<=n/\n<PM/\M a=some (.lst (j.map prV))/\j.length<=6/\
 ∀(U:Tm)l,SameM M l->U.depth<=k+1->2*U.size+1<=3^(k+1)->U.sm->(∀x∈U.reads,x∈j.map (·.1))->Q U.mv l
theorem _23(n:Nat):MonW (Z0b n):=by walk_at "m"
theorem _7o(T:Txt w K mg t):∀N:Nat,FnOk P w K mg base CX0 (N+8) t.cJ t.cI ["number","deep","own"] (liSp K (Z0b N))
 |0=>by
  have X:∀L M Q,¬Z0b 0 L M Q:=λL M Q h=>by
   obtain⟨_,_,_,k,_,h0,_⟩:=h
   lia
  exact⟨λL H Q E ⟨ms,M,r,rh,h⟩=>absurd h (X _ _ _),λA B s H o us L Q E _ _ _ _ ⟨ms,M,r,rh,h⟩=>absurd h (X _ _ _)⟩
 |N+1=>by
  have ih:=_7o T N
  refine T.ar.F.okM _bQ (_0i (u:=[("_law_term",(Z0b N))]) (_0k T) (_09 T) (_0j T) rfl (fMc ⟨(_23 _),(fun _ h=>nomatch h)⟩) (fMc ⟨⟨_,_,_,ih,T.ar.m,T.ar.F.kp,T.ar.b⟩,(fun _ h=>nomatch h)⟩):Fts P w K mg base (N+8) Z9J [("_law_term",(Z0b N))]) Z4F _cD (fun L M Q h=>?_) (fun L M Q h=>?_)
  .obtain⟨_,_,_,_,rfl,_⟩:=h;rfl
  obtain⟨n,a,g,k,rfl,hk,k2,n0,n1,b,C,q⟩:=h
  show wSs _ _ _ [some (.int n),some (.int k),some (.ref a),none,none,none] M
  have O:1<=3^k:=Nat.one_le_pow _ _ (by decide)
  have p4:3^(k+1)=3*3^k:=by rw[Nat.pow_succ,Nat.mul_comm]
  have leaf:∀D:EndM,D.rt=Q->wSs [("_law_term",Z0b N)] Z4P D [some (.int n),some (.int k),some (.ref a),none,none,none] M:=by
   rintro D hD
   delta Z4P
   simp!
   refine⟨.inl ⟨by lia,by lia⟩,λp F=>?_⟩
   have d:=SameM.new F (.lst [MV.int (n/64%4),.int (n/64%100000000000000000000),.int (-1 - n/64%4),.int (-1 - n*n%99999999999999999999)])
   have g1:updM M p (.lst [MV.int (n/64%4),.int (n/64%100000000000000000000),.int (-1 - n/64%4),.int (-1 - n*n%99999999999999999999)]) p=some (.lst [MV.int (n/64%4),.int (n/64%100000000000000000000),.int (-1 - n/64%4),.int (-1 - n*n%99999999999999999999)]):=_00
   generalize updM M p _=M1 at*
   have R:=d _ _ b
   have U:∀M2,SameM M1 M2->wSs [("_law_term",Z0b N)] Z4O D [some (.int n),some (.int k),some (.ref a),some (.ref p),none,none] M2:=by
    intro M2 j
    have g2:=j _ _ g1
    have sq1:=Y19 (n*n) (show(99999999999999999999:Int)≠0 by decide)
    have sq2:=Y0Y (n*n) (show(0:Int)<99999999999999999999 by decide)
    generalize n*n%99999999999999999999=sq at*
    delta Z4O
    simp![g2]
    have y:∀v,Small v->D.rt (.tup [.str "num",.int v]) M2:=fun v hv=>by
     rw[hD]
     exact q (.num v) _ (d.trans j) (by simp[Tm.depth]) (by simp only[Tm.size];lia) hv (λx u=>by simp[Tm.reads]at u)
    rcases(show n/16%4=0\/n/16%4=1\/n/16%4=2\/n/16%4=3 by lia)with e|e|e|e<;>rw[e]
    .exact⟨_,at0,y _ (by unfold Small;lia)⟩
    .exact⟨_,at1,y _ (by unfold Small;lia)⟩
    .exact⟨_,at2,y _ (by unfold Small;lia)⟩
    .exact⟨_,at3,y _ (by unfold Small;lia)⟩
   delta Z7X
   simp!
   intro p2 G
   have j:=SameM.new G (.lst [])
   refine _cq (j _ _ R) _00 ?_
   generalize updM M1 p2 _=M2 at*
   have I:=j _ _ R
   refine _63 (λc1=>_63 (λc2=>?_) λ_=>U _ j) λ_=>U _ j
   have z0:0<g.length:=by
    cases g with
    |nil=>simp at c1
    |cons _ _=>simp
   delta Z7W
   simp![I]
   rw[Y01]
   have e0:=Y19 (n/64) (show(g.length:Int)≠0 by lia)
   have e1:=Y0Y (n/64) (show(0:Int)<g.length by lia)
   obtain⟨z,hz,az⟩:=_iF e0 e1
   refine⟨by lia,_,az,?_⟩
   simp![prV]
   rw[hD]
   exact q (.var z.1) _ (d.trans j) (by simp[Tm.depth]) (by simp only[Tm.size];lia) trivial (λx u=>by simp[Tm.reads]at u;rw[u];exact Y0h.mpr ⟨z,hz,rfl⟩)
  delta Z4F Z7Y
  simp!
  refine _63 (λ_=>leaf _ rfl) λc1=>_63 (λ_=>leaf _ rfl) λc2=>?_
  have k1:1<=k:=by lia
  obtain⟨m,rfl⟩:∃m,k=m+1:=⟨k - 1,by lia⟩
  have ek:((m+1:Nat):Int) - 1=(m:Nat):=by lia
  delta Z7V
  simp!
  intro p F
  have s0:=SameM.new F (.lst [MV.str "",.str "",.str "pick",.str "minus",.str "times",.str "less",.str "same",.str "plus"])
  generalize updM M p _=M0 at*
  have c:=s0 _ _ b
  have go:∀(x:Str)(e:(x="pick")\/∃f:Form,x=f.str),wSs [("_law_term",Z0b N)] Z4N {nx:=fun x M'=>Q MV.non M',rt:=Q} [some (.int n),some (.int (m+1:Nat)),some (.ref a),none,some (.str x),none] M0:=by
   intro x e
   delta Z4N
   simp!
   rw[ek]
   refine⟨_,a,g,m,rfl,by lia,by lia,by lia,by lia,c,C,λW M1 d d1 z1 m1 r1=>?_⟩
   simp!
   refine⟨n/4096/7,a,g,m,rfl,by lia,by lia,by lia,by lia,d _ _ c,C,λY M2 j d2 z2 m2 r2=>?_⟩
   try simp!
   intro O Z
   have s3:=SameM.new Z (.lst [W.mv,Y.mv])
   have J:updM M2 O (.lst [W.mv,Y.mv]) O=some (.lst [W.mv,Y.mv]):=_00
   have l:=((s0.trans d).trans j)
   have n3:M O=none:=l.free Z
   have l:=l.trans s3
   have S:=s3 _ _ (j _ _ (d _ _ c))
   generalize updM M2 O _=M3 at*
   delta Z7U
   simp!
   rcases e with rfl|⟨f,rfl⟩
   .rw[if_pos rfl];delta Z7T
    simp![J]
    refine⟨⟨_,rfl⟩,n/2048/5,a,g,m,by rw[ek],by lia,by lia,by lia,by lia,S,C,λU3 M4 s4 d3 z3 m3 r3=>?_⟩
    have g4:=s4 _ _ J
    simp![g4]
    delta Z4M
    simp![_00]
    exact⟨by show 1+3<=_;decide,q (.pick W Y U3) _ ((l.trans s4).upd n3 _) (by simp only[Tm.depth];lia) (by simp only[Tm.size];lia) ⟨m1,m2,m3⟩ (λx u=>by
     simp only[Tm.reads,Y0m]at u
     exact u.elim (r1 x) (·.elim (r2 x) (r3 x)))⟩
   .rw[if_neg (_gu f),Z4M]
    simp![J]
    exact q (.two f W Y) _ l (by simp only[Tm.depth];lia) (by simp only[Tm.size];lia) ⟨m1,m2⟩ (λx u=>by
     simp only[Tm.reads,Y0m]at u
     exact u.elim (r1 x) (r2 x))
  rcases _hN (i:=n%8) (by lia) (by lia)with⟨_,e⟩|⟨f,e⟩
  .exact⟨_,e,go _ (.inl rfl)⟩
  .exact⟨_,e,go _ (.inr ⟨f,rfl⟩)⟩
theorem _cu{r:List (Str×SpM)}{own:List Str}{Z:List Nat}{z:ISr}{O:ITg}{u m:IE}{R:Sm}{M:MH}{Q:QM}{T:Type}(l:List T)(f g:T->MV)(b:T->Bool)
  (G:wSr r z R M λS M1=>S.items=l.map f/\l.length<sizeLine/\S.okF M1/\M1=M)
  (I:∀x∈l,∀p,SameM M p->wTg O (f x) (sCm own Z R) λd=>wE r u d p λv M2=>v=.bl (b x)/\M2=p/\(b x=true->wE r m d p λy M2=>y=g x/\M2=p))
  (c:∀(j:Nat)f A,r[j]?=some (f,A)->MonW A)(q:∀D,M D=none->Q (.ref D) (updM M D (.lst ((l.filter b).map g)))):wE r (.comp own Z z O (.some u) m) R M Q:=by
 rw[_aI]
 refine mon_sr c z (λS M1 ⟨L,J,U,X⟩=>?_) G
 subst X
 have B:S.len=l.length:=by rw[<-S.items_len,L,Y01]
 refine⟨by rw[B];exact J,λD N=>⟨λi e M2=>M2=updM M1 D (.lst e)/\e=((l.take i).filter b).map g,⟨rfl,by simp⟩,?_,?_,?_⟩⟩
 .rintro i e M2 ⟨rfl,rfl⟩
  refine⟨_00,?_,?_⟩
  .rw[Y01]
   have L:=List.length_filter_le b (l.take i)
   rw[Y0s]at L
   lia
  cases S with
  |tup _=>trivial
  |rng _ _=>trivial
  |str _=>trivial
  |lst a H=>exact SameM.new N _ _ _ U
  |rev a H=>exact SameM.new N _ _ _ U
 .rintro i x e M2 C ⟨rfl,rfl⟩
  rw[L]at C
  obtain⟨E,rfl⟩:=_0z C
  refine _90 O (λd h=>?_) (I l[i] (Y0j E) _ (SameM.new N (.lst (((l.take i).filter b).map g))))
  rw[wI]
  refine _07 c u (λv M2 ⟨W,Y,o⟩=>?_) h
  subst W Y
  have F:l.take (i+1)=l.take i++[l[i]]:=by rw[Y0K,Y02 E];rfl
  refine⟨b l[i],rfl,?_⟩
  by_cases hb:b l[i]=true
  .rw[if_pos hb]
   refine _07 c m (λy M2 ⟨W,Y⟩=>?_) (o hb)
   subst W Y
   refine⟨_00,_bD,?_⟩
   rw[F,List.filter_append,Y07,List.filter_cons_of_pos hb]
   rfl
  .rw[if_neg hb]
   refine⟨rfl,?_⟩
   rw[F,List.filter_append,Y07,List.filter_cons_of_neg hb]
   simp
 .rintro e M2 ⟨rfl,rfl⟩
  rw[B,Y0y (Y09 _),_bF U]
  exact q D N
theorem _bU{F:List Fer}(l:(F.map (·.name)).Nodup){u v:Fer}(y:u∈F)(z:v∈F)(e:u.name=v.name):u=v:=by
 obtain⟨i,m,rfl⟩:=Y1g y
 obtain⟨j,g,rfl⟩:=Y1g z
 have:i=j:=by
  refine(Y34 (xs:=F.map (·.name)) (h₀:=by simpa using m) (h₁:=by simpa using g) l).mp ?_
  rw[Y1A,Y1A];exact e
 subst this;rfl
theorem _iy{F:List Fer}{b:Fer->Bool}{i:Int}(h:F.filter b≠ []):∃v∈F,b v=true/\atI ((F.filter b).map λv=>MV.str v.name) (i%((F.filter b).length:Int))=some (.str v.name):=by
 have z:0<(F.filter b).length:=Y1W.mpr h
 have m:=Y19 i (b:=((F.filter b).length:Int)) (by lia)
 have g:=Y0Y i (b:=((F.filter b).length:Int)) (by lia)
 obtain⟨j,y⟩:∃j:Nat,i%((F.filter b).length:Int)=(j:Int):=⟨(i%((F.filter b).length:Int)).toNat,by lia⟩
 have l:j<(F.filter b).length:=by lia
 have u:=Y0j l
 rw[Y3k]at u
 refine⟨(F.filter b)[j],u.1,u.2,?_⟩
 rw[y]
 exact _0A (by rw[Y08,Y02 l];rfl)
theorem _ls{j:List (Str×Int)}{i:Int}(h:j≠ []):∃z∈j,0<(j.length:Int)/\atI (j.map prV) (i%(j.length:Int))=some (prV z):=by
 have u:0<j.length:=Y1W.mpr h
 obtain⟨z,l,e⟩:=_iF (l:=j) (i:=i%(j.length:Int)) (Y19 _ (by lia)) (Y0Y _ (by lia))
 exact⟨z,l,by lia,e⟩
theorem _bn{j u:Type}{f:j->u}{l:List j}(h:l≠ []):(l.map f).isEmpty=false:=by cases l with
 |nil=>exact absurd rfl h
 |cons _ _=>rfl
abbrev Z1K:SpM:=λu M Q=>∃(n:Int) (z:Str) (a f:Addr) (j:List (Str×Int)) (F:List Fer) (m:Nat),u=[.int n,.str z,.int m,.ref a,.ref f]/\M a=some (.lst (j.map prV))/\j.length<=6/\M f=some (.lst (F.map Fer.mv))/\F.length<=6/\0<=n/\n<PM/\m<=12/\(F.map (·.name)).Nodup/\
 ∀(S:Stp)l,SameM M l->Zbz (F.map (·.name)) (j.map (·.1)) m S->ZdL F z S->S.sm->Q S.mv l
theorem _3Y:MonW Z1K:=by walk_at "m"
theorem _c7(T:Txt w K mg t):FnOk P w K mg base CX0 12 t.bD t.cY ["number","name","many","own","ferries"] (liSp K Z1K):=by
 refine T.aC.F.okM _bR (_0i (u:=[("_law_term",(Z0b 3))]) (_0k T) (_09 T) (_0j T) rfl (fMc ⟨(_23 _),(fun _ h=>nomatch h)⟩) (fMc ⟨⟨_,_,_,_7o T 3,T.ar.m,T.ar.F.kp,T.ar.b⟩,(fun _ h=>nomatch h)⟩):Fts P w K mg base 11 Z9K [("_law_term",(Z0b 3))]) Z4G _cE (fun vs M Q h=>?_) (fun vs M Q h=>?_)
 .obtain⟨_,_,_,_,_,_,_,rfl,_⟩:=h;rfl
 obtain⟨n,z,a,f,X,F,m,rfl,ha,zl,o,h6,n0,n1,hm,nd,q⟩:=h
 show wSs _ _ _ [some (.int n),some (.str z),some (.int m),some (.ref a),some (.ref f),none,none,none,none] M
 have C:∀(j:Nat)f sp,([("_law_term",Z0b 3)]:List (Str×SpM))[j]?=some (f,sp)->MonW sp:=_61 (u:=[("_law_term",Z0b 3)]) (fMc ⟨_23 3,fun _ h=>nomatch h⟩)
 delta Z4G Z86
 simp!
 refine _cu F Fer.mv (λv=>.str v.name) (λv=>decide (v.taker=z)) ?_ ?_ C λA b=>?_
 .simp![o]
  exact⟨rfl,by lia,o⟩
 .intro v c R s
  simp only[sCm,Y0a,Y0B,Y0t,Y0u,Y0l,Y0v]
  simp![Fer.mv]
  try simp
 have s1:=SameM.new b (.lst ((F.filter λv=>decide (v.taker=z)).map λv=>MV.str v.name))
 have d1:updM M A (.lst ((F.filter λv=>decide (v.taker=z)).map λv=>MV.str v.name)) A=some (.lst ((F.filter λv=>decide (v.taker=z)).map λv=>MV.str v.name)):=_00
 generalize updM M A _=M1 at*
 have D:=s1 _ _ o
 delta Z85
 simp!
 refine _cu F Fer.mv (λv=>.str v.name) (λv=>decide (v.giver=z)) ?_ ?_ C λB hD2=>?_
 .simp![D]
  exact⟨rfl,by lia,D⟩
 .intro v c R s
  simp only[sCm,Y0a,Y0B,Y0t,Y0u,Y0l,Y0v]
  simp![Fer.mv]
  try simp
 have s2:=SameM.new hD2 (.lst ((F.filter λv=>decide (v.giver=z)).map λv=>MV.str v.name))
 have d2:updM M1 B (.lst ((F.filter λv=>decide (v.giver=z)).map λv=>MV.str v.name)) B=some (.lst ((F.filter λv=>decide (v.giver=z)).map λv=>MV.str v.name)):=_00
 generalize updM M1 B _=M2 at*
 have d12:=s2 _ _ d1
 have ss:=s1.trans s2
 have E:=ss _ _ ha
 delta Z84
 simp!
 delta Z83
 simp!
 refine⟨n/4/512,a,X,2,rfl,by decide,by decide,by lia,by lia,E,zl,λU G H u1 u2 um ur=>?_⟩
 have W:TmIn (X.map (·.1)) U:=⟨by lia,by have:3^3=27:=rfl;lia,ur⟩
 have st:=ss.trans H
 have Y:=H _ _ E
 have I:=H _ _ d12
 have J:=H _ _ d2
 have last:∀y,SameM G y->wSs ([("_law_term",Z0b 3)]:List (Str×SpM)) Z4Q {nx:=fun x R=>Q MV.non R,rt:=Q} [some (.int n),some (.str z),some (.int m),some (.ref a),some (.ref f),some (.ref A),some (.ref B),some (.int (n/4)),some U.mv] y:=by
  intro y g
  have L:∀y,SameM G y->wSs ([("_law_term",Z0b 3)]:List (Str×SpM)) Z3T {nx:=fun x R=>Q MV.non R,rt:=Q} [some (.int n),some (.str z),some (.int m),some (.ref a),some (.ref f),some (.ref A),some (.ref B),some (.int (n/4)),some U.mv] y:=by
   intro y g
   delta Z3T
   simp!
   have N:(0:Int)<(m:Int)+1:=by lia
   exact⟨N,q (.jump U (n/4%(m+1))) y (st.trans g) ⟨W,Y19 _ (by lia),by have:=Y0Y (n/4) N;lia⟩ trivial um⟩
  delta Z4Q
  simp!
  refine _63 (λ_=>?_) (λ_=>L y g)
  intro p N
  have d:=SameM.new N (.lst [])
  refine _cq (d _ _ (g _ _ Y)) _00 ?_
  generalize updM y p _=M5 at*
  have l:=g.trans d
  have r:=l _ _ Y
  by_cases hz:X=[]
  .rw[hz];exact L M5 l
  rw[_bn hz,if_pos rfl];delta Z7Z
  obtain⟨v,c,zp,O⟩:=_ls (i:=n/4/8) hz
  simp![r,Y01,O]
  refine⟨zp,?_⟩
  simp![O,prV]
  exact q (.put v.1 U) M5 (st.trans l) ⟨Y0h.mpr ⟨v,c,rfl⟩,W⟩ trivial um
 have Z:∀y,SameM G y->wSs ([("_law_term",Z0b 3)]:List (Str×SpM)) Z4R {nx:=fun x R=>Q MV.non R,rt:=Q} [some (.int n),some (.str z),some (.int m),some (.ref a),some (.ref f),some (.ref A),some (.ref B),some (.int (n/4)),some U.mv] y:=by
  intro y g
  delta Z4R
  simp!
  refine _63 (λ_=>?_) (λ_=>last y g)
  intro p N
  have d:=SameM.new N (.lst [])
  refine _cq (d _ _ (g _ _ J)) _00 ?_
  generalize updM y p _=M5 at*
  have l:=g.trans d
  have d5:=l _ _ J
  by_cases hn:(F.filter λv=>decide (v.giver=z))=[]
  .rw[hn];exact last M5 l
  rw[_bn hn,if_pos rfl];delta Z80
  obtain⟨v,c,hb,O⟩:=_iy (i:=n/4) hn
  have hl:0<(F.filter λv=>decide (v.giver=z)).length:=Y1W.mpr hn
  simp![d5,Y01,O]
  refine⟨by lia,?_⟩
  try simp![O]
  refine q (.give v.name U) M5 (st.trans l) ⟨Y0h.mpr ⟨v,c,rfl⟩,W⟩ (λu hu e=>?_) um
  rw[_bU nd hu c e]
  exact of_decide_eq_true hb
 delta Z82
 simp!
 refine _63 (λ_=>?_) (λ_=>Z G (SameM.refl _))
 intro p N
 have g:=SameM.new N (.lst [])
 refine _cq (g _ _ I) _00 ?_
 generalize updM G p _=y at*
 have d4:=g _ _ I
 have S:=g _ _ Y
 by_cases hn:(F.filter λv=>decide (v.taker=z))=[]
 .rw[hn];exact Z y g
 rw[_bn hn,if_pos rfl]
 intro p5 hp5
 have d:=SameM.new hp5 (.lst [])
 refine _cq (d _ _ S) _00 ?_
 generalize updM y p5 _=M5 at*
 have l:=g.trans d
 have d5:=d _ _ d4
 have r:=d _ _ S
 by_cases hz:X=[]
 .rw[hz];exact Z M5 l
 rw[_bn hz,if_pos rfl];delta Z81
 obtain⟨v,c,hb,O⟩:=_iy (i:=n/4) hn
 obtain⟨u,hu,zp,au⟩:=_ls (i:=n/4/8) hz
 have hl:0<(F.filter λv=>decide (v.taker=z)).length:=Y1W.mpr hn
 simp![d5,Y01,O,r,au]
 refine⟨by lia,zp,?_⟩
 try simp![O,r,au,prV]
 refine q (.take v.name u.1) M5 (st.trans l) ⟨Y0h.mpr ⟨v,c,rfl⟩,Y0h.mpr ⟨u,hu,rfl⟩⟩ (λu' hu' e=>?_) trivial
 rw[_bU nd hu' c e]
 exact of_decide_eq_true hb
structure IslsNew (M0 M:MH)(Is:List Isl)(ys:List MV):Prop where
 len:ys.length=Is.length
 at_:∀(i:Nat)(I:Isl)(y:MV),Is[i]?=some I->ys[i]?=some y->∃a b,y=.tup [.str I.name,.ref a,.ref b]/\M0 a=none/\M0 b=none/\M a=some (.lst (I.prs.map prV))/\M b=some (.lst (I.stps.map Stp.mv))
theorem IslsNew.inn{j M:MH}{Is:List Isl}{ys:List MV}(h:IslsNew j M Is ys):IslsIn M Is ys:=⟨h.len,λi I y a b=>by
 obtain⟨c,d,e,_,_,l,u⟩:=h.at_ i I y a b
 exact⟨c,d,e,l,u⟩⟩
theorem IslsNew.keep{j M M':MH}{Is:List Isl}{ys:List MV}(h:IslsNew j M Is ys)(s:∀a o,M a=some o->j a=none->M' a=some o):IslsNew j M' Is ys:=⟨h.len,λi I y a b=>by
 obtain⟨c,d,e,l,u,z,m⟩:=h.at_ i I y a b
 exact⟨c,d,e,l,u,s _ _ z l,s _ _ m u⟩⟩
set_option tactic.hygienic true in
theorem _bi{l:Type}{v y:l}{j:List l}{i:Nat}(h:(j++[v])[i]?=some y):j[i]?=some y\/(i=j.length/\y=v):=by
 rw[List.getElem?_append]at h
 split at h
 .exact .inl h
 .rename_i e
  obtain⟨d,hd⟩:∃d,i - j.length=d:=⟨_,rfl⟩
  rw[hd]at h
  cases d with
  |zero=>simp at h;exact .inr ⟨by lia,h.symm⟩
  |succ d=>simp at h
theorem IslsNew.add{z M:MH}{Is:List Isl}{m:List MV}(h:IslsNew z M Is m){I:Isl}{a b:Addr}(g:z a=none)(d:z b=none)(h1:M a=some (.lst (I.prs.map prV)))(h2:M b=some (.lst (I.stps.map Stp.mv))):IslsNew z M (Is++[I]) (m++[.tup [.str I.name,.ref a,.ref b]]):=by
 refine⟨by simp[h.len],λi J y c f=>?_⟩
 have l:=h.len
 rcases _bi c with j|⟨q,rfl⟩<;>rcases _bi f with u|⟨r,rfl⟩
 .exact h.at_ i J y j u
 .have:=(Y0b.mp j).1;lia
 .have:=(Y0b.mp u).1;lia
 .exact⟨a,b,rfl,g,d,h1,h2⟩
theorem _cs{T:List (Str×SpM)}{own:List Str}{E:List Nat}{m:ISr}{U:ITg}{g:IE}{W:Sm}{M:MH}{Q:QM}{Y:Type}(z:List Y)(f:Y->MV)(R:Addr->MH->Y->MV->Prop)
  (F:∀D M u x y,(∀a o,a≠D->M a=some o->u a=some o)->R D M x y->R D u x y)
  (v:wSr T m W M λS M1=>S.items=z.map f/\z.length<sizeLine/\S.okF M1/\SameM M M1)
  (s:∀x∈z,∀D u,SameM M u->(∃l,u D=some (.lst l))->wTg U (f x) (sCm own E W) λN=>wE T g N u λy M2=>R D M2 x y/\SameM u M2)
  (O:∀(j:Nat)f G,T[j]?=some (f,G)->MonW G)
  (q:∀D u l,M D=none->SameM M u->l.length=z.length->(∀(i:Nat)x y,z[i]?=some x->l[i]?=some y->R D u x y)->u D=some (.lst l)->Q (.ref D) u):wE T (.comp own E m U .none g) W M Q:=by
 rw[_aI]
 refine mon_sr O m (λS M1 ⟨I,b,J,Z⟩=>?_) v
 have hl:S.len=z.length:=by rw[<-S.items_len,I,Y01]
 refine⟨by rw[hl];exact b,λD A=>⟨λi l M2=>SameM M1 M2/\M2 D=some (.lst l)/\l.length=i/\∀(j:Nat)x y,z[j]?=some x->l[j]?=some y->R D M2 x y,⟨SameM.new A _,_00,rfl,λj x y _ h=>by simp at h⟩,?_,?_,?_⟩⟩
 .rintro i l M2 ⟨p,L,e,_⟩
  exact⟨L,by lia,_dY J p⟩
 .rintro i x l M2 X ⟨p,L,e,B⟩
  rw[I]at X
  obtain⟨H,rfl⟩:=_0z X
  refine _90 U (λN h=>?_) (s z[i] (Y0j H) D M2 (Z.trans p) ⟨_,L⟩)
  rw[wI,if_pos rfl]
  refine _07 O g (λy M3 ⟨r,C⟩=>?_) h
  refine⟨C _ _ L,(p.trans C).upd A _,_00,by rw[Y0i,e];rfl,λj x' y' d c=>?_⟩
  rcases _bi c with c|⟨rfl,rfl⟩
  .exact F D M2 _ _ _ (λa o n h=>by rw[_06 n];exact C _ _ h) (B j x' y' d c)
  .rw[e,Y02 H]at d
   cases d
   exact F D M3 _ _ _ (λa o n h=>by rw[_06 n];exact h) r
 .rintro l M2 ⟨p,L,e,B⟩
  rw[_bF J]
  exact q D M2 l (Z.free A) (Z.trans p) (by lia) B L
theorem _8G{g:List (Str×SpM)}{own:List Str}{L:List Nat}{z:ISr}{N:ITg}{m:IE}{d:Sm}{M:MH}{Q:QM}{c:Type}(u:List c)(f:c->MV)(R:c->MV->Prop)
  (T:wSr g z d M λS M1=>S.items=u.map f/\u.length<sizeLine/\S.okF M1/\SameM M M1)
  (U:∀x∈u,∀l,SameM M l->wTg N (f x) (sCm own L d) λr=>wE g m r l λy M2=>R x y/\SameM l M2)
  (p:∀(j:Nat)f O,g[j]?=some (f,O)->MonW O)
  (q:∀D l e,M D=none->SameM M l->e.length=u.length->(∀(i:Nat)x y,u[i]?=some x->e[i]?=some y->R x y)->l D=some (.lst e)->Q (.ref D) l):wE g (.comp own L z N .none m) d M Q:=
 _cs u f (λ_ _=>R) (λ_ _ _ _ _ _ h=>h) T (λx W _ l s _=>U x W l s) p q
theorem _dT{g:Type}{P:Stp->Prop}:∀{j:List g} {u:List MV},u.length=j.length->(∀(i:Nat)x y,j[i]?=some x->u[i]?=some y->∃S:Stp,y=S.mv/\P S)->∃z:List Stp,u=z.map Stp.mv/\z.length=j.length/\∀S∈z,P S
 |[],[],_,_=>⟨[],rfl,rfl,λ_ h=>nomatch h⟩
 |[],_::_,h,_=>by cases h
 |_::_,[],h,_=>by cases h
 |x::j,y::u,h,r=>by
  obtain⟨S,rfl,d⟩:=r 0 x y rfl rfl
  obtain⟨z,rfl,l,c⟩:=_dT (j:=j) (u:=u) (by simpa using h) λi x y a b=>r (i+1) x y (by simpa using a) (by simpa using b)
  refine⟨S::z,rfl,by rw[Y0e,Y0e,l],λf m=>?_⟩
  rcases Y06.mp m with rfl|m
  .exact d
  .exact c f m
theorem _dI{xs:List Int}{j:Nat}{x:Int}(h:xs[j]?=some x):atI (xs.map MV.int) (j:Int)=some (.int x):=_0A (by rw[Y08,h];rfl)
abbrev Z0H:SpM:=λl M Q=>∃(c n:Int) (z:Str) (w:Nat) (f:Addr) (F:List Fer),l=[.int c,.int n,.int w,.str z,.ref f]/\M f=some (.lst (F.map Fer.mv))/\F.length<=6/\(F.map (·.name)).Nodup/\1<=w/\w<=64/\
 ∀(I:Isl)(a b:Addr)j,SameM M j->M a=none->M b=none->a≠b->j a=some (.lst (I.prs.map prV))->j b=some (.lst (I.stps.map Stp.mv))->I.name=z->IslOk w (F.map (·.name)) I->(∀s∈I.stps,ZdL F I.name s)->(∀s∈I.stps,s.sm)->Q (.tup [.str I.name,.ref a,.ref b]) j
theorem _2X:MonW Z0H:=by walk_at "m"
theorem _9Y(T:Txt w K mg t):FnOk P w K mg base CX0 13 t.dD t.dR ["cell","number","width","name","ferries"] (liSp K Z0H):=by
 refine T.aP.F.okM _9U (_0i (u:=[("_law_name",Z0r),("_law_step",Z1K),("_law_stream",Z0e),("_law_word",Z1J)]) (_0k T) (_09 T) (_0j T) rfl (fMc ⟨_1d,(fMc ⟨_3Y,(fMc ⟨_0R,(fMc ⟨_3X,(fun _ h=>nomatch h)⟩)⟩)⟩)⟩) (fMc ⟨⟨_,_,_,(FnOk.mono (_7p T) (by decide)),T.aA.m,T.aA.F.kp,T.aA.b⟩,(fMc ⟨⟨_,_,_,(FnOk.mono (_c7 T) (by decide)),T.aC.m,T.aC.F.kp,T.aC.b⟩,(fMc ⟨⟨_,_,_,(FnOk.mono (_5d T) (by decide)),T.aj.m,T.aj.F.kp,T.aj.b⟩,(fMc ⟨⟨_,_,_,(FnOk.mono (_c6 T) (by decide)),T.aJ.m,T.aJ.F.kp,T.aJ.b⟩,(fun _ h=>nomatch h)⟩)⟩)⟩)⟩):Fts P w K mg base 12 Z73 [("_law_name",Z0r),("_law_step",Z1K),("_law_stream",Z0e),("_law_word",Z1J)]) Z3c _ag (fun vs M Q h=>?_) (fun vs M Q h=>?_)
 .obtain⟨_,_,_,_,_,_,rfl,_⟩:=h;rfl
 obtain⟨c,n,z,w,f,F,rfl,hf,h6,nd,w1,w2,q⟩:=h
 have hΦ:=(_61 (u:=[("_law_name",Z0r),("_law_step",Z1K),("_law_stream",Z0e),("_law_word",Z1J)]) (fMc ⟨_1d,(fMc ⟨_3Y,(fMc ⟨_0R,(fMc ⟨_3X,(fun _ h=>nomatch h)⟩)⟩)⟩)⟩))
 show wSs _ _ _ [some (.int c),some (.int n),some (.int w),some (.str z),some (.ref f),none,none,none,none,none] M
 delta Z3c Z5O
 simp!
 refine⟨n,12,rfl,by decide,λpn d M1 s1 fpn gn xl xb=>?_⟩
 have g:∀(j:Nat)(hj:j<12),∃x,atI (d.map MV.int) (j:Int)=some (.int x)/\0<=x/\x<PM:=λj hj=>by
  have Z:j<d.length:=by lia
  have:=xb d[j] (Y0j Z)
  exact⟨d[j],_dI (Y02 Z),this.1,this.2⟩
 obtain⟨x0,a0,x00,_⟩:=g 0 (by decide)
 obtain⟨N,H,x10,x11⟩:=g 1 (by decide)
 obtain⟨x2,a2,x20,_⟩:=g 2 (by decide)
 have a0:atI (d.map MV.int) 0=some (.int x0):=a0
 have H:atI (d.map MV.int) 1=some (.int N):=H
 have a2:atI (d.map MV.int) 2=some (.int x2):=a2
 delta Z5N
 simp!
 intro r O
 have s2:=SameM.new O (.lst [])
 have g2:updM M1 r (.lst []) r=some (.lst ([]:List MV)):=_00
 have gn2:=s2 _ _ gn
 have A:M r=none:=s1.free O
 have pno:pn≠r:=neM gn O
 have s12:=s1.trans s2
 generalize updM M1 r _=M2 at*
 delta Z5M
 simp!
 intro p3 hp3
 have s3:=SameM.new hp3 (.lst [MV.int 11,.int 0])
 have l3:updM M2 p3 (.lst [MV.int 11,.int 0]) p3=some (.lst [MV.int 11,.int 0]):=_00
 have g3:=s3 _ _ g2
 have R:=s3 _ _ gn2
 have s13:=s12.trans s3
 generalize updM M2 p3 _=M3 at*
 obtain⟨W,hfi⟩:∃W:Int,atI [MV.int 11,.int 0] (N%2)=some (.int W):=by
  rcases(show N%2=0\/N%2=1 by lia)with e|e<;>rw[e]
  .exact⟨_,at0⟩
  .exact⟨_,at1⟩
 simp![R,H,l3,hfi]
 delta Z5L
 simp![R,a0]
 obtain⟨B,hm0,m03⟩:∃B:Nat,x0%4=(B:Int)/\B<=3:=⟨(x0%4).toNat,by lia,by lia⟩
 rw[hm0,Y0V]
 obtain⟨J,o⟩:∃J:Nat->Sm->MH->Prop,∀j σ C,J j σ C↔∃(l:List (Str×Int)) (v:Option MV),σ=[some (.int c),some (.int n),some (.int w),some (.str z),some (.ref f),some (.ref pn),some (.ref r),some (.int W),v,none]/\SameM M C/\C pn=some (.lst (d.map MV.int))/\C r=some (.lst (l.map prV))/\l.map (·.1)=(Y0A j).map (λi=>nmT (c+N/8%3) (W+(i:Nat)))/\∀p∈l,0<=p.2/\p.2<2^w:=⟨_,λ_ _ _=>Y1y⟩
 refine⟨by lia,by lia,J,(o _ _ _).mpr ⟨[],_,rfl,s13,R,g3,rfl,λ_ h=>(nomatch h)⟩,λ_ _ _ _=>trivial,?_,?_⟩
 .rintro j u σ M4 hu h
  obtain⟨l,v,rfl,E,m,Y,L,G⟩:=(o _ _ _).mp h
  obtain⟨hj,rfl⟩:=_6l hu
  have hl:l.length=j:=by have:=congrArg Y1I L;simpa using this
  obtain⟨x9,a9,x90,x91⟩:=g (9+j) (by lia)
  have a9:atI (d.map MV.int) (9+(0+(j:Int)))=some (.int x9):=by rw[show(9:Int)+(0+(j:Int))=((9+j:Nat):Int) by lia];exact a9
  delta Z5K
  simp![Y,m,H]
  refine⟨⟨_,rfl⟩,_,_,rfl,?_⟩
  simp![m,a9]
  refine⟨x9,w,rfl,x90,x91,w1,w2,λv v0 v1=>?_⟩
  simp![Y,Y01]
  refine⟨by lia,(o _ _ _).mpr ⟨l++[(nmT (c+N/8%3) (W+(0+(j:Int))),v)],_,rfl,E.upd A _,(_06 pno).trans m,by rw[_00,Y07];rfl,?_,λp I=>?_⟩⟩
  .rw[Y07,L,List.range_succ,Y07,Y2C];rfl
  .rcases Y0m.mp I with I|I
   .exact G p I
   .rw[Y0w.mp I];exact⟨v0,v1⟩
 .rintro σ M4 h
  obtain⟨l,v,rfl,E,m,Y,L,G⟩:=(o _ _ _).mp h
  have L:l.map (·.1)=(Y0A B).map (λi=>nmT (c+N/8%3) (W+(i:Nat))):=L
  have hl:l.length=B:=by have:=congrArg Y1I L;simpa using this
  have hf4:=E _ _ hf
  delta Z5J
  simp![m,a2]
  obtain⟨U,hmm,mm6⟩:∃U:Nat,x2%7=(U:Int)/\U<=6:=⟨(x2%7).toNat,by lia,by lia⟩
  rw[hmm];delta Z5I
  simp!
  refine _8G (Y0A U) (λi=>.int (i:Nat)) (λ_ y=>∃S:Stp,y=S.mv/\Zbz (F.map (·.name)) (l.map (·.1)) U S/\ZdL F z S/\S.sm) ?_ ?_ hΦ λD M5 ys hD s5 yl yr d5=>?_
  .simp!
   refine⟨by lia,by lia,?_,by rw[Y1f];lia,trivial,SameM.refl _⟩
   show(Y0A ((U:Int).toNat)).map _=_
   rw[Y0V]
   exact Y1v λi _=>by rw[Y2C]
  .intro i hi C s
   have hi:=Y1i.mp hi
   obtain⟨x3,a3,x30,x31⟩:=g (3+i) (by lia)
   have a3:atI (d.map MV.int) (3+(i:Int))=some (.int x3):=by rw[show(3:Int)+(i:Int)=((3+i:Nat):Int) by lia];exact a3
   have gn5:=s _ _ m
   simp only[sCm,Y0a,Y0B,Y0l,Y0v,Y0t,Y0u]
   simp![gn5,a3]
   exact⟨x3,z,r,f,l,F,U,rfl,s _ _ Y,by lia,s _ _ hf4,h6,x30,x31,by lia,nd,λS M6 s6 h1 h2 h3=>⟨⟨S,rfl,h1,h2,h3⟩,s6⟩⟩
  obtain⟨ss,rfl,sl,sp⟩:=_dT yl yr
  rw[Y1f]at sl
  try simp!
  refine q ⟨z,l,ss⟩ r D M5 (E.trans s5) A (E.free hD) (neM Y hD) (s5 _ _ Y) d5 rfl ⟨by show l.length<=6;lia,by show ss.length<=12;lia,?_,?_,G,λs X=>?_⟩ (λs X=>(sp s X).2.1) (λs X=>(sp s X).2.2)
  .show(l.map (·.1)).Nodup
   rw[L]
   unfold List.Nodup
   rw[Y2U]
   exact Y2X (fun{a b} ha G ne e=>ne (by
    have h1:=Y1i.mp ha
    have h2:=Y1i.mp G
    have:=_ca (by lia) (by lia) e
    lia)) List.nodup_range
  .intro x hx
   have hx:x∈l.map (·.1):=hx
   rw[L]at hx
   obtain⟨i,_,rfl⟩:=Y0h.mp hx
   exact _dg _ _
  .have:=(sp s X).1
   show Zbz _ (l.map (·.1)) ss.length s
   rw[sl];exact this
theorem _e0{f:Nat->Str}{n:Nat}(h:∀a b,a<n->b<n->f a=f b->a=b):((Y0A n).map f).Nodup:=by
 unfold List.Nodup
 rw[Y2U]
 exact Y2X (λj l u e=>u (h _ _ (Y1i.mp j) (Y1i.mp l) e)) List.nodup_range
theorem _iY{f:Nat->Str}{n:Nat}{j:List MV}(l:j.length=(Y0A n).length)(r:∀(i:Nat)(x:Nat)(y:MV),(Y0A n)[i]?=some x->j[i]?=some y->y=.str (f x)):j=((Y0A n).map f).map MV.str:=by
 rw[Y1f]at l
 refine Y35 (by simp[l]) λi u z=>?_
 rw[Y1A,Y1A,List.getElem_range]
 exact r i i _ (Y2v (by lia)) (Y02 u)
abbrev Z0K:SpM:=λz M Q=>∃m:List Int,z=[.frl (m.map .int)]/\
 ∀(W:Wld)(l u:Addr)(y:List MV)j,SameM M j->W.Fit->j l=some (.lst y)->IslsIn j W.isl y->j u=some (.lst (W.fer.map Fer.mv))->Q (.tup [.int W.w,.ref l,.ref u]) j
theorem _1E:MonW Z0K:=by walk_at "m"
theorem _bb(T:Txt w K mg t):FnOk P w K mg base CX0 14 t.bf t.bO ["script"] (liSp K Z0K):=by
 refine T.b4.F.okM _b5 (_0i (u:=[("_law_cell_at",Z0v),("_law_island",Z0H),("_law_name",Z0r),("_law_stream",Z0e),("_law_width",Z0L)]) (_0k T) (_09 T) (_0j T) rfl (fMc ⟨_2A,(fMc ⟨_2X,(fMc ⟨_1d,(fMc ⟨_0R,(fMc ⟨_3q,(fun _ h=>nomatch h)⟩)⟩)⟩)⟩)⟩) (fMc ⟨⟨_,_,_,(FnOk.mono (_8X T) (by decide)),T.aE.m,T.aE.F.kp,T.aE.b⟩,(fMc ⟨⟨_,_,_,(FnOk.mono (_9Y T) (by decide)),T.aP.m,T.aP.F.kp,T.aP.b⟩,(fMc ⟨⟨_,_,_,(FnOk.mono (_7p T) (by decide)),T.aA.m,T.aA.F.kp,T.aA.b⟩,(fMc ⟨⟨_,_,_,(FnOk.mono (_5d T) (by decide)),T.aj.m,T.aj.F.kp,T.aj.b⟩,(fMc ⟨⟨_,_,_,(FnOk.mono (_bc T) (by decide)),T.b7.m,T.b7.F.kp,T.b7.b⟩,(fun _ h=>nomatch h)⟩)⟩)⟩)⟩)⟩):Fts P w K mg base 13 Z8l [("_law_cell_at",Z0v),("_law_island",Z0H),("_law_name",Z0r),("_law_stream",Z0e),("_law_width",Z0L)]) Z3P _bu (fun vs M Q h=>?_) (fun vs M Q h=>?_)
 .obtain⟨L,rfl,_⟩:=h;rfl
 obtain⟨L,rfl,q⟩:=h
 have hΦ:=(_61 (u:=[("_law_cell_at",Z0v),("_law_island",Z0H),("_law_name",Z0r),("_law_stream",Z0e),("_law_width",Z0L)]) (fMc ⟨_2A,(fMc ⟨_2X,(fMc ⟨_1d,(fMc ⟨_0R,(fMc ⟨_3q,(fun _ h=>nomatch h)⟩)⟩)⟩)⟩)⟩))
 show wSs _ _ _ [some (.frl (L.map .int)),none,none,none,none,none,none,none,none,none,none,none] M
 delta Z3P Z6Q
 simp!
 refine⟨L,0,rfl,?_⟩
 simp!
 refine⟨_,rfl,λw M1 s1 w1 w2=>?_⟩
 try simp!
 delta Z6P
 simp!
 refine⟨L,1,rfl,?_⟩
 obtain⟨c,hc⟩:∃c:Int,L.getD 1 0=c:=⟨_,rfl⟩
 obtain⟨W,hc0⟩:∃W:Int,L.getD 0 0=W:=⟨_,rfl⟩
 rw[hc]
 try simp!
 obtain⟨l,hnn,nn3⟩:∃l:Nat,atI [MV.int 2,.int 3,.int 1,.int 0,.int 2] (W%5)=some (.int l)/\l<=3:=by
  rcases(show W%5=0\/W%5=1\/W%5=2\/W%5=3\/W%5=4 by lia)with e|e|e|e|e<;>rw[e]
  .exact⟨2,at0,by decide⟩
  .exact⟨3,at1,by decide⟩
  .exact⟨1,at2,by decide⟩
  .exact⟨0,at3,by decide⟩
  .exact⟨2,_0A (j:=4) rfl,by decide⟩
 delta Z6O
 simp!
 refine _8G (Y0A l) (λi=>.int (i:Nat)) (λi y=>y=.str (nmT c (i:Nat))) ?_ ?_ hΦ λpn M2 Z hpn s2 yl yr d2=>?_
 .simp!
  intro p hp
  refine⟨L,0,rfl,?_⟩
  rw[hc0]
  simp![hnn]
  refine⟨by lia,by lia,?_,by rw[Y1f];lia,trivial,SameM.new hp _⟩
  show(Y0A ((l:Int).toNat)).map _=_
  rw[Y0V]
  exact Y1v λi _=>by rw[Y2C]
 .intro i S Y s
  simp only[sCm,Y0a,Y0B,Y0l,Y0v,Y0t,Y0u]
  simp!
  exact⟨c,i,rfl,rfl,SameM.refl _⟩
 have ey:=_iY (f:=λi=>nmT c (i:Nat)) yl yr
 subst ey
 obtain⟨N,hN⟩:∃N:List Str,(Y0A l).map (λi:Nat=>nmT c (i:Nat))=N:=⟨_,rfl⟩
 rw[hN]at d2
 have lN:N.length=l:=by rw[<-hN];simp
 have nN:∀(i j:Nat)x,N[i]?=some x->N[j]?=some x->i=j:=λi j x h1 h2=>by
  have a1:=(Y0b.mp h1).1
  have a2:=(Y0b.mp h2).1
  rw[<-hN,Y08,Y2v (by lia)]at h1 h2
  have e:nmT c (i:Nat)=nmT c (j:Nat):=(Y0z h1).trans (Y0z h2).symm
  have:=_ca (by lia) (by lia) e
  lia
 try simp!
 delta Z6N
 simp!
 refine⟨L,2,rfl,?_⟩
 try simp!
 refine⟨_,3,rfl,by decide,λpx xs M3 s3 fpx gx xl xb=>?_⟩
 have d3:=s3 _ _ d2
 try simp!
 delta Z6M
 simp!
 intro R X
 have s4:=SameM.new X (.lst [])
 have f4:updM M3 R (.lst []) R=some (.lst ([]:List MV)):=_00
 have d4:=s4 _ _ d3
 have x4:=s4 _ _ gx
 have fpf:M R=none:=(s1.trans (s2.trans s3)).free X
 have nfn:pn≠R:=neM d3 X
 have nfx:px≠R:=neM gx X
 generalize updM M3 R _=M4 at*
 delta Z6L
 simp![d4]
 refine⟨L,0,rfl,?_⟩
 rw[hc0]
 try simp!
 rw[Y01,lN]
 obtain⟨cn,hcn,cn3,cn1⟩:∃cn:Nat,(if W/5%4<(l:Int)/2*3 then W/5%4 else(l:Int)/2*3)=(cn:Int)/\cn<=3/\(1<=cn->2<=l):=by
  by_cases e:W/5%4<(l:Int)/2*3
  .exact⟨(W/5%4).toNat,by rw[if_pos e];lia,by lia,by lia⟩
  .exact⟨((l:Int)/2*3).toNat,by rw[if_neg e];lia,by lia,by lia⟩
 rw[hcn,Y0V]
 have s04:=s1.trans (s2.trans (s3.trans s4))
 obtain⟨J,A⟩:∃J:Nat->Sm->MH->Prop,∀j C Y,J j C Y↔∃(d:List Fer) (v6 v7 v8 v9:Option MV),C=[some (.frl (L.map .int)),some (.int w),some (.int c),some (.ref pn),some (.ref px),some (.ref R),v6,v7,v8,v9,none,none]/\d.map (·.name)=(Y0A j).map (λi:Nat=>nmT c (5+(i:Nat)))/\SameM M Y/\Y pn=some (.lst (N.map MV.str))/\Y px=some (.lst (xs.map MV.int))/\Y R=some (.lst (d.map Fer.mv))/\(∀F∈d,FerOk N F):=⟨_,λ_ _ _=>Y1y⟩
 refine⟨by lia,by lia,J,(A _ _ _).mpr ⟨[],_,_,_,_,rfl,rfl,s04,d4,x4,f4,λF B=>nomatch B⟩,λ_ _ _ _=>trivial,?_,?_⟩
 .rintro j u C E hu h
  obtain⟨d,v6,v7,v8,v9,rfl,B,s5,d5,x5,f5,ok5⟩:=(A _ _ _).mp h
  obtain⟨hj,rfl⟩:=_6l hu
  have nn2:=cn1 (by lia)
  have hl:d.length=j:=by have:=congrArg Y1I B;simpa using this
  have hjx:j<xs.length:=by lia
  obtain⟨x,hx⟩:∃x,xs[j]=x:=⟨_,rfl⟩
  have ax:atI (xs.map MV.int) (j:Int)=some (.int x):=_dI (by rw[Y02 hjx,hx])
  obtain⟨x0,x1⟩:=xb x (by rw[<-hx];exact Y0j hjx)
  rw[Y2C]
  suffices key:∀D:EndM,D.nx=J (j+1)->wSs ([("_law_cell_at",Z0v),("_law_island",Z0H),("_law_name",Z0r),("_law_stream",Z0e),("_law_width",Z0L)]:List (Str×SpM)) Z3S D [some (.frl (L.map .int)),some (.int w),some (.int c),some (.ref pn),some (.ref px),some (.ref R),some (.int j),v7,v8,v9,none,none] E from key _ rfl
  intro D hD
  delta Z3S
  simp![x5,ax,d5]
  rw[Y01,lN]
  have gp:(0:Int)<(l:Int):=by lia
  refine⟨gp,?_⟩
  obtain⟨g,hg,hg2⟩:∃g:Nat,x%(l:Int)=(g:Int)/\g<l:=by
   have h0:=Y19 x (b:=(l:Int)) (by lia)
   have h1:=Y0Y x gp
   exact⟨(x%(l:Int)).toNat,by lia,by lia⟩
  rw[hg];delta Z6K
  simp![x5,ax,d5]
  rw[Y01,lN]
  have gp1:(0:Int)<(l:Int) - 1:=by lia
  refine⟨gp1,gp,?_⟩
  obtain⟨tk,ht,ht2,ht3⟩:∃tk:Nat,((g:Int)+1+x/64%((l:Int) - 1))%(l:Int)=(tk:Int)/\tk<l/\tk≠g:=by
   have r0:=Y19 (x/64) (b:=(l:Int) - 1) (by lia)
   have r1:=Y0Y (x/64) gp1
   obtain⟨r,hr⟩:∃r,x/64%((l:Int) - 1)=r:=⟨_,rfl⟩
   rw[hr]at r0 r1 ⊢
   have h0:=Y19 ((g:Int)+1+r) (b:=(l:Int)) (by lia)
   have h1:=Y0Y ((g:Int)+1+r) gp
   refine⟨(((g:Int)+1+r)%(l:Int)).toNat,by lia,by lia,λe=>?_⟩
   have e2:((g:Int)+1+r)%(l:Int)=(g:Int):=by lia
   rcases(show l=2\/l=3 by lia)with rfl|rfl<;>lia
  rw[ht];delta Z6J
  simp![x5,ax]
  intro ps hps
  obtain⟨G,hkk,kk3⟩:∃G:Nat,x/4096%4=(G:Int)/\G<=3:=⟨(x/4096%4).toNat,by lia,by lia⟩
  obtain⟨st,hst,st1,st3⟩:∃st:Nat,1+x/1048576%3=(st:Int)/\1<=st/\st<=3:=⟨(1+x/1048576%3).toNat,by lia,by lia,by lia⟩
  rw[hkk,hst]
  have s6:=SameM.new hps (.lst [MV.int G,.int st])
  have g6:updM E ps (.lst [MV.int G,.int st]) ps=some (.lst [MV.int G,.int st]):=_00
  have d6:=s6 _ _ d5
  have x6:=s6 _ _ x5
  have f6:=s6 _ _ f5
  generalize updM E ps _=M6 at*
  obtain⟨ng,hng⟩:∃z,N[g]?=some z:=⟨_,Y02 (by lia)⟩
  obtain⟨nt,hnt⟩:∃z,N[tk]?=some z:=⟨_,Y02 (by lia)⟩
  have ag:atI (N.map MV.str) (g:Int)=some (.str ng):=_0A (by rw[Y08,hng];rfl)
  have at_:atI (N.map MV.str) (tk:Int)=some (.str nt):=_0A (by rw[Y08,hnt];rfl)
  have ak:atI [MV.int G,.int st] 0=some (.int G):=at0
  have as:atI [MV.int G,.int st] 1=some (.int st):=at1
  delta Z6I
  simp![f6]
  refine⟨⟨_,rfl⟩,c,5+(j:Int),rfl,?_⟩
  simp![d6,ag,at_,g6,ak,as,f6,Y01]
  rw[hD]
  refine⟨by lia,(A _ _ _).mpr ⟨d++[⟨nmT c (5+(j:Nat)),ng,nt,G,st⟩],_,_,_,_,rfl,?_,(s5.trans s6).upd fpf _,(_06 nfn).trans d6,(_06 nfx).trans x6,by rw[_00,Y07];rfl,λF hF'=>?_⟩⟩
  .rw[Y07,B,List.range_succ,Y07];rfl
  .rcases Y0m.mp hF' with h'|h'
   .exact ok5 _ h'
   .rw[Y0w.mp h']
    exact⟨Y0G hng,Y0G hnt,λe=>ht3 (nN tk g nt hnt (by rw[hng];exact congrArg some e)),kk3,st1,st3⟩
 .rintro C E h
  obtain⟨d,v6,v7,v8,v9,rfl,B,s5,d5,x5,f5,ok5⟩:=(A _ _ _).mp h
  have B:d.map (·.name)=(Y0A cn).map (λi:Nat=>nmT c (5+(i:Nat))):=B
  have hl:d.length=cn:=by have:=congrArg Y1I B;simpa using this
  have ndF:(d.map (·.name)).Nodup:=by
   rw[B]
   refine _e0 λa b ha hb e=>?_
   have:=_ca (by lia) (by lia) e
   lia
  clear A h
  delta Z5B
  simp!
  intro U hpi
  have s6:=SameM.new hpi (.lst [])
  have i6:updM E U (.lst []) U=some (.lst ([]:List MV)):=_00
  have old2:∀a o,E a=some o->a≠U:=λa o h=>neM h hpi
  have only:∀a o,updM E U (.lst []) a=some o->a≠U->E a=some o:=λa o h n=>by rw[_06 n]at h;exact h
  generalize updM E U _=M6 at*
  have d6:=s6 _ _ d5
  delta Z5A
  simp![d6]
  obtain⟨J,A⟩:∃J:Nat->Sm->MH->Prop,∀j C Y,J j C Y↔∃(O:List Isl) (Z:List MV) (v11:Option MV),C=[some (.frl (L.map .int)),some (.int w),some (.int c),some (.ref pn),some (.ref px),some (.ref R),v6,v7,v8,v9,some (.ref U),v11]/\O.map (·.name)=N.take j/\SameM E Y/\Y U=some (.lst Z)/\IslsNew M6 Y O Z/\(∀I∈O,IslOk w (d.map (·.name)) I/\(∀s∈I.stps,ZdL d I.name s)/\∀s∈I.stps,s.sm):=⟨_,λ_ _ _=>Y1y⟩
  refine⟨J,(A _ _ _).mpr ⟨[],[],_,rfl,rfl,s6,i6,⟨rfl,λi I y hI=>by simp at hI⟩,λI hI=>nomatch hI⟩,λi C Y h=>?_,?_,?_⟩
  .obtain⟨_,_,_,_,_,s7,_⟩:=(A _ _ _).mp h
   exact s7 _ _ d5
  .rintro j u C M7 hu h
   obtain⟨O,Z,v11,rfl,m,s7,i7,hI,hO⟩:=(A _ _ _).mp h
   obtain⟨hj,rfl⟩:=_0z hu
   have hlI:O.length=j:=by have:=congrArg Y1I m;rw[Y01,Y0s]at this;lia
   have hly:=hI.len
   suffices key:∀D:EndM,D.nx=J (j+1)->wSs ([("_law_cell_at",Z0v),("_law_island",Z0H),("_law_name",Z0r),("_law_stream",Z0e),("_law_width",Z0L)]:List (Str×SpM)) Z3d D [some (.frl (L.map .int)),some (.int w),some (.int c),some (.ref pn),some (.ref px),some (.ref R),v6,v7,v8,v9,some (.ref U),some (.str N[j])] M7 from key _ rfl
   intro D hD
   delta Z3d
   obtain⟨k,hk⟩:∃k:Nat,3+(Z.length:Int)=(k:Int):=⟨3+Z.length,by lia⟩
   simp![i7,hk]
   refine⟨⟨_,rfl⟩,L,k,rfl,?_⟩
   simp!
   refine⟨c,_,N[j],w,R,d,rfl,s7 _ _ f5,by lia,ndF,w1,w2,λI a b M8 s8 na nb nab ha hb hn hok hen hsm=>?_⟩
   have i8:=s8 _ _ i7
   simp![i8]
   have bk:∀x,M7 x=none->M6 x=none:=λx hx=>by
    cases e:M6 x with
    |none=>rfl
    |some v=>
     by_cases hx2:x=U
     .subst hx2;rw[i7]at hx;cases hx
     .rw[s7 _ _ (only _ _ e hx2)]at hx;cases hx
   rw[hD]
   refine⟨by lia,(A _ _ _).mpr ⟨O++[I],Z++[.tup [.str I.name,.ref a,.ref b]],_,rfl,?_,λa o h=>by rw[_06 (old2 a o h)];exact s8 _ _ (s7 _ _ h),_00,?_,?_⟩⟩
   .rw[Y07,m,Y0K,Y02 hj]
    show _++[I.name]=_
    rw[hn];rfl
   .have h3:∀x o,M8 x=some o->M6 x=none->updM M8 U (.lst (Z++[.tup [.str I.name,.ref a,.ref b]])) x=some o:=λx o h n=>by
     rw[_06 (λe=>by subst e;rw[i6]at n;cases n)];exact h
    have hI5:=hI.keep (M':=updM M8 U (.lst (Z++[.tup [.str I.name,.ref a,.ref b]]))) λx o h n=>h3 x o (s8 _ _ h) n
    exact hI5.add (bk _ na) (bk _ nb) (h3 _ _ ha (bk _ na)) (h3 _ _ hb (bk _ nb))
   .intro I' hI'
    rcases Y0m.mp hI' with h'|h'
    .exact hO _ h'
    .rw[Y0w.mp h']
     exact⟨hok,hen,hsm⟩
  .rintro C M7 h
   obtain⟨O,Z,v11,rfl,m,s7,i7,hI,hO⟩:=(A _ _ _).mp h
   have m:O.map (·.name)=N:=by
    rw[m]
    exact Y0y (by simp[Src.len])
   have hlI:O.length=l:=by have:=congrArg Y1I m;rw[Y01]at this;lia
   delta Z5z
   simp!
   refine q ⟨w,O,d⟩ U R Z M7 (s5.trans s7) ⟨⟨w1,w2,by show O.length<=5;lia,by show d.length<=6;lia,?_,?_,?_,λI S=>(hO I S).1,?_,λI S=>(hO I S).2.1⟩,λI S=>(hO I S).2.2⟩ i7 hI.inn (s7 _ _ f5)
   .intro z H
    have H:z∈d.map (·.name):=H
    rw[B]at H
    obtain⟨i,_,rfl⟩:=Y0h.mp H
    exact _dg _ _
   .intro z H
    have H:z∈O.map (·.name):=H
    rw[m,<-hN]at H
    obtain⟨i,_,rfl⟩:=Y0h.mp H
    exact _dg _ _
   .show(d.map (·.name)++O.map (·.name)).Nodup
    rw[Y1t]
    refine⟨ndF,?_,?_⟩
    .rw[m,<-hN]
     refine _e0 λa b ha hb e=>?_
     have:=_ca (by lia) (by lia) e
     lia
    .rw[B,m,<-hN]
     intro a ha b hb e
     obtain⟨i,S,rfl⟩:=Y0h.mp ha
     obtain⟨j,hj,rfl⟩:=Y0h.mp hb
     have S:=Y1i.mp S
     have hj:=Y1i.mp hj
     have:=_ca (by lia) (by lia) e
     lia
   .intro F hF'
    show FerOk (O.map (·.name)) F
    rw[m]
    exact ok5 F hF'
theorem _4j(x:Str):rowT [x]=x:=by unfold rowT;rw[Y1h];rfl
theorem _0I(x:Str){r:List Str}(h:r≠ []):rowT (x::r)=x++(" "++rowT r):=by
 cases r with
 |nil=>exact absurd rfl h
 |cons y r=>
  unfold rowT
  rw[Y1h,Y1h,<-Y0P];rfl
theorem _fr:∀{a b:List Str},a≠ []->b≠ []->rowT (a++b)=rowT a++(" "++rowT b)
 |[],_,h,_=>absurd rfl h
 |[x],b,_,h=>by rw[_4j];exact _0I x h
 |x::y::r,b,_,h=>by
  rw[Y0l,_0I x (by simp),_fr (a:=y::r) (by simp) h,_0I x (r:=y::r) (by simp),Y0P,Y0P]
theorem _dS:∀{L:List (List Str)},(∀l∈L,l≠ [])->rowT L.flatten=rowT (L.map rowT)
 |[],_=>rfl
 |[l],_=>by rw[Y0a,Y0B,_4j];simp
 |l::m::r,h=>by
  have j:=_dS (L:=m::r) λx u=>h x (Y04 _ u)
  have y:=h m (by simp)
  rw[Y2W,_fr (h l (by simp)) (by rw[Y2W];simp[y]),j,Y0a (a:=l),_0I (rowT l) (by simp)]
theorem Tm.ws_ne(T:Tm):T.ws≠ []:=by cases T<;>simp[Tm.ws]
theorem Tm.row{T:Tm}(h:T.fit)(z:T.size<=30):RowFit T.ws:=⟨T.ws_ne,by have:=T.ws_len;lia,λx j=>T.ws_wd h x j⟩
abbrev Z0c(n:Nat):SpM:=λl M Q=>∃T:Tm,l=[T.mv]/\T.depth<=n/\T.size<=30/\T.fit/\∀j,SameM M j->Q (.str (rowT T.ws)) j
theorem _1f(n:Nat):MonW (Z0c n):=by walk_at "m"
theorem _bZ{z:Type}{f:z->MV}{j:List z}{u:List MV}(l:u.length=j.length)(r:∀(i:Nat)x y,j[i]?=some x->u[i]?=some y->y=f x):u=j.map f:=by
 refine Y35 (by simp[l]) λi m g=>?_
 rw[Y1A]
 exact r i _ _ (Y02 (by lia)) (Y02 m)
theorem _4n(T:Txt w K mg t):∀n:Nat,FnOk P w K mg base CX0 (n+8) t.dP t.cS ["term"] (liSp K (Z0c n))
 |0=>by
  have B:∀d M Q,¬Z0c 0 d M Q:=λd M Q h=>by
   obtain⟨T,_,C,_⟩:=h
   have:=T.depth_pos
   lia
  exact⟨λd H Q E ⟨v,M,r,o,h⟩=>absurd h (B _ _ _),λA N s H F us d Q E _ _ _ _ ⟨v,M,r,o,h⟩=>absurd h (B _ _ _)⟩
 |n+1=>by
  have i:=_4n T n
  refine T.ay.F.okM _8N (_0i (u:=[("_law_written",(Z0c n))]) (_0k T) (_09 T) (_0j T) rfl (fMc ⟨(_1f _),(fun _ h=>nomatch h)⟩) (fMc ⟨⟨_,_,_,i,T.ay.m,T.ay.F.kp,T.ay.b⟩,(fun _ h=>nomatch h)⟩):Fts P w K mg base (n+8) Z5S [("_law_written",(Z0c n))]) Z2K _9B (fun d M Q h=>?_) (fun d M Q h=>?_)
  .obtain⟨T,rfl,_⟩:=h;rfl
  obtain⟨U,rfl,hn,hz,u,q⟩:=h
  have O:∀(j:Nat)f G,([("_law_written",Z0c n)]:List (Str×SpM))[j]?=some (f,G)->MonW G:=_61 (u:=[("_law_written",Z0c n)]) (fMc ⟨_1f n,fun _ h=>nomatch h⟩)
  have fr:=U.row u hz
  show wSs _ _ _ [some U.mv] M
  have rest:U.mv=.tup (.str U.hd::U.kids.map Tm.mv)->U.ws=U.hd::wss U.kids->Wd U.hd->U.kids.length<=3->U.kids≠ []->wSs [("_law_written",Z0c n)] Z2O {nx:=fun x I=>Q MV.non I,rt:=Q} [some U.mv] M:=by
   intro hm hw hh J R
   have er:rowT U.ws=rowT (U.hd::U.kids.map λV=>rowT V.ws):=by
    have:=_dS (L:=U.kids.map Tm.ws) λl J=>by
     obtain⟨V,_,rfl⟩:=Y0h.mp J
     exact V.ws_ne
    have ne:wss U.kids≠ []:=λz=>by
     obtain⟨V,g⟩:=List.exists_mem_of_ne_nil _ R
     have:V.ws=[]:=List.flatten_eq_nil_iff.mp z V.ws (Y0h.mpr ⟨V,g,rfl⟩)
     exact V.ws_ne this
    rw[Y0E]at this
    rw[hw,_0I _ ne,_0I _ (by simpa using R)]
    exact congrArg (fun z=>U.hd++(" "++z)) this
   delta Z2O;rw[hm]
   simp!
   intro p hp
   have s0:=SameM.new hp (.lst [.str U.hd])
   have C:updM M p (.lst [.str U.hd]) p=some (.lst [.str U.hd]):=_00
   generalize updM M p _=M0 at*
   have ec:cutM (MV.str U.hd::U.kids.map Tm.mv) (some 1) none=U.kids.map Tm.mv:=_2l _ 1
   refine _8G U.kids Tm.mv (λV y=>y=.str (rowT V.ws)) ?_ ?_ O λD M1 ys hD S yl yr d1=>?_
   .simp!
    rw[ec]
    exact⟨rfl,by lia,trivial,SameM.refl _⟩
   .intro V g I s
    have R:=U.kid_depth g
    have hk2:=U.kid_size g
    simp only[sCm,Y0a,Y0B,Y0l,Y0v,Y0t,Y0u]
    simp!
    exact⟨V,rfl,by lia,by lia,U.kid_fit u g,λM2 s2=>⟨rfl,s2⟩⟩
   have ey:=_bZ (f:=λV:Tm=>MV.str (rowT V.ws)) yl yr
   subst ey
   have h1:=S _ _ C
   simp![h1,d1]
   refine⟨by rw[Y01];lia,λp2 W=>?_⟩
   have wl:∀x∈U.hd::U.kids.map (λV=>rowT V.ws),x.length<=1472:=λx Y=>by
    rcases Y06.mp Y with rfl|Y
    .have:=hh.2.1;lia
    .obtain⟨V,g,rfl⟩:=Y0h.mp Y
     have:=U.kid_size g
     exact(V.row (U.kid_fit u g) (by lia)).len.2
   obtain⟨b1,b2⟩:=_9v (j:=" ") wl
   have X:(" ":Str).length=1:=rfl
   rw[X,Y0e,Y01]at b1 b2
   refine⟨U.hd::U.kids.map (λV=>rowT V.ws),by rw[Y0a,Y0E];rfl,by rw[X];lia,by lia,?_⟩
   have Z:Y0R " " (U.hd::U.kids.map fun V=>rowT V.ws)=rowT U.ws:=er.symm
   rw[Z]
   exact q _ (s0.trans (S.trans (SameM.new W _)))
  delta Z2K Z4L
  cases U with
  |num m=>
   have u:Small m:=u
   simp only[Tm.mv]
   simp!
   refine _4K ["num","var"] ?_
   rw[decide_eq_true (by simp),if_pos rfl,Z2P]
   simp!
   have l1:((("num":Str)++(" ":Str))).length<=10:=by decide+kernel
   have l2:=u.wd.2.1
   refine⟨by decide+kernel,u.log,by lia,?_⟩
   have e:rowT (Tm.num m).ws=("num":Str)++" "++tS m:=by rw[Tm.ws,_0I _ (by simp),_4j,Y0P]
   rw[e]at q
   exact q _ (SameM.refl _)
  |var x=>
   simp only[Tm.mv]
   simp!
   refine _4K ["num","var"] ?_
   rw[decide_eq_true (by simp),if_pos rfl,Z2P]
   simp!
   have l1:((("var":Str)++(" ":Str))).length<=10:=by decide+kernel
   have l2:=(show GoodN x from u).2.1
   refine⟨by decide+kernel,by lia,?_⟩
   have e:rowT (Tm.var x).ws=("var":Str)++" "++x:=by rw[Tm.ws,_0I _ (by simp),_4j,Y0P]
   rw[e]at q
   exact q _ (SameM.refl _)
  |two f a b=>
   simp only[Tm.mv]
   simp!
   refine _4K ["num","var"] ?_
   rw[decide_eq_false (by simp[_bk f,_8F f]),if_neg Y05]
   exact rest rfl (by simp[Tm.ws,Tm.hd,wss,Tm.kids]) (_f1 f) (by simp[Tm.kids]) (by simp[Tm.kids])
  |pick c a b=>
   simp only[Tm.mv]
   simp!
   refine _4K ["num","var"] ?_
   rw[decide_eq_false (by decide+kernel),if_neg Y05]
   exact rest rfl (by simp[Tm.ws,Tm.hd,wss,Tm.kids]) wd_lit.2.2.1 (by simp[Tm.kids]) (by simp[Tm.kids])
abbrev Z0l:SpM:=λl M Q=>∃s:Stp,l=[s.mv]/\s.fit/\∀j,SameM M j->Q (.str (rowT s.ws)) j
theorem _29:MonW Z0l:=by walk_at "m"
theorem _8P{a b:Str}(h:b=a++" "){r:List Str}(j:r≠ []):rowT (a::r)=b++rowT r:=by rw[_0I a j,h,Y0P]
theorem _8r(T:Txt w K mg t):FnOk P w K mg base CX0 17 t.cD t.cu ["step"] (liSp K Z0l):=by
 refine T.aI.F.okM _8p (_0i (u:=[("_law_written",(Z0c 8))]) (_0k T) (_09 T) (_0j T) rfl (fMc ⟨(_1f _),(fun _ h=>nomatch h)⟩) (fMc ⟨⟨_,_,_,_4n T 8,T.ay.m,T.ay.F.kp,T.ay.b⟩,(fun _ h=>nomatch h)⟩):Fts P w K mg base 16 Z54 [("_law_written",(Z0c 8))]) Z27 _8B (fun g M Q h=>?_) (fun g M Q h=>?_)
 .obtain⟨_,rfl,_⟩:=h;rfl
 obtain⟨s,rfl,j,q⟩:=h
 show wSs _ _ _ [some s.mv] M
 delta Z27 Z48
 cases s with
 |take f x=>
  have u:("take ":Str).length<=5:=by decide+kernel
  have y:=j.1.2.1
  have z:=j.2.2.1
  have m:(" ":Str).length=1:=rfl
  simp only[Stp.mv]
  simp!
  delta Z1e
  simp!
  delta Z46
  simp!
  refine⟨by lia,by rw[Y0q];lia,by rw[Y0q,Y0q];lia,?_⟩
  have e:rowT (Stp.take f x).ws=("take ":Str)++f++" "++x:=by
   rw[Stp.ws,_8P (b:="take ") (by rfl) (by simp),_0I f (by simp),_4j,Y0P,Y0P]
  rw[e]at q
  exact q _ (SameM.refl _)
 |give f U=>
  have u:("give":Str).length<=5:=by decide+kernel
  have y:=j.1.2.1
  have z:=(U.row j.2.2.2 j.2.2.1).len.2
  have m:(" ":Str).length=1:=rfl
  simp only[Stp.mv]
  simp!
  delta Z1e
  simp!
  delta Z28
  simp!
  refine⟨by lia,by rw[Y0q];lia,by rw[Y0q,Y0q];lia,U,rfl,j.2.1,j.2.2.1,j.2.2.2,λM1 l=>?_⟩
  simp!
  refine⟨by rw[Y0q,Y0q,Y0q];lia,?_⟩
  have e:rowT (Stp.give f U).ws=("give":Str)++" "++f++" "++rowT U.ws:=by
   rw[Stp.ws,_0I "give" (by simp),_0I f U.ws_ne]
   simp only[Y0P]
  rw[e]at q
  exact q _ l
 |put f U=>
  have u:("put":Str).length<=5:=by decide+kernel
  have y:=j.1.2.1
  have z:=(U.row j.2.2.2 j.2.2.1).len.2
  have m:(" ":Str).length=1:=rfl
  simp only[Stp.mv]
  simp!
  delta Z1e
  simp!
  delta Z28
  simp!
  refine⟨by lia,by rw[Y0q];lia,by rw[Y0q,Y0q];lia,U,rfl,j.2.1,j.2.2.1,j.2.2.2,λM1 l=>?_⟩
  simp!
  refine⟨by rw[Y0q,Y0q,Y0q];lia,?_⟩
  have e:rowT (Stp.put f U).ws=("put":Str)++" "++f++" "++rowT U.ws:=by
   rw[Stp.ws,_0I "put" (by simp),_0I f U.ws_ne]
   simp only[Y0P]
  rw[e]at q
  exact q _ l
 |jump U i=>
  have u:("jump ":Str).length<=5:=by decide+kernel
  have z:=(U.row j.1.2.2 j.1.2.1).len.2
  have m:(" ":Str).length=1:=rfl
  have sm:Small i:=by have d:=j.2.1;have c:=j.2.2;unfold Small;lia
  have y:=sm.wd.2.1
  simp only[Stp.mv]
  simp!
  delta Z47
  simp!
  refine⟨sm.log,by lia,by rw[Y0q];lia,U,rfl,j.1.1,j.1.2.1,j.1.2.2,λM1 l=>?_⟩
  simp!
  refine⟨by rw[Y0q,Y0q];lia,?_⟩
  have e:rowT (Stp.jump U i).ws=("jump ":Str)++tS i++" "++rowT U.ws:=by
   rw[Stp.ws,_8P (b:="jump ") (by rfl) (by simp),_0I _ U.ws_ne]
   simp only[Y0P]
  rw[e]at q
  exact q _ l
abbrev Z2i(j:List (List Str)):List MV:=j.map λr=>MV.str (rowT r)
abbrev Z0T:SpM:=λz M Q=>∃(W:Wld) (l u:Addr) (y:List MV),z=[.int W.w,.ref l,.ref u]/\W.Fit/\M l=some (.lst y)/\IslsIn M W.isl y/\M u=some (.lst (W.fer.map Fer.mv))/\∀p j,SameM M j->j p=some (.lst (Z2i W.rows))->Q (.ref p) j
theorem _24:MonW Z0T:=by walk_at "m"
theorem _c8(T:Txt w K mg t):FnOk P w K mg base CX0 18 t.bI t.bN ["width","islands","ferries"] (liSp K Z0T):=by
 refine T.aG.F.okM _bS (_0i (u:=[("_law_step_row",Z0l)]) (_0k T) (_09 T) (_0j T) rfl (fMc ⟨_29,(fun _ h=>nomatch h)⟩) (fMc ⟨⟨_,_,_,(FnOk.mono (_8r T) (by decide)),T.aI.m,T.aI.F.kp,T.aI.b⟩,(fun _ h=>nomatch h)⟩):Fts P w K mg base 17 Z9L [("_law_step_row",Z0l)]) Z4H _cF (fun vs M Q h=>?_) (fun vs M Q h=>?_)
 .obtain⟨_,_,_,_,rfl,_⟩:=h;rfl
 obtain⟨W,F,G,ys,rfl,r,S,U,X,q⟩:=h
 have H:=(_61 (u:=[("_law_step_row",Z0l)]) (fMc ⟨_29,(fun _ h=>nomatch h)⟩))
 obtain⟨_,rl,rf⟩:=r.rows
 have i5:=r.g.i5
 have f6:=r.g.f6
 have w2:=r.g.w2
 have sw:Small (W.w:Int):=by unfold Small;lia
 have lw:=sw.wd.2.1
 have lb:(" ":Str).length=1:=rfl
 show wSs _ _ _ [some (.int W.w),some (.ref F),some (.ref G),none,none,none,none,none,none,none,none] M
 delta Z4H Z8c
 simp!
 have l1:("width ":Str).length<=6:=by decide+kernel
 refine⟨sw.log,by lia,λp hp=>?_⟩
 have e1:("width ":Str)++tS W.w=rowT ["width",tS W.w]:=by rw[_8P (b:="width ") (by rfl) (by simp),_4j]
 rw[e1]
 have s1:=SameM.new hp (.lst (Z2i [["width",tS W.w]]))
 have g1:updM M p (.lst (Z2i [["width",tS W.w]])) p=some (.lst (Z2i [["width",tS W.w]])):=_00
 have h1:updM M p (.lst [MV.str (rowT ["width",tS W.w])])=updM M p (.lst (Z2i [["width",tS W.w]])):=rfl
 rw[h1]
 generalize updM M p _=M1 at*
 have hi1:=s1 _ _ S
 delta Z8b
 simp![hi1]
 obtain⟨J,L⟩:∃J:List (List Str)->List (Option MV)->Sm->MH->Prop,∀rs vs l j,J rs vs l j↔∃p,SameM M j/\M p=none/\j p=some (.lst (Z2i rs))/\l=some (.int W.w)::some (.ref F)::some (.ref G)::some (.ref p)::vs:=⟨_,λ_ _ _ _=>Y1y⟩
 refine⟨fun i l j=>∃d u z,J ((["width",tS W.w]:List Str)::((W.isl.take i).map Isl.rows).flatten) [d,u,z,none,none,none,none] l j,⟨_,_,_,(L _ _ _ _).mpr ⟨p,s1,hp,g1,rfl⟩⟩,fun i l j ⟨_,_,_,h⟩=>?_,fun i x l j C ⟨d,u,z,Y⟩=>?_,fun l j ⟨d,u,z,Y⟩=>?_⟩
 .obtain⟨_,s,_⟩:=(L _ _ _ _).mp h
  exact s _ _ S
 .obtain⟨p,R,Z,N,rfl⟩:=(L _ _ _ _).mp Y
  have C:ys[i]?=some x:=C
  have hy:=(Y0b.mp C).1
  have hi2:i<W.isl.length:=by rw[<-U.1];exact hy
  obtain⟨I,A⟩:∃I,W.isl[i]?=some I:=⟨_,Y02 hi2⟩
  obtain⟨a,b,rfl,ha,hb⟩:=U.2 i I _ A C
  have mI:=Y0G A
  have fI:=r.isl mI
  have gI:=r.g.ig _ (Y0h.mpr ⟨I,mI,rfl⟩)
  have ln:=gI.2.1
  have f1:=fI.1
  have f2:=fI.2.1
  have lr:=_3l (Is:=W.isl.take i) λI U=>Isl.rows_len (r.isl (List.mem_of_mem_take U))
  rw[Y0s]at lr
  suffices key:∀D:EndM,(D.nx=fun l j=>∃d u z,J ((["width",tS W.w]:List Str)::((W.isl.take (i+1)).map Isl.rows).flatten) [d,u,z,none,none,none,none] l j)->wSs ([("_law_step_row",Z0l)]:List (Str×SpM)) Z4T D [some (.int W.w),some (.ref F),some (.ref G),some (.ref p),some (.str I.name),some (.ref a),some (.ref b),none,none,none,none] j by
   simp!
   exact key _ rfl
  intro D v
  have er:((["width",tS W.w]:List Str)::((W.isl.take (i+1)).map Isl.rows).flatten:List (List Str))=((["width",tS W.w]:List Str)::((W.isl.take i).map Isl.rows).flatten)++I.rows:=by rw[W.rows_at i A];rfl
  rw[er]at v
  have lR:((["width",tS W.w]:List Str)::((W.isl.take i).map Isl.rows).flatten:List (List Str)).length<=100:=by rw[Y0e];lia
  generalize((["width",tS W.w]:List Str)::((W.isl.take i).map Isl.rows).flatten:List (List Str))=R0 at*
  delta Z4T
  have l2:("island ":Str).length<=8:=by decide+kernel
  simp![N]
  have e2:("island ":Str)++I.name=rowT ["island",I.name]:=by rw[_8P (b:="island ") (by rfl) (by simp),_4j]
  refine⟨⟨_,rfl⟩,by lia,by simp only[Y01];lia,?_⟩
  rw[e2]
  have o:=R.upd Z (.lst (Z2i R0++[.str (rowT ["island",I.name])]))
  have g4:updM j p (.lst (Z2i R0++[.str (rowT ["island",I.name])])) p=some (.lst (Z2i (R0++[(["island",I.name]:List Str)]))):=by rw[_00,Z2i,Z2i,Y07];rfl
  generalize updM j p _=M4 at*
  have O:=o _ _ ha
  delta Z8a
  simp!
  refine _1b I.prs prV (fun p=>.str (rowT ["var",p.1,tS p.2])) ?_ ?_ H fun D' n=>?_
  .simp![O]
   exact⟨rfl,by lia,O⟩
  .intro E hpr M' s
   obtain⟨g,m,hm,lm⟩:=r.word mI hpr
   have sm:Small E.2:=by rw[hm];unfold Small;lia
   have b1:=sm.wd.2.1
   have b2:=g.2.1
   have b3:("var ":Str).length<=4:=by decide+kernel
   simp only[sCm,Y0a,Y0B,Y0l,Y0v,Y0t,Y0u,prV]
   simp!
   have e3:rowT ["var",E.1,tS E.2]=("var ":Str)++E.1++" "++tS E.2:=by rw[_8P (b:="var ") (by rfl) (by simp),_0I E.1 (by simp),_4j,Y0P,Y0P]
   rw[e3]
   refine⟨by lia,by rw[Y0q];lia,sm.log,by rw[Y0q,Y0q];lia,?_⟩
   trivial
  have s5:=SameM.new n (.lst (I.prs.map fun p=>MV.str (rowT ["var",p.1,tS p.2])))
  have u:updM M4 D' (.lst (I.prs.map fun p=>MV.str (rowT ["var",p.1,tS p.2]))) D'=some (.lst (I.prs.map fun p=>MV.str (rowT ["var",p.1,tS p.2]))):=_00
  have g5:=s5 _ _ g4
  generalize updM M4 D' _=M5 at*
  simp![g5,u]
  refine⟨by simp only[Y01,Y0i,Y0T];lia,λp6 hp6=>?_⟩
  have e6:Z2i (R0++[(["island",I.name]:List Str)])++(I.prs.map fun p=>MV.str (rowT ["var",p.1,tS p.2]))=Z2i (R0++[(["island",I.name]:List Str)]++I.prs.map fun p=>(["var",p.1,tS p.2]:List Str)):=by
   rw[Z2i,Z2i,Y07 (l₂:=I.prs.map _),Y0E];rfl
  rw[e6]
  have s6:=SameM.new hp6 (.lst (Z2i (R0++[(["island",I.name]:List Str)]++I.prs.map fun p=>(["var",p.1,tS p.2]:List Str))))
  have g6:updM M5 p6 (.lst (Z2i (R0++[(["island",I.name]:List Str)]++I.prs.map fun p=>(["var",p.1,tS p.2]:List Str)))) p6=some (.lst (Z2i (R0++[(["island",I.name]:List Str)]++I.prs.map fun p=>(["var",p.1,tS p.2]:List Str)))):=_00
  have t6:=o.trans (s5.trans s6)
  generalize updM M5 p6 _=M6 at*
  have hb6:=t6 _ _ hb
  delta Z89
  simp!
  refine _8G I.stps Stp.mv (λs y=>y=.str (rowT s.ws)) ?_ ?_ H λD' M7 ys n s7 yl yr d7=>?_
  .simp![hb6]
   exact⟨rfl,by lia,hb6,SameM.refl _⟩
  .intro st hst M' s
   simp only[sCm,Y0a,Y0B,Y0l,Y0v,Y0t,Y0u]
   simp!
   exact⟨st,rfl,fI.2.2.2 st hst,λM2 s2=>⟨rfl,s2⟩⟩
  have ey:=_bZ (f:=λs:Stp=>MV.str (rowT s.ws)) yl yr
  subst ey
  have g7:=s7 _ _ g6
  simp![g7,d7]
  refine⟨by simp only[Y01,Y0i,Y0T];lia,λp8 hp8=>?_⟩
  have e8:Z2i (R0++[(["island",I.name]:List Str)]++I.prs.map fun p=>(["var",p.1,tS p.2]:List Str))++(I.stps.map fun s=>MV.str (rowT s.ws))=Z2i (R0++I.rows):=by
   rw[Z2i,Z2i,Isl.rows]
   simp only[Y07,Y0a,Y0E,Y0x,Y0B,Y0l,Y0v];rfl
  rw[e8,v]
  exact⟨_,_,_,(L _ _ _ _).mpr ⟨p8,(t6.trans s7).trans (SameM.new hp8 _),(t6.trans s7).free hp8,_00,rfl⟩⟩
 .obtain⟨p,R,Z,N,rfl⟩:=(L _ _ _ _).mp Y
  have e:W.isl.take (Src.lst F ys).len=W.isl:=by
   show W.isl.take ys.length=_
   rw[U.1];simp
  rw[e]at N
  have hf3:=R _ _ X
  delta Z88
  simp![hf3]
  refine⟨fun i l j=>∃d u z v7 v8 v9 c,J ((["width",tS W.w]:List Str)::((W.isl.map Isl.rows).flatten++(W.fer.take i).map Fer.row)) [d,u,z,v7,v8,v9,c] l j,⟨_,_,_,_,_,_,_,(L _ _ _ _).mpr ⟨p,R,Z,by simpa using N,rfl⟩⟩,fun i l j ⟨_,_,_,_,_,_,_,h⟩=>?_,fun i x l j C ⟨d,u,z,v7,v8,v9,c,Y⟩=>?_,fun l j ⟨d,u,z,v7,v8,v9,c,Y⟩=>?_⟩
  .obtain⟨_,s,_⟩:=(L _ _ _ _).mp h
   exact s _ _ X
  .obtain⟨p,R,Z,N,rfl⟩:=(L _ _ _ _).mp Y
   obtain⟨S,rfl⟩:=_0z C
   have mf:=Y0j S
   have X:=r.fer mf
   have k1:Small (W.fer[i].k:Int):=by have:=X.2.2.2.1;unfold Small;lia
   have k2:Small (W.fer[i].st:Int):=by have:=X.2.2.2.2;unfold Small;lia
   have fr:RowFit W.fer[i].row:=rf _ (by
    simp only[Wld.rows,Y06,Y0m]
    exact .inr (.inr (Y0h.mpr ⟨_,mf,rfl⟩)))
   obtain⟨b1,b2⟩:=fr.len
   have lr:=_3l (Is:=W.isl) λI U=>Isl.rows_len (r.isl U)
   have lR:((["width",tS W.w]:List Str)::((W.isl.map Isl.rows).flatten++(W.fer.take i).map Fer.row):List (List Str)).length<=120:=by rw[Y0e,Y0i,Y01,Y0s];lia
   have er:((["width",tS W.w]:List Str)::((W.isl.map Isl.rows).flatten++(W.fer.take (i+1)).map Fer.row):List (List Str))=((["width",tS W.w]:List Str)::((W.isl.map Isl.rows).flatten++(W.fer.take i).map Fer.row))++[W.fer[i].row]:=by
    rw[Y0K,Y02 S,Y1n,Y07,<-Y0x,<-Y0l];rfl
   suffices key:∀D:EndM,(D.nx=fun l j=>∃d u z v7 v8 v9 c,J ((["width",tS W.w]:List Str)::((W.isl.map Isl.rows).flatten++(W.fer.take (i+1)).map Fer.row)) [d,u,z,v7,v8,v9,c] l j)->wSs ([("_law_step_row",Z0l)]:List (Str×SpM)) Z4S D [some (.int W.w),some (.ref F),some (.ref G),some (.ref p),some (.str W.fer[i].name),u,z,some (.str W.fer[i].giver),some (.str W.fer[i].taker),some (.int W.fer[i].k),some (.int W.fer[i].st)] j by
    simp![Fer.mv]
    exact key _ rfl
   intro D v
   rw[er]at v
   generalize((["width",tS W.w]:List Str)::((W.isl.map Isl.rows).flatten++(W.fer.take i).map Fer.row):List (List Str))=R0 at*
   delta Z4S
   simp![N]
   refine⟨⟨_,rfl⟩,k1.log,k2.log,λa4 O=>?_⟩
   have o:=SameM.new O (.lst (W.fer[i].row.map MV.str))
   have g4:=o _ _ N
   have h4:updM j a4 (.lst (W.fer[i].row.map MV.str)) a4=some (.lst (W.fer[i].row.map MV.str)):=_00
   have t4:=R.trans o
   generalize B:updM j a4 (.lst (W.fer[i].row.map MV.str))=M4 at*
   have B:updM j a4 (.lst [.str "ferry",.str W.fer[i].name,.str W.fer[i].giver,.str W.fer[i].taker,.str (toString (W.fer[i].k:Int):String),.str (toString (W.fer[i].st:Int):String)])=M4:=B
   rw[B]
   refine⟨W.fer[i].row,rfl,by lia,by unfold rowT at b2;lia,?_⟩
   simp![g4]
   refine⟨by simp only[Y01];lia,?_⟩
   rw[v]
   exact⟨_,_,_,_,_,_,_,(L _ _ _ _).mpr ⟨p,t4.upd Z _,Z,by rw[_00,Z2i,Z2i,Y07];rfl,rfl⟩⟩
  .obtain⟨p,R,Z,N,rfl⟩:=(L _ _ _ _).mp Y
   have e:W.fer.take (Src.lst G (W.fer.map Fer.mv)).len=W.fer:=by simp[Src.len]
   rw[e]at N
   delta Z87
   simp!
   exact q p _ R N
def deep:Nat->MV->Bool
 |0,x=>Z4b x
 |n+1,.tup xs=>xs.all (deep n)
 |_+1,x=>Z4b x
theorem _3z{x:MV}(n:Nat)(h:Z4b x=true):deep n x=true:=by
 cases n with
 |zero=>exact h
 |succ n=>cases x<;>first|exact h|cases h
theorem _aN{M:MH}:∀(n:Nat)(x:MV),deep n x=true->Alike M n x x
 |0,x,h=>⟨h,rfl⟩
 |n+1,x,h=>by
  cases x with
  |tup l=>
   have h:l.all (deep n)=true:=h
   refine Alike.tup rfl λi u v e j=>?_
   rw[e]at j
   cases j
   exact _aN n u (Y2l.mp h u (Y0G e))
  |_=>exact .flat (n+1) h
theorem _4X:∀(T:Tm)(n:Nat),T.depth<=n->deep n T.mv=true
 |.num k,n,h=>by
  cases n with
  |zero=>simp[Tm.depth]at h
  |succ n=>show [MV.str _,.int k].all (deep n)=true;simp[_3z n (x:=.str "num") rfl,_3z n (x:=.int k) rfl]
 |.var x,n,h=>by
  cases n with
  |zero=>simp[Tm.depth]at h
  |succ n=>show [MV.str _,.str x].all (deep n)=true;simp[_3z n (x:=.str "var") rfl,_3z n (x:=.str x) rfl]
 |.two f a b,n,h=>by
  cases n with
  |zero=>simp[Tm.depth]at h
  |succ n=>
   simp only[Tm.depth]at h
   show [MV.str _,a.mv,b.mv].all (deep n)=true
   simp only[Y13,Y21,Y1R,Y0r]
   exact⟨_3z n rfl,_4X a n (by omega),_4X b n (by omega)⟩
 |.pick c a b,n,h=>by
  cases n with
  |zero=>simp[Tm.depth]at h
  |succ n=>
   simp only[Tm.depth]at h
   show [MV.str _,c.mv,a.mv,b.mv].all (deep n)=true
   simp only[Y13,Y21,Y1R,Y0r]
   exact⟨_3z n rfl,_4X c n (by omega),_4X a n (by omega),_4X b n (by omega)⟩
theorem _hJ{fs j:List Str}{k:Nat}{s:Stp}(h:Zbz fs j k s):deep 9 s.mv=true:=by
 cases s with
 |take f x=>rfl
 |give f T=>show([MV.str _,.str f,T.mv].all (deep 8))=true;simp only[Y13,Y21,Y1R,Y0r];exact⟨rfl,rfl,_4X T 8 h.2.1⟩
 |put x T=>show([MV.str _,.str x,T.mv].all (deep 8))=true;simp only[Y13,Y21,Y1R,Y0r];exact⟨rfl,rfl,_4X T 8 h.2.1⟩
 |jump T i=>show([MV.str _,T.mv,.int i].all (deep 8))=true;simp only[Y13,Y21,Y1R,Y0r];exact⟨rfl,_4X T 8 h.1.1,rfl⟩
theorem all_map{j:Type}{f:j->MV}{p:MV->Bool}{l:List j}(h:∀x∈l,p (f x)=true):(l.map f).all p=true:=by
 rw[Y2l]
 intro y u
 obtain⟨x,z,rfl⟩:=Y0h.mp u
 exact h x z
theorem _hI{W:Wld}(G:W.Good):deep 13 W.mv=true:=by
 show([MV.int W.w,.tup (W.isl.map Isl.mv),.tup (W.fer.map Fer.mv)].all (deep 12))=true
 simp only[Y13,Y21,Y1R,Y0r]
 refine⟨rfl,all_map λI j=>?_,all_map λf u=>rfl⟩
 show([MV.str I.name,.tup (I.prs.map prV),.tup (I.stps.map Stp.mv)].all (deep 10))=true
 simp only[Y13,Y21,Y1R,Y0r]
 exact⟨rfl,all_map λx y=>rfl,all_map λs l=>_hJ ((G.io I j).st s l)⟩
theorem _eZ{M:MH}{Is:List Isl}{j:List MV}(h:IslsIn M Is j){x:MV×Isl}(l:x∈j.zip Is):IslIn M x.2 x.1:=by
 obtain⟨i,u,rfl⟩:=Y1g l
 rw[Y1u]at u
 rw[Y3a]
 exact h.2 i _ _ (Y02 (show i<Is.length by lia)) (Y02 (show i<j.length by lia))
def Zod(D:Addr)(M:MH)(x:MV×Isl)(y:MV):Prop:=∃a b,a≠D/\b≠D/\y=.tup [.str x.2.name,.ref a,.ref b]/\M a=some (.lst (x.2.prs.map prV))/\M b=some (.lst (x.2.stps.map Stp.mv))
theorem _lM(T:Txt w K mg t):FnOk P w K mg base CX0 60 t.bC t.cM ["script"] (liSp K Zi4):=by
 refine T.dW.F.okM _kN (_0i (u:=[("_law_rows",Z0T),("_law_world",Z0K),("made",Z31),("read",Z5V),("written",Z1i)]) (_0k T) (_09 T) (_0j T) rfl (fMc ⟨_24,(fMc ⟨_1E,(fMc ⟨_2z,(fMc ⟨_60,(fMc ⟨_33,(fun _ h=>nomatch h)⟩)⟩)⟩)⟩)⟩) (fMc ⟨⟨_,_,_,(FnOk.mono (_c8 T) (by decide)),T.aG.m,T.aG.F.kp,T.aG.b⟩,(fMc ⟨⟨_,_,_,(FnOk.mono (_bb T) (by decide)),T.b4.m,T.b4.F.kp,T.b4.b⟩,(fMc ⟨⟨_,_,_,(FnOk.mono (_fK T) (by decide)),T.aB.m,T.aB.F.kp,T.aB.b⟩,(fMc ⟨⟨_,_,_,(FnOk.mono (_js T) (by decide)),T.aQ.m,T.aQ.F.kp,T.aQ.b⟩,(fMc ⟨⟨_,_,_,(FnOk.mono (_ex T) (by decide)),T.aU.m,T.aU.F.kp,T.aU.b⟩,(fun _ h=>nomatch h)⟩)⟩)⟩)⟩)⟩):Fts P w K mg base 59 Zmt [("_law_rows",Z0T),("_law_world",Z0K),("made",Z31),("read",Z5V),("written",Z1i)]) Zge _ml (fun vs M Q h=>?_) (fun vs M Q h=>?_)
 .obtain⟨Z,rfl,_⟩:=h;rfl
 obtain⟨Z,rfl,h63,q⟩:=h
 have g:=(_61 (u:=[("_law_rows",Z0T),("_law_world",Z0K),("made",Z31),("read",Z5V),("written",Z1i)]) (fMc ⟨_24,(fMc ⟨_1E,(fMc ⟨_2z,(fMc ⟨_60,(fMc ⟨_33,(fun _ h=>nomatch h)⟩)⟩)⟩)⟩)⟩))
 show wSs _ _ _ [some (.frl (Z.map .int)),none,none,none,none,none,none,none] M
 have g:=(_61 (u:=[("_law_rows",Z0T),("_law_world",Z0K),("made",Z31),("read",Z5V),("written",Z1i)]) (fMc ⟨_24,(fMc ⟨_1E,(fMc ⟨_2z,(fMc ⟨_60,(fMc ⟨_33,(fun _ h=>nomatch h)⟩)⟩)⟩)⟩)⟩))
 delta Zge Ziw
 simp!
 refine⟨Z,rfl,λW pi pf j M1 _ u d f E=>?_⟩
 have i5:=u.g.i5
 have f6:=u.g.f6
 have ly:=f.1
 have z1:(j.zip W.isl).map Y3V=j:=Y38 (Y1L ly)
 have z2:(j.zip W.isl).map Prod.snd=W.isl:=Y39 (Y1L ly.symm)
 have z3:(j.zip W.isl).length<=5:=by rw[Y1u];lia
 simp!
 delta Ziv
 simp!
 refine _1b (j.zip W.isl) Y3V (λq=>q.2.mv) ?_ ?_ g λD hD=>?_
 .simp![d]
  exact⟨z1.symm,by lia,d⟩
 .intro x F N s
  obtain⟨a,b,e,r,z⟩:=_eZ f F
  have r:=s _ _ r
  have z:=s _ _ z
  rw[e]
  simp only[sCm,Y0a,Y0B,Y0l,Y0v,Y0t,Y0u]
  simp![r,z]
  trivial
 have z4:(j.zip W.isl).map (λq=>q.2.mv)=W.isl.map Isl.mv:=by
  have:(j.zip W.isl).map (Isl.mv ∘ Prod.snd)=W.isl.map Isl.mv:=by rw[<-Y0E,z2]
  exact this
 rw[z4]
 have G:=SameM.new hD (.lst (W.isl.map Isl.mv))
 have d2:updM M1 D (.lst (W.isl.map Isl.mv)) D=some (.lst (W.isl.map Isl.mv)):=_00
 generalize updM M1 D _=M2 at*
 have l:=G _ _ d
 have J:=G _ _ E
 have m:=f.keep G
 simp![d2,J]
 suffices key:wSs ([("_law_rows",Z0T),("_law_world",Z0K),("made",Z31),("read",Z5V),("written",Z1i)]:List (Str×SpM)) Zgr {nx:=fun x N=>Q MV.non N,rt:=Q} [some (.frl (Z.map MV.int)),some (.int W.w),some (.ref pi),some (.ref pf),some W.mv,none,none,none] M2 from key
 delta Zgr
 simp!
 refine _cs (j.zip W.isl) Y3V Zod ?_ ?_ ?_ g λD3 S O hD3 s3 yl yr d3=>?_
 .rintro D M N x y h ⟨a,b,n1,n2,e,X,H⟩
  exact⟨a,b,n1,n2,e,h _ _ n1 X,h _ _ n2 H⟩
 .simp![l]
  exact⟨z1.symm,by lia,l,SameM.refl _⟩
 .intro x F D3 N s ⟨zs,A⟩
  obtain⟨a,b,e,r,z⟩:=_eZ m F
  have r:=s _ _ r
  have z:=s _ _ z
  rw[e]
  simp only[sCm,Y0a,Y0B,Y0l,Y0v,Y0t,Y0u]
  simp![r]
  intro B R
  have v:=SameM.new R (.lst (x.2.prs.map prV))
  have g1:updM N B (.lst (x.2.prs.map prV)) B=some (.lst (x.2.prs.map prV)):=_00
  generalize updM N B _=M4 at*
  have z:=v _ _ z
  simp![z]
  intro p2 p
  exact⟨⟨B,p2,(neM A R).symm,(neM (v _ _ A) p).symm,rfl,SameM.new p _ _ _ g1,_00⟩,v.trans (SameM.new p _)⟩
 have U:IslsIn S W.isl O:=by
  rw[Y1u]at yl
  refine⟨by lia,λi I y hI hy=>?_⟩
  have l1:=(Y0b.mp hI).1
  have A:(j.zip W.isl)[i]?=some (j[i],I):=by
   rw[Y2J]
   exact⟨Y02 (by lia),hI⟩
  obtain⟨a,b,_,_,e,X,H⟩:=yr i _ y A hy
  exact⟨a,b,e,X,H⟩
 have Y:=s3 _ _ J
 simp![Y]
 intro C o
 have s4:=SameM.new o (.lst (W.fer.map Fer.mv))
 have g4:updM S C (.lst (W.fer.map Fer.mv)) C=some (.lst (W.fer.map Fer.mv)):=_00
 generalize updM S C _=M4 at*
 refine⟨D3,C,O,W,rfl,s4 _ _ d3,U.keep s4,g4,u.g,λM5 s5=>?_⟩
 have s25:=(s3.trans s4).trans s5
 try simp!
 delta Ziu
 simp!
 refine⟨W,rfl,u,λM6 s6=>?_⟩
 have L:=s25.trans s6
 try simp!
 delta Zit
 simp!
 refine⟨W,pi,pf,j,rfl,u,L _ _ l,m.keep L,L _ _ J,λp7 M7 s7 g7=>?_⟩
 obtain⟨_,rl,rf⟩:=u.rows
 obtain⟨b1,b2⟩:=rows_len rl rf
 simp!
 refine⟨W.rows.map rowT,by rw[g7,Y0E];rfl,by lia,by unfold textT at b2;lia,?_⟩
 rw[if_neg (λn=>n rfl),Zis]
 simp!
 refine⟨W,rfl,u,λM8 s8=>?_⟩
 try simp!
 delta Zir
 have al:∀M,Alike M 13 W.mv W.mv:=λM=>_aN 13 _ (_hI u.g)
 simp!
 have ew:∀(M:MH)(Q:QM),Q (.bl true) M->wCmp .Eq W.mv W.mv M Q:=λM Q h=>_hG (x:=W.mv) (y:=W.mv) (k:=λb=>Q (.bl b) M) rfl (al M) (by decide) h
 suffices k:wCmp .Eq W.mv W.mv M8 λx M1=>onB x λc=>if c=true then(wCmp .Eq W.mv W.mv M1 λx M1=>onB x λc=>if c=true then Z1i [W.mv] M1 λx M1=>wCmp .Eq x (.str (textT W.rows)) M1 Q else Q (.bl false) M1)else Q (.bl false) M1 from⟨nofun,k⟩
 refine ew _ _ ?_
 simp!
 refine ew _ _ ?_
 simp!
 refine⟨W,rfl,u,λM9 s9=>?_⟩
 simp!
 exact q _
end
theorem all_mk{l:Y3o}{w:World}{K:Y00}{h:Heap}{R:Str->Option Value}{fa:Addr}(X:K.In h)(G:h.Ns mainGlobals R)(hfa:R "law"=some (.ref fa))
  {u U:Nat} {y z m g d c f q r p L N:Tok}
  {f1 f2 f3 f4 f5 f6 f7 f8 f9 W Y Z A B C D E F I J M Q S H o i n x b a f31 f32 f33 f34 f35 f36 f37 f38 f39 f40 f41 f42 f43 f44 f45 f46 f47 f48 f49 f50 f51:Addr} {d1 d2 d3 d4 d5 d6 d7 d8 d9 d10 d11 d12 d13 d14 d15 d16 d17 d18 d19 d20 d21 d22 d23 d24 d25 d26 d27 d28 d29 d30 d31 d32 d33 d34 d35 d36 d37 d38 d39 d40 d41 d42 d43 d44 d45 d46 d47 d48 d49 d50 O:FuncData}
  {tk1:Tok}
  {tk2:Tok}
  {tk3:Tok}
  {tk4:Tok}
  {tk5:Tok}
  {tk6:Tok}
  {tk7:Tok}
  {tk8:Tok}
  {tk9:Tok}
  {tk10:Tok}
  {tk11:Tok}
  (h1:Fn1 K "is_whole" Z3k f1 d1)
  (h2:Fn1 K "is_width" Z3j f2 d2)
  (h3:Fn1 K "two_to" Z6j f3 d3)
  (h4:Fn1 K "fits" ZbX f4 d4)
  (h5:Fn1 K "parts_within" Z15 f5 d5)
  (h6:Fn1 K "size_of" Z4h f6 d6)
  (h7:Fn1 K "names_read" Z1P f7 d7)
  (h8:Fn1 K "vars_in" Z4g f8 d8)
  (h9:Fn1 K "is_name" Z4i f9 d9)
  (h10:Fn1 K "refuse_name" Z1p W d10)
  (h11:Fn1 K "refuse_unknown" Z0P Y d11)
  (h12:Fn1 K "refuse_ferry_names" Z0o Z d12)
  (h13:Fn1 K "refuse_variables" Z0E A d13)
  (h14:Fn1 K "refuse_term" Z1n B d14)
  (h15:Fn1 K "refuse_step" Z1o C d15)
  (h16:Fn1 K "refuse_island" Z0V D d16)
  (h17:Fn1 K "refuse_islands" Z0Q E d17)
  (h18:Fn1 K "refuse_ferry" Z14 F d18)
  (h19:Fn1 K "refuse_wrong_end" Z0D I d19)
  (h20:Fn1 K "refuse_wrong_ends" Z0w J d20)
  (h21:Fn1 K "frozen" Z6k M d21)
  (h22:Fn1 K "made" ZbW Q d22)
  (h23:Fn1 K "term_words" Z1L S d23)
  (h24:Fn1 K "step_words" Z1M H d24)
  (h25:Fn1 K "island_rows" Z1r o d25)
  (h26:Fn1 K "written" Z4f i d26)
  (h27:Fn1 K "refuse_length" Z0U n d27)
  (h28:Fn1 K "read_number" Z1q x d28)
  (h29:Fn1 K "read_num" Z3h b d29)
  (h30:Fn1 K "read_leaf" Z2r a d30)
  (h31:Fn1 K "marks_of" Z3i f31 d31)
  (h32:Fn1 K "read_term" Z2o f32 d32)
  (h33:Fn1 K "read_step" Z2p f33 d33)
  (h34:Fn1 K "read_pair" Z2q f34 d34)
  (h35:Fn1 K "read_ferry" Z1O f35 d35)
  (h36:Fn1 K "read_width" Z1N f36 d36)
  (h37:Fn1 K "read_row" Z3g f37 d37)
  (h38:Fn1 K "read" ZbV f38 d38)
  (h39:Fn1 K "_law_cell_at" Z17 f39 d39)
  (h40:Fn1 K "_law_stream" Z1s f40 d40)
  (h41:Fn1 K "_law_word" Z2s f41 d41)
  (h42:Fn1 K "_law_width" Z1R f42 d42)
  (h43:Fn1 K "_law_name" Z2w f43 d43)
  (h44:Fn1 K "_law_term" Z2t f44 d44)
  (h45:Fn1 K "_law_step" Z2u f45 d45)
  (h46:Fn1 K "_law_island" Z1t f46 d46)
  (h47:Fn1 K "_law_world" Z1Q f47 d47)
  (h48:Fn1 K "_law_written" Z16 f48 d48)
  (h49:Fn1 K "_law_step_row" Z0W f49 d49)
  (h50:Fn1 K "_law_rows" Z2v f50 d50)
  (h51:Fn1 K "law" Zfo f51 O)
  (z1:Y0n K mainGlobals "all"=some none)
  (z2:Y0n K mainGlobals "bool"=some none)
  (z3:Y0n K mainGlobals "dict"=some none)
  (z4:Y0n K mainGlobals "int"=some none)
  (z5:Y0n K mainGlobals "isinstance"=some none)
  (z6:Y0n K mainGlobals "len"=some none)
  (z7:Y0n K mainGlobals "list"=some none)
  (z8:Y0n K mainGlobals "max"=some none)
  (z9:Y0n K mainGlobals "min"=some none)
  (z10:Y0n K mainGlobals "range"=some none)
  (z11:Y0n K mainGlobals "reversed"=some none)
  (z12:Y0n K mainGlobals "set"=some none)
  (z13:Y0n K mainGlobals "sorted"=some none)
  (z14:Y0n K mainGlobals "str"=some none)
  (z15:Y0n K mainGlobals "tuple"=some none)
  (g1:Y0n K mainGlobals "MOST_WIDTH"=some (some (.int 64 tk1)))
  (g2:Y0n K mainGlobals "MOST_LETTERS"=some (some (.int 8 tk2)))
  (g3:Y0n K mainGlobals "MOST_ISLANDS"=some (some (.int 5 tk3)))
  (g4:Y0n K mainGlobals "MOST_FERRIES"=some (some (.int 6 tk4)))
  (g5:Y0n K mainGlobals "MOST_VARS"=some (some (.int 6 tk5)))
  (g6:Y0n K mainGlobals "MOST_STEPS"=some (some (.int 12 tk6)))
  (g7:Y0n K mainGlobals "MOST_PARTS"=some (some (.int 30 tk7)))
  (g8:Y0n K mainGlobals "MOST_DEPTH"=some (some (.int 8 tk8)))
  (g9:Y0n K mainGlobals "MOST_K"=some (some (.int 3 tk9)))
  (g10:Y0n K mainGlobals "MOST_STAGES"=some (some (.int 3 tk10)))
  (g11:Y0n K mainGlobals "MOST_FIGURES"=some (some (.int 20 tk11)))
  (gx12:Y0n K mainGlobals "PARTS"=some (some (.ref u)))(gy12:K.lookup u=some ⟨.type "dict",none,.dict #[⟨Y1F w.params "plus",.str "plus" y,.int 2 z⟩,⟨Y1F w.params "minus",.str "minus" m,.int 2 g⟩,⟨Y1F w.params "times",.str "times" d,.int 2 c⟩,⟨Y1F w.params "less",.str "less" f,.int 2 q⟩,⟨Y1F w.params "same",.str "same" r,.int 2 p⟩,⟨Y1F w.params "pick",.str "pick" L,.int 3 N⟩] U,#[]⟩)(gz12:(u==sysModules)=false):
  ∃fd:FuncData,(∀(s:Shared)(v:Value),BindsTo s fd ⟨[v],[]⟩ [("script",v)])/\∀j:Heap,K.In j->j.Ns mainGlobals R->FnOk l.prog w K R j CX0 60 fa fd ["script"] (ZdP K):=by
 have e:=hfa.symm.trans (Y0X X G h51.a)
 cases e
 have T:Txt w K R ⟨f1,d1,f2,d2,f3,d3,f4,d4,f5,d5,f6,d6,f7,d7,f8,d8,f9,d9,W,d10,Y,d11,Z,d12,A,d13,B,d14,C,d15,D,d16,E,d17,F,d18,I,d19,J,d20,M,d21,Q,d22,S,d23,H,d24,o,d25,i,d26,n,d27,x,d28,b,d29,a,d30,f31,d31,f32,d32,f33,d33,f34,d34,f35,d35,f36,d36,f37,d37,f38,d38,f39,d39,f40,d40,f41,d41,f42,d42,f43,d43,f44,d44,f45,d45,f46,d46,f47,d47,f48,d48,f49,d49,f50,d50,fa,O⟩:={
  ao:=h1.t X G λ_ _ _ _ _ _=>us1 (λ_=>rfl)
  aK:=h2.t X G λ_ _ _ _ _ _=>us1 (λ_=>rfl)
  aY:=h3.t X G λ_ _ _ _ _ _=>us1 (λ_=>rfl)
  b8:=h4.t X G λ_ _ _ _ _ _=>us2 (λ_ _=>rfl)
  am:=h5.t X G λ_ _ _ _ _ _=>us1 (λ_=>rfl)
  ai:=h6.t X G λ_ _ _ _ _ _=>us1 (λ_=>rfl)
  aq:=h7.t X G λ_ _ _ _ _ _=>us1 (λ_=>rfl)
  aT:=h8.t X G λ_ _ _ _ _ _=>us1 (λ_=>rfl)
  b6:=h9.t X G λ_ _ _ _ _ _=>us1 (λ_=>rfl)
  ah:=h10.t X G λ_ _ _ _ _ _=>us2 (λ_ _=>rfl)
  af:=h11.t X G λ_ _ _ _ _ _=>us2 (λ_ _=>rfl)
  ba:=h12.t X G λ_ _ _ _ _ _=>us1 (λ_=>rfl)
  aS:=h13.t X G λ_ _ _ _ _ _=>us2 (λ_ _=>rfl)
  aH:=h14.t X G λ_ _ _ _ _ _=>us2 (λ_ _=>rfl)
  aV:=h15.t X G λ_ _ _ _ _ _=>us4 (λ_ _ _ _=>rfl)
  bd:=h16.t X G λ_ _ _ _ _ _=>us3 (λ_ _ _=>rfl)
  aD:=h17.t X G λ_ _ _ _ _ _=>us3 (λ_ _ _=>rfl)
  aF:=h18.t X G λ_ _ _ _ _ _=>us2 (λ_ _=>rfl)
  bc:=h19.t X G λ_ _ _ _ _ _=>us4 (λ_ _ _ _=>rfl)
  aW:=h20.t X G λ_ _ _ _ _ _=>us2 (λ_ _=>rfl)
  ae:=h21.t X G λ_ _ _ _ _ _=>us1 (λ_=>rfl)
  aB:=h22.t X G λ_ _ _ _ _ _=>us3 (λ_ _ _=>rfl)
  aw:=h23.t X G λ_ _ _ _ _ _=>us1 (λ_=>rfl)
  aX:=h24.t X G λ_ _ _ _ _ _=>us1 (λ_=>rfl)
  aZ:=h25.t X G λ_ _ _ _ _ _=>us1 (λ_=>rfl)
  aU:=h26.t X G λ_ _ _ _ _ _=>us1 (λ_=>rfl)
  aa:=h27.t X G λ_ _ _ _ _ _=>us2 (λ_ _=>rfl)
  ac:=h28.t X G λ_ _ _ _ _ _=>us1 (λ_=>rfl)
  aL:=h29.t X G λ_ _ _ _ _ _=>us1 (λ_=>rfl)
  aR:=h30.t X G λ_ _ _ _ _ _=>us1 (λ_=>rfl)
  b0:=h31.t X G λ_ _ _ _ _ _=>us1 (λ_=>rfl)
  bb:=h32.t X G λ_ _ _ _ _ _=>us1 (λ_=>rfl)
  aM:=h33.t X G λ_ _ _ _ _ _=>us1 (λ_=>rfl)
  aO:=h34.t X G λ_ _ _ _ _ _=>us1 (λ_=>rfl)
  b9:=h35.t X G λ_ _ _ _ _ _=>us1 (λ_=>rfl)
  aN:=h36.t X G λ_ _ _ _ _ _=>us1 (λ_=>rfl)
  b5:=h37.t X G λ_ _ _ _ _ _=>us3 (λ_ _ _=>rfl)
  aQ:=h38.t X G λ_ _ _ _ _ _=>us1 (λ_=>rfl)
  aE:=h39.t X G λ_ _ _ _ _ _=>us2 (λ_ _=>rfl)
  aj:=h40.t X G λ_ _ _ _ _ _=>us2 (λ_ _=>rfl)
  aJ:=h41.t X G λ_ _ _ _ _ _=>us2 (λ_ _=>rfl)
  b7:=h42.t X G λ_ _ _ _ _ _=>us1 (λ_=>rfl)
  aA:=h43.t X G λ_ _ _ _ _ _=>us2 (λ_ _=>rfl)
  ar:=h44.t X G λ_ _ _ _ _ _=>us3 (λ_ _ _=>rfl)
  aC:=h45.t X G λ_ _ _ _ _ _=>us5 (λ_ _ _ _ _=>rfl)
  aP:=h46.t X G λ_ _ _ _ _ _=>us5 (λ_ _ _ _ _=>rfl)
  b4:=h47.t X G λ_ _ _ _ _ _=>us1 (λ_=>rfl)
  ay:=h48.t X G λ_ _ _ _ _ _=>us1 (λ_=>rfl)
  aI:=h49.t X G λ_ _ _ _ _ _=>us1 (λ_=>rfl)
  aG:=h50.t X G λ_ _ _ _ _ _=>us3 (λ_ _ _=>rfl)
  dW:=h51.t X G λ_ _ _ _ _ _=>us1 (λ_=>rfl)
  cA:=Y0F X G z1
  cm:=Y0F X G z2
  cO:=Y0F X G z3
  bW:=Y0F X G z4
  bP:=Y0F X G z5
  dB:=Y0F X G z6
  bM:=Y0F X G z7
  cV:=Y0F X G z8
  cz:=Y0F X G z9
  cF:=Y0F X G z10
  cP:=Y0F X G z11
  di:=Y0F X G z12
  dl:=Y0F X G z13
  dC:=Y0F X G z14
  bA:=Y0F X G z15
  dA:=⟨_,Y0X X G g1⟩
  ck:=⟨_,Y0X X G g2⟩
  br:=⟨_,Y0X X G g3⟩
  cv:=⟨_,Y0X X G g4⟩
  dO:=⟨_,Y0X X G g5⟩
  cf:=⟨_,Y0X X G g6⟩
  dQ:=⟨_,Y0X X G g7⟩
  dL:=⟨_,Y0X X G g8⟩
  cg:=⟨_,Y0X X G g9⟩
  cw:=⟨_,Y0X X G g10⟩
  bo:=⟨_,Y0X X G g11⟩
  dh:=λP=>⟨_,Y0X X G gx12,_nR (.cons (.cons (.cons (.cons (.cons (.cons .nil)))))) gy12 (by decide) gz12⟩
 }
 exact⟨O,h51.bt λ_ _ _ _ _ _ _=>rfl,λj _ _=>_jK (FnOk.mono (_lM T) (by decide))⟩
theorem walk{l:Y3o}{q:Program}{y:List Str}{e:(Str->Option Value)->Heap->Prop}{c:World->Heap->Prop}{d:DefRec}{K:Params->Y00}(L:l.most=some 63)(g:d.params.defaults=[])
  (N:∀(w:World)(h:Heap),c w h->(K w.params).In h)
  (F:∀(w:World)(m:Str->Option Value)(r:Addr)(h:Heap),(K w.params).In h->h.Ns mainGlobals m->m d.name=some (.ref r)->
   ∃p:FuncData,(∀(s:Shared)(u:Value),BindsTo s p ⟨[u],[]⟩ [("script",u)])/\∀j:Heap,(K w.params).In j->j.Ns mainGlobals m->FnOk l.prog w (K w.params) m j CX0 60 r p ["script"] (ZdP (K w.params))):
  PySem.W.WalkO q y e c l.row.toRowW d [] (λf O=>PySem.call f O):=
 L2.walk_of (n:=63) (k:=60) (x:="script") (A:=fun _=>CX0) (B:=fun w=>ZdP (K w.params)) L (by decide) g ⟨rfl,by decide,by decide⟩ N F (fun _ H a P R T U=>⟨a,P,rfl,_mf T U,R,fun _=>rfl⟩) fun _ _ _ _ _ z=>z
end My
namespace PySem.W.Fast
theorem tw12032772895751373768:True:=trivial
theorem tw10614109721863874183:True:=trivial
theorem tw13480497309941383528:True:=trivial
theorem tw10986816036974325284:True:=trivial
theorem tw14558027894556829184:True:=trivial
theorem tw1676816789950207478:True:=trivial
theorem tw762600712784388835:True:=trivial
theorem tw2492729254164548749:True:=trivial
theorem tw18227487177835846194:True:=trivial
theorem tw18246328288258943340:True:=trivial
theorem tw5742478498548388536:True:=trivial
theorem tw8501691977235025792:True:=trivial
theorem tw1834104565361154914:True:=trivial
theorem tw3543134883404919122:True:=trivial
theorem tw3463955314959986806:True:=trivial
theorem tw14896221606512629910:True:=trivial
theorem tw12575260670004058155:True:=trivial
theorem tw17067791385836242014:True:=trivial
theorem tw14921238398378780901:True:=trivial
theorem tw14545164789043486828:True:=trivial
theorem tw4604306284892314009:True:=trivial
theorem tw4036543913525993602:True:=trivial
theorem tw12791857712500692925:True:=trivial
theorem tw956955418046361059:True:=trivial
theorem tw9977671101633627919:True:=trivial
theorem tw15667421862977843788:True:=trivial
theorem tw15243521209722858794:True:=trivial
theorem tw13649711300010054363:True:=trivial
theorem tw5649190854549058094:True:=trivial
theorem tw6366496897061689253:True:=trivial
theorem tw5089207382159089366:True:=trivial
theorem tw8956953936413043661:True:=trivial
theorem tw10536076204590656267:True:=trivial
theorem tw9218072416826063261:True:=trivial
theorem tw13820263886679184434:True:=trivial
theorem tw2604384358049906623:True:=trivial
theorem tw6889436709859733231:True:=trivial
theorem tw15397737903328730608:True:=trivial
theorem tw14966588416699607436:True:=trivial
theorem tw17943396029296080807:True:=trivial
theorem tw15256227307794138178:True:=trivial
theorem tw8404431004668972767:True:=trivial
theorem tw5548871647196912508:True:=trivial
theorem tw3246791354137857907:True:=trivial
theorem tw13885880078555476264:True:=trivial
theorem tw7992948169096208581:True:=trivial
theorem tw3417410184926186091:True:=trivial
theorem tw6981890769384597776:True:=trivial
theorem tw12319971431627477134:True:=trivial
theorem tw9737935559828841476:True:=trivial
theorem tw1098907356804059701:True:=trivial
theorem tw18058973752431688256:True:=trivial
theorem tw14141088196069689804:True:=trivial
theorem tw9856143453168856463:True:=trivial
theorem tw8928359680728476917:True:=trivial
theorem tw11196300512364140619:True:=trivial
theorem tw15960280232748814573:True:=trivial
theorem tw16658993077954326590:True:=trivial
theorem tw13901685653913964389:True:=trivial
theorem tw15828268654704339765:True:=trivial
theorem tw9706447829999392910:True:=trivial
theorem tw10891394791601828098:True:=trivial
theorem tw5256055599983486415:True:=trivial
theorem tw15350654787286413416:True:=trivial
theorem tw9843256119826201941:True:=trivial
theorem tw4596221871067198654:True:=trivial
theorem tw3877439771738663282:True:=trivial
theorem tw14857877915329468394:True:=trivial
theorem tw1356662776487599640:True:=trivial
theorem tw16459626308017882824:True:=trivial
theorem tw14464314058072323513:True:=trivial
theorem tw11912738544048927465:True:=trivial
theorem tw18017731781999480063:True:=trivial
theorem tw4946408202598749408:True:=trivial
theorem tw18303444401029030367:True:=trivial
theorem tw7572882672412319953:True:=trivial
theorem tw14419416988648280700:True:=trivial
theorem tw6195540012814377299:True:=trivial
theorem tw17213420952717263558:True:=trivial
theorem tw16304201069429240042:True:=trivial
theorem tw1346164950622929390:True:=trivial
theorem tw15939671078615691884:True:=trivial
theorem tw4706500316575666527:True:=trivial
theorem tw16206495076327090353:True:=trivial
theorem tw16599508475913413932:True:=trivial
theorem tw15652225873074873465:True:=trivial
theorem tw12727425487008358947:True:=trivial
theorem tw3323467906434904558:True:=trivial
theorem tw12072539032196414416:True:=trivial
theorem tw2825493961392571885:True:=trivial
theorem tw9704794000150292431:True:=trivial
theorem tw13526894638746413193:True:=trivial
theorem tw1161731812604887515:True:=trivial
theorem tw1490077784691696613:True:=trivial
theorem tw14201064397039595958:True:=trivial
theorem tw9869683589341716272:True:=trivial
theorem tw10619069945384260336:True:=trivial
theorem tw4398103350454116299:True:=trivial
theorem tw7379129739973328371:True:=trivial
theorem tw8913015805332231700:True:=trivial
theorem tw4679991408118808061:True:=trivial
theorem tw951686263983952524:True:=trivial
theorem tw5668381174482212083:True:=trivial
theorem tw9297475113819404883:True:=trivial
theorem tw91280786280779146:True:=trivial
theorem tw14031504380697136459:True:=trivial
theorem tw17921198247898758937:True:=trivial
theorem tw6762180515445539879:True:=trivial
theorem tw10809289931906870387:True:=trivial
theorem tw12423758894031418233:True:=trivial
theorem tw4510051045853658407:True:=trivial
theorem tw18135460088908050208:True:=trivial
theorem tw10823204216933702037:True:=trivial
theorem tw16649267409598150728:True:=trivial
theorem tw1102193629796186701:True:=trivial
theorem tw10136980978022614030:True:=trivial
theorem tw6508289237700650707:True:=trivial
theorem tw15145905596541490306:True:=trivial
theorem tw7652231767182152867:True:=trivial
theorem tw8055227437645779118:True:=trivial
theorem tw14308344649489541125:True:=trivial
theorem tw11750205882793091301:True:=trivial
theorem tw9692503468930294546:True:=trivial
theorem tw14991297525053450160:True:=trivial
theorem tw1972869819641189668:True:=trivial
theorem tw4665687285476683624:True:=trivial
theorem tw6593408173246874145:True:=trivial
theorem tw11380530086118358968:True:=trivial
theorem tw12573602811216383482:True:=trivial
theorem tw15946440419456461973:True:=trivial
theorem tw14745917545095709457:True:=trivial
theorem tw13720551693746013576:True:=trivial
theorem tw11833439684657469774:True:=trivial
theorem tw14124710420099616432:True:=trivial
theorem tw4530592993104263682:True:=trivial
theorem tw8533371981057539696:True:=trivial
theorem tw13439464240325692236:True:=trivial
theorem tw15741932278498856366:True:=trivial
theorem tw6491404521806761332:True:=trivial
theorem tw539060689322528708:True:=trivial
theorem tw6718020794102845049:True:=trivial
theorem tw9654131322544501632:True:=trivial
theorem tw4742973924898825031:True:=trivial
theorem tw16859453974961572672:True:=trivial
theorem tw4250287841836234745:True:=trivial
theorem tw7177017309041776323:True:=trivial
theorem tw11831063216766212742:True:=trivial
theorem tw1410275737910861901:True:=trivial
theorem tw15098198558117941773:True:=trivial
theorem tw16911450043194759218:True:=trivial
theorem tw18190461784979540851:True:=trivial
theorem tw11785614450672712016:True:=trivial
theorem tw699562370101008989:True:=trivial
theorem tw17731994408062530067:True:=trivial
theorem tw10349956369985189598:True:=trivial
theorem tw14797258303556798726:True:=trivial
theorem tw4099070382453161961:True:=trivial
theorem tw385667497585930142:True:=trivial
theorem tw10319279515442751602:True:=trivial
theorem tw8610803881842759636:True:=trivial
theorem tw4733362835375650142:True:=trivial
theorem tw17895383407508910494:True:=trivial
theorem tw560373295210684944:True:=trivial
theorem tw994029983820776868:True:=trivial
theorem tw5736195981089928032:True:=trivial
theorem tw8917494290772360470:True:=trivial
theorem tw8307347928467720973:True:=trivial
theorem tw4213760694037734744:True:=trivial
theorem tw4054143212300409446:True:=trivial
theorem tw11828492144864593253:True:=trivial
theorem tw16485866052445060820:True:=trivial
theorem tw6493815662896060500:True:=trivial
theorem tw5425738796989093381:True:=trivial
theorem tw8225839237239806097:True:=trivial
theorem tw16375460467383132897:True:=trivial
theorem tw9788691515387331832:True:=trivial
theorem tw931139909355816654:True:=trivial
theorem tw10907090254505599742:True:=trivial
theorem tw9994102331004832877:True:=trivial
theorem tw17796661371001339859:True:=trivial
theorem tw8290926061864272394:True:=trivial
theorem tw15123571842826236921:True:=trivial
theorem tw9113089323747865418:True:=trivial
theorem tw6319224273469850532:True:=trivial
theorem tw12955327855221725714:True:=trivial
theorem tw1332326116799536336:True:=trivial
theorem tw16806768520801718649:True:=trivial
theorem tw2468910676031862245:True:=trivial
theorem tw6864011606532343700:True:=trivial
theorem tw16071149005205328882:True:=trivial
theorem tw18305397958849200644:True:=trivial
theorem tw4704104915410116925:True:=trivial
theorem tw9324925563678486721:True:=trivial
theorem tw3330527421521129064:True:=trivial
theorem tw18014856471008494962:True:=trivial
theorem tw11456073508355252549:True:=trivial
theorem tw4942529784669804907:True:=trivial
theorem tw10655190262848634506:True:=trivial
theorem tw897087219119254233:True:=trivial
theorem tw317236136582509651:True:=trivial
theorem tw14519587141545102036:True:=trivial
theorem tw12086326398939867984:True:=trivial
theorem tw13044061604061301691:True:=trivial
theorem tw718222342941950877:True:=trivial
theorem tw2859734383152751485:True:=trivial
theorem tw15976581319870545939:True:=trivial
theorem tw10612361884200310619:True:=trivial
theorem tw1751332995228964687:True:=trivial
theorem tw3733849434670703162:True:=trivial
theorem tw5958951246028631418:True:=trivial
theorem tw2402975557638887781:True:=trivial
theorem tw7281046025784521157:True:=trivial
theorem tw11390280205354059551:True:=trivial
theorem tw4751606748921637685:True:=trivial
theorem tw5710411363971718803:True:=trivial
theorem tw18367904872615568778:True:=trivial
theorem tw7601766699872810003:True:=trivial
theorem tw16823292949899633188:True:=trivial
theorem tw7799251491425140262:True:=trivial
theorem tw2383338600938802735:True:=trivial
theorem tw12688339261643149296:True:=trivial
theorem tw2497628111541173465:True:=trivial
theorem tw10486395985980866478:True:=trivial
theorem tw3947315024513742128:True:=trivial
theorem tw11665955756636288288:True:=trivial
theorem tw7171811276350509267:True:=trivial
theorem tw14807417249587541925:True:=trivial
theorem tw2633220830945207398:True:=trivial
theorem tw7076717267080440957:True:=trivial
theorem tw13751656265486160663:True:=trivial
theorem tw14510446894884813104:True:=trivial
theorem tw871109241277360939:True:=trivial
theorem tw16540957607445059328:True:=trivial
theorem tw8159018242712634240:True:=trivial
theorem tw13176593718596930757:True:=trivial
theorem tw13078497086752246300:True:=trivial
theorem tw11961077815062339656:True:=trivial
theorem tw9575269902994736538:True:=trivial
theorem tw6432000401992569401:True:=trivial
theorem tw8220827539863927848:True:=trivial
theorem tw12275379049164559737:True:=trivial
theorem tw4434531927983732313:True:=trivial
theorem tw559398532155399219:True:=trivial
theorem tw16891236777615023874:True:=trivial
theorem tw16604428379956313583:True:=trivial
theorem tw4731633754367334969:True:=trivial
theorem tw10782595264190394100:True:=trivial
theorem tw16669102948381721483:True:=trivial
theorem tw10925509683301456019:True:=trivial
theorem tw17938434367555263159:True:=trivial
theorem tw9947639268212642355:True:=trivial
theorem tw14072272262955606589:True:=trivial
theorem tw718961013418173646:True:=trivial
theorem tw4924579417380940371:True:=trivial
theorem tw7192319920281360275:True:=trivial
theorem tw10339603021384917869:True:=trivial
theorem tw7001512833635967871:True:=trivial
theorem tw2689568570761781467:True:=trivial
theorem tw3204792711019726181:True:=trivial
theorem tw7585853402122914390:True:=trivial
theorem tw13581927120565339031:True:=trivial
theorem tw7702552327298426092:True:=trivial
theorem tw6193002427967763383:True:=trivial
theorem tw9389519471681966368:True:=trivial
theorem tw15380230635710978692:True:=trivial
theorem tw18374040657501856529:True:=trivial
theorem tw13404358653164833884:True:=trivial
theorem tw17612649663665657883:True:=trivial
theorem tw17849156619929201739:True:=trivial
theorem tw12336572608386537424:True:=trivial
theorem tw18292640655428881972:True:=trivial
theorem tw15401130534882574503:True:=trivial
theorem tw1494394990315311263:True:=trivial
theorem tw7222360483524027505:True:=trivial
theorem tw5951739461056849834:True:=trivial
theorem tw11347127275351808156:True:=trivial
theorem tw14329514820004166914:True:=trivial
theorem tw3460256313720819504:True:=trivial
theorem tw5072410040550979145:True:=trivial
theorem tw14327133144766519200:True:=trivial
theorem tw9277181441470455036:True:=trivial
theorem tw10945457372980127235:True:=trivial
theorem tw2869587204463982611:True:=trivial
theorem tw16007159863735117596:True:=trivial
theorem tw8753895611688380756:True:=trivial
theorem tw6857974226623040003:True:=trivial
theorem tw4500890939621503467:True:=trivial
theorem tw6542911683952677351:True:=trivial
theorem tw6904114063808484462:True:=trivial
theorem tw1300564910126277174:True:=trivial
theorem tw9241051565564837311:True:=trivial
theorem tw8455161723596872334:True:=trivial
theorem tw7085195224494933379:True:=trivial
theorem tw18408097499480467223:True:=trivial
theorem tw6587973178737156384:True:=trivial
theorem tw14378862419518976720:True:=trivial
theorem tw6555126872245482202:True:=trivial
theorem tw8460566747795107041:True:=trivial
theorem tw11194517284680010196:True:=trivial
theorem tw8752920393476450088:True:=trivial
theorem tw12862719537118433469:True:=trivial
theorem tw15280143946538838605:True:=trivial
theorem tw5668711175544315520:True:=trivial
theorem tw1836269114136833407:True:=trivial
theorem tw12343166321642659649:True:=trivial
theorem tw168340809940647760:True:=trivial
theorem tw6723644055804690104:True:=trivial
theorem tw12324347798899678311:True:=trivial
theorem tw13128639010651926931:True:=trivial
theorem tw16893896404907641566:True:=trivial
theorem tw18277454224552382105:True:=trivial
theorem tw12578231843976429667:True:=trivial
theorem tw8264054243237218934:True:=trivial
theorem tw7709603394863894279:True:=trivial
theorem tw9994215216195713982:True:=trivial
theorem tw14564035356178614715:True:=trivial
theorem tw1507498766814205427:True:=trivial
theorem tw5330355868588499242:True:=trivial
theorem tw13787493547614219051:True:=trivial
theorem tw71611125211559390:True:=trivial
theorem tw16009163670135077080:True:=trivial
theorem tw17376102597436004284:True:=trivial
theorem tw1508955130375082264:True:=trivial
theorem tw4324601130771337437:True:=trivial
theorem tw1531270728887428392:True:=trivial
theorem tw8709485445779404563:True:=trivial
theorem tw6986301407818281486:True:=trivial
theorem tw3797176954425714727:True:=trivial
theorem tw11989137475435570322:True:=trivial
theorem tw15481066133680326907:True:=trivial
theorem tw11125215040926156771:True:=trivial
theorem tw14172276774210756282:True:=trivial
theorem tw2698916213211886490:True:=trivial
theorem tw17793559305560691761:True:=trivial
theorem tw2850903359687097725:True:=trivial
theorem tw6232240767857413025:True:=trivial
theorem tw11616153372352962716:True:=trivial
theorem tw12692404437988396182:True:=trivial
theorem tw7890993114991447462:True:=trivial
theorem tw17096347366974463078:True:=trivial
theorem tw6861568966191418866:True:=trivial
theorem tw202252732269933767:True:=trivial
theorem tw17464212882334935243:True:=trivial
theorem tw16140561303494868038:True:=trivial
theorem tw1875525266515168029:True:=trivial
theorem tw14656491049564311741:True:=trivial
theorem tw10835839990683218612:True:=trivial
theorem tw18367746330446107107:True:=trivial
theorem tw13912055625817951291:True:=trivial
theorem tw18006314167678386053:True:=trivial
theorem tw12869427265838098734:True:=trivial
theorem tw3979575787815264583:True:=trivial
theorem tw7528372136862503498:True:=trivial
theorem tw7692423394874796912:True:=trivial
theorem tw10482290351152426802:True:=trivial
theorem tw2215373815987305936:True:=trivial
theorem tw17426765357833847535:True:=trivial
theorem tw14511444622107873558:True:=trivial
theorem tw17825904383632532021:True:=trivial
theorem tw3277051089550865719:True:=trivial
theorem tw3984243081215368973:True:=trivial
theorem tw1938075300186863458:True:=trivial
theorem tw17684249864360177922:True:=trivial
theorem tw6976637008107825349:True:=trivial
theorem tw17050994789871491100:True:=trivial
theorem tw4614204725995673857:True:=trivial
theorem tw7536858746336818740:True:=trivial
theorem tw2370182040422860548:True:=trivial
theorem tw1282543572504935521:True:=trivial
theorem tw8132771120595365692:True:=trivial
theorem tw7549008138367973868:True:=trivial
theorem tw9235840101914054668:True:=trivial
theorem tw10462471984769165457:True:=trivial
theorem tw11300654023887239713:True:=trivial
theorem tw7082774069141832355:True:=trivial
theorem tw16240653380016814056:True:=trivial
theorem tw3604970383733533605:True:=trivial
theorem tw12672538586754732:True:=trivial
theorem tw5587015936206078519:True:=trivial
theorem tw2559237889730553008:True:=trivial
theorem tw13922963236703462681:True:=trivial
theorem tw2151557897694149472:True:=trivial
theorem tw4502976454319633854:True:=trivial
theorem tw12016801282024851833:True:=trivial
theorem tw9593520879771500355:True:=trivial
theorem tw6374677372479346397:True:=trivial
theorem tw8162213681594041271:True:=trivial
theorem tw11357798249742226072:True:=trivial
theorem tw9194768173769895733:True:=trivial
theorem tw12117782674343550853:True:=trivial
theorem tw4016737396589703832:True:=trivial
theorem tw10920918460917229561:True:=trivial
theorem tw17651867343246292128:True:=trivial
theorem tw3672978418657170290:True:=trivial
theorem tw3609218929046446727:True:=trivial
theorem tw15329946864388694785:True:=trivial
theorem tw8272049925953284613:True:=trivial
theorem tw13031148634004159156:True:=trivial
theorem tw13139801306291947618:True:=trivial
theorem tw13138915165507454681:True:=trivial
theorem tw241506849830106133:True:=trivial
theorem tw18339250406956996717:True:=trivial
theorem tw11076572053703906508:True:=trivial
theorem tw5529219872693993297:True:=trivial
theorem tw17360530890477524349:True:=trivial
theorem tw18033973690346748317:True:=trivial
theorem tw5170391866610101772:True:=trivial
theorem tw5737825375230145990:True:=trivial
theorem tw14934335335794081650:True:=trivial
theorem tw13536801351538848869:True:=trivial
theorem tw14339699513629888015:True:=trivial
theorem tw12602699937240987259:True:=trivial
theorem tw95679238521077687:True:=trivial
theorem tw6455398929961195664:True:=trivial
theorem tw1947963808636459576:True:=trivial
theorem tw7855412937222359428:True:=trivial
theorem tw17459598932330247765:True:=trivial
theorem tw779627526582750549:True:=trivial
theorem tw10918472854754599350:True:=trivial
theorem tw17931737630277395715:True:=trivial
theorem tw13755073172435912147:True:=trivial
theorem tw3863714263422170626:True:=trivial
theorem tw13803742465082720343:True:=trivial
theorem tw13995335854451576497:True:=trivial
theorem tw15810329396703392814:True:=trivial
theorem tw5055766253690409669:True:=trivial
theorem tw14601842396202849769:True:=trivial
theorem tw16820781923621782517:True:=trivial
theorem tw14146125440651540074:True:=trivial
theorem tw1590005853655801215:True:=trivial
theorem tw2732976925550931884:True:=trivial
theorem tw136518734421441778:True:=trivial
theorem tw7939486957865100905:True:=trivial
theorem tw12965101656559021613:True:=trivial
theorem tw18131644305479564219:True:=trivial
theorem tw10231629832167377467:True:=trivial
theorem tw14116811924501938364:True:=trivial
theorem tw12277424910707506986:True:=trivial
theorem tw8445111308537475386:True:=trivial
theorem tw13456621977027810765:True:=trivial
theorem tw7758356967299406794:True:=trivial
theorem tw2673871666922369806:True:=trivial
theorem tw16037095781346023741:True:=trivial
theorem tw2407856418616584547:True:=trivial
theorem tw14673728158874949413:True:=trivial
theorem tw7527965545889841506:True:=trivial
theorem tw5466907003147129645:True:=trivial
theorem tw6641481966331016052:True:=trivial
end PySem.W.Fast
open PySem PySem.W PyProof.Rows
local macro_rules | `(tactic| walk_at "q_fn") => `(tactic| (refine' ⟨?a, L2.fun_mk ?l ?c ?k⟩; (case a => k_is); (case l => k_is); (case c => k_is); (case k => k_is)))
set_option maxRecDepth 100000 in
set_option maxHeartbeats 0 in
theorem PySem.Challenge.cw_bellferry_k66_written_and_read_again_holds : PySem.Challenge.rw_bellferry_k66_written_and_read_again.Holds := by
 w_on;o_law;k_head;(case hw=>w_witness2)
 k_fill
 refine My.walk (l:=PySem.Challenge.rw_bellferry_k66_written_and_read_again) rfl rfl (λw h Y=>PySem.W.kIn_of Y) ?F
 case F=>
  intro w y z h u G j
  refine' My.all_mk u G j ?h1 ?h2 ?h3 ?h4 ?h5 ?h6 ?h7 ?h8 ?h9 ?h10 ?h11 ?h12 ?h13 ?h14 ?h15 ?h16 ?h17 ?h18 ?h19 ?h20 ?h21 ?h22 ?h23 ?h24 ?h25 ?h26 ?h27 ?h28 ?h29 ?h30 ?h31 ?h32 ?h33 ?h34 ?h35 ?h36 ?h37 ?h38 ?h39 ?h40 ?h41 ?h42 ?h43 ?h44 ?h45 ?h46 ?h47 ?h48 ?h49 ?h50 ?h51 ?z1 ?z2 ?z3 ?z4 ?z5 ?z6 ?z7 ?z8 ?z9 ?z10 ?z11 ?z12 ?z13 ?z14 ?z15 ?g1 ?g2 ?g3 ?g4 ?g5 ?g6 ?g7 ?g8 ?g9 ?g10 ?g11 ?gx12 ?gy12 ?gz12
  (case h1=>walk_at "q_fn")
  (case h2=>walk_at "q_fn")
  (case h3=>walk_at "q_fn")
  (case h4=>walk_at "q_fn")
  (case h5=>walk_at "q_fn")
  (case h6=>walk_at "q_fn")
  (case h7=>walk_at "q_fn")
  (case h8=>walk_at "q_fn")
  (case h9=>walk_at "q_fn")
  (case h10=>walk_at "q_fn")
  (case h11=>walk_at "q_fn")
  (case h12=>walk_at "q_fn")
  (case h13=>walk_at "q_fn")
  (case h14=>walk_at "q_fn")
  (case h15=>walk_at "q_fn")
  (case h16=>walk_at "q_fn")
  (case h17=>walk_at "q_fn")
  (case h18=>walk_at "q_fn")
  (case h19=>walk_at "q_fn")
  (case h20=>walk_at "q_fn")
  (case h21=>walk_at "q_fn")
  (case h22=>walk_at "q_fn")
  (case h23=>walk_at "q_fn")
  (case h24=>walk_at "q_fn")
  (case h25=>walk_at "q_fn")
  (case h26=>walk_at "q_fn")
  (case h27=>walk_at "q_fn")
  (case h28=>walk_at "q_fn")
  (case h29=>walk_at "q_fn")
  (case h30=>walk_at "q_fn")
  (case h31=>walk_at "q_fn")
  (case h32=>walk_at "q_fn")
  (case h33=>walk_at "q_fn")
  (case h34=>walk_at "q_fn")
  (case h35=>walk_at "q_fn")
  (case h36=>walk_at "q_fn")
  (case h37=>walk_at "q_fn")
  (case h38=>walk_at "q_fn")
  (case h39=>walk_at "q_fn")
  (case h40=>walk_at "q_fn")
  (case h41=>walk_at "q_fn")
  (case h42=>walk_at "q_fn")
  (case h43=>walk_at "q_fn")
  (case h44=>walk_at "q_fn")
  (case h45=>walk_at "q_fn")
  (case h46=>walk_at "q_fn")
  (case h47=>walk_at "q_fn")
  (case h48=>walk_at "q_fn")
  (case h49=>walk_at "q_fn")
  (case h50=>walk_at "q_fn")
  (case h51=>walk_at "q_fn")
  (case z1=>k_is)
  (case z2=>k_is)
  (case z3=>k_is)
  (case z4=>k_is)
  (case z5=>k_is)
  (case z6=>k_is)
  (case z7=>k_is)
  (case z8=>k_is)
  (case z9=>k_is)
  (case z10=>k_is)
  (case z11=>k_is)
  (case z12=>k_is)
  (case z13=>k_is)
  (case z14=>k_is)
  (case z15=>k_is)
  (case g1=>k_is)
  (case g2=>k_is)
  (case g3=>k_is)
  (case g4=>k_is)
  (case g5=>k_is)
  (case g6=>k_is)
  (case g7=>k_is)
  (case g8=>k_is)
  (case g9=>k_is)
  (case g10=>k_is)
  (case g11=>k_is)
  (case gx12=>k_is)
  (case gy12=>k_is)
  (case gz12=>first|rfl|decide)
