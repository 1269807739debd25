import PyProof.Rows.All
import Wide.All
import OpenK.AllK
import Wide.FinOn
import Lean
import PyProof.EqAt
import PyProof.EqKinds
import PyProof.TupleCall
import PySem.Challenge.RW_bellferry_k21_a_world_made
import PyProof.Rows.SetFrom
import PyProof.FactsAll.set_1
import PyProof.CollectWalk
import PyProof.Rows.SortStr
import PyProof.IsiH_list
import PyProof.ConsumeWalk
import PyProof.StrWalks
import PyProof.IsiH_tuple
import PyProof.SliceStr2
import PyProof.ListRange
import PyProof.Rows.Range3
import PyProof.Rows.CallKwBuiltin
import PyProof.WalkInts
import PyProof.FString5
import PyProof.ExcClass2
import PyProof.ExcBaseAll.ValueError
import PyProof.StrLawsRepr
import OpenK.KNot
import PyProof.ExcArgsOwn
import PyProof.ExcAttrAll.ValueError
import PyProof.NsDelKeeps
import PyProof.Rows.CatchOwn
set_option Elab.async false
set_option linter.all false
set_option maxRecDepth 100000
set_option maxHeartbeats 8000000
set_option genSizeOf false
set_option genSizeOfSpec false
noncomputable section
set_option bootstrap.genMatcherCode false
set_option compiler.extract_closed false
open PySem.W renaming Frag→Y00, nsIn→Y0h, mg_none_of→Y0D, mg_of→Y0T, keepIn→Y0V, kia_one→Y0Z, kia_tup→Y12, kitOne→Y17, kitAny→Y1A, fnOf→Y1Q, findIn→Y1Y, hideAll→Y28, kitx_list→Y2f, kitx_dict→Y2g, methodObj→Y2L, cellsFrom_some→Y33, instObj→Y38, OpenLaw→Y3d, lookIn→Y3r, codeIn→Y3s, hideAll_get→Y3x, mroIn→Y3F
open List renaming getElem?_eq_getElem→Y01, length_map→Y03, getElem?_map→Y06, getElem?_eq_some_iff→Y08, map_cons→Y0b, mem_cons→Y0d, size_toArray→Y0e, mem_cons_of_mem→Y0g, mem_of_getElem?→Y0i, mem_cons_self→Y0l, mem_map→Y0o, getElem_mem→Y0p, not_mem_nil→Y0q, getD_cons_succ→Y0r, getD_cons_zero→Y0s, length_append→Y0t, getD_eq_getElem?_getD→Y0x, length_take→Y0A, cons_append→Y0B, range→Y0E, nil_append→Y0F, getElem?_append_left→Y0H, length_cons→Y0I, mem_append_right→Y0L, map_nil→Y0M, getElem?_eq_none→Y0Q, map_map→Y0R, getElem?_append_right→Y0S, getElem_of_mem→Y0U, take_of_length_le→Y0X, map_append→Y11, all_cons→Y13, length_range→Y15, getElem?_set→Y16, lookup_cons→Y18, mem_append→Y1a, mem_singleton→Y1c, filterMap_cons→Y1d, nodup_append→Y1g, take_add_one→Y1h, append_nil→Y1i, nodup_cons→Y1j, length_drop→Y1l, eq_nil_of_length_eq_zero→Y1m, getElem?_set_ne→Y1n, any_cons→Y1o, length_singleton→Y1x, getElem?_take_of_lt→Y1D, replicate→Y1K, drop_eq_nil_of_le→Y1M, find?_cons→Y1R, append_assoc→Y1U, getElem?_inj→Y1W, length_eq_zero_iff→Y2a, foldl_cons→Y2c, ext_getElem?→Y2i, length_replicate→Y2j, mem_of_mem_take→Y2n, of_mem_zip→Y2r, length_eraseIdx_of_lt→Y2y, mem_filterMap→Y2A, mem_range→Y2E, getElem?_zip_eq_some→Y2J, pairwise_iff_getElem→Y2K, take_sublist→Y2M, foldl_append→Y2V, getElem?_replicate→Y2W, all_eq_true→Y2Y, take_length→Y2Z, getElem_map→Y31, getElem?_set_self→Y32, mem_filter→Y39, map_id'→Y3n, length_zip→Y3o, drop_zero→Y3w, getD→Y3J
open PySem.Heap renaming get?_push_of_some→Y02, lt_size→Y09, get?_push_size→Y0a, get?_update_self→Y1k, size_push→Y1p, get?_update_other→Y1v, SameBut→Y1P, ExtBut→Y3A
open Bool renaming and_eq_true→Y04, false_ne_true→Y05, false_eq_true→Y0m, not_eq_true'→Y1r, or_true→Y1G, not_true→Y1V, and_true→Y1X, or_self→Y2m, false_or→Y2o, eq_iff_iff→Y2q, or_eq_true→Y2u, false_and→Y2G, not_false→Y2I, true_or→Y3c, and_false→Y3t, or_false→Y3G, true_and→Y3I
open Nat renaming le_refl→Y07, ne_of_lt→Y0f, lt_of_lt_of_le→Y0y, le_trans→Y0N, lt_succ_of_lt→Y1q, zero_le→Y1t, lt_irrefl→Y1H, ne_of_gt→Y23, lt_trans→Y25, le_of_eq→Y26, min_eq_right→Y30, le_of_lt→Y3a, not_lt_zero→Y3e, min_eq_left→Y3m, le_succ→Y3z
open Array renaming length_toList→Y0c, getElem?_eq_getElem→Y0W, toList_append→Y22, getElem?_eq_none→Y2e, getElem?_toList→Y3f
open PySem.Value renaming none→Y0j, ref→Y0k, type→Y0n, str→Y0v, bool→Y0Y, int→Y3C
open Int renaming emod_lt_of_pos→Y0u, emod_nonneg→Y0z, toNat_of_nonneg→Y19, toNat_natCast→Y1e
open PySem.Str renaming ofString→Y0w, empty→Y3b, length→Y3L
open Option.some renaming inj→Y0C, injEq→Y2h
open False renaming elim→Y0G
open PySem.NameKind renaming free→Y0J, cell→Y29
open PySem.Around renaming under_plainId→Y0K
open PyProof.Rows renaming callWith_type1→Y0O, slot_tuple_getitem→Y0P, callWith_builtin1→Y2k
open PySem.Heap.SameBut renaming update→Y10
open PySem.Builtin.Str renaming glued→Y14, strSliceIndices→Y1u, tooLong→Y3y
open PySem.Builtin.Range renaming rangeSize→Y1b, small→Y3B
open PySem.Builtin.Tuple renaming tupleCompareSizes→Y1f, tupleExact→Y1E, tupleItemsOf→Y2x, tupleIsExact→Y2z
open PySem renaming mem_of_lookup→Y1s
open Sum renaming inr→Y1w, inl→Y3K
open PySem.Builtin.Slice renaming slicePlaces→Y1y, sliceAdjust→Y1Z, sliceApplied→Y2w
open PySem.Builtin.Dict renaming dictSlotArgs→Y1z, updateFrom→Y1J, selfAndRest→Y2U, samePairs→Y37
open PySem.F renaming slot_tuple_getattribute→Y1B, slot_list_getattribute→Y1F, called_set→Y1S, slot_dict_keyiterator_iter→Y27, args_tuple_add_2→Y2N, entry_tuple_add→Y2X, slot_tuple_add→Y34, sub_dict_dict→Y3g, slot_str_join→Y3h, slot_list_pop→Y3i, type_list_pop→Y3j, slot_dict_get→Y3k, type_dict_get→Y3l, slot_dict_eq→Y3p, slot_dict_ne→Y3q, slot_list_eq→Y3u, slot_list_ne→Y3v
open True renaming intro→Y1C
open PySem.Data renaming fields→Y1I, seq→Y21
open PySem.SetTable renaming grown→Y1L, below→Y2H
open Iff renaming rfl→Y1N
open PySem.Calls renaming spliced_cons→Y1O, spliced_nil→Y1T, Name_function_global→Y2v, callWith_builtin→Y35
open PySem.Manifest renaming find?→Y20
open PySem.Builtin.List renaming listTooLong→Y24, listExtendWith→Y2t, listSameRef→Y2T
open PySem.Obj renaming data_mapFields→Y2b, isFreed_of_fields→Y2l, mapSeq→Y2O, cls_mapFields→Y2R, mapFields→Y3H
open Option renaming map_eq_some_iff→Y2d, toList_some→Y2B, isSome_map→Y2P
open PySem.Shared renaming TypeIs→Y2p
open ForInStep renaming yield→Y2s
open PySem.ScopeKind renaming function→Y2C
open Nat.succ renaming inj→Y2D
open Ne renaming symm→Y2F
open PySem.AutoSeq1 renaming sub_tuple_tuple→Y2Q, sub_list_list→Y36
open PySem.Builtin.Frozenset renaming sizeOf→Y2S
open PySem.SeqAt.EqAt renaming int_str→Y3D, str_int→Y3E
open PySem.SetTable.below renaming go→Y3M
open Char renaming toNat→Y3N
open Sum.inr renaming inj→Y3O
open PySem.IsRange renaming new→Y3P
open PySem.Heap.DictOf renaming new→Y3Q
namespace L2
open PySem PySem.Spec PyProof.Rows
theorem fMc{α:Type _}{p:α->Prop}{a:α}{l:List α}(h:p a/\∀x∈l,p x):∀x∈a::l,p x:=List.forall_mem_cons.2 h
noncomputable abbrev Key:=Sum Int Str
noncomputable def Zc1:Key->Value->Bool
 |.inl k,v=>Value.isInt k v
 |.inr x,v=>Value.isStrOf x v
noncomputable def keyH(w:World):Key->Int
 |.inl k=>hashInt k
 |.inr x=>hashStr w x
theorem Z0E:∀{k:Key} {v:Value},Zc1 k v=true->(∃i t,k=Y3K i/\v=Y3C i t)\/(∃x t,k=Y1w x/\v=Y0v x t)
 |.inl i,v,h=>by
  obtain⟨t,e⟩:=Value.isInt_shape (k:=i) (v:=v) h
  exact .inl ⟨i,t,rfl,e⟩
 |.inr x,v,h=>by
  obtain⟨t,e⟩:=Value.isStrOf_shape (x:=x) (v:=v) h
  exact .inr ⟨x,t,rfl,e⟩
theorem Zdl(i:Int)(t:Tok):Zc1 (.inl i) (.int i t)=true:=by simp[Zc1,Value.isInt]
theorem Zdk(x:Str)(t:Tok):Zc1 (.inr x) (.str x t)=true:=by simp[Zc1,Value.isStrOf]
theorem ZjI(a b:Int):decide ((Y3K a:Key)=Y3K b)=(a==b):=by
 by_cases e:a=b
 ·subst e;simp
 ·have h:¬(Y3K a:Key)=Y3K b:=λq=>e (Sum.inl.inj q)
  rw[decide_eq_false h]
  exact(beq_eq_false_iff_ne.mpr e).symm
theorem ZjF(a b:Str):decide ((Y1w a:Key)=Y1w b)=decide (a=b):=by
 by_cases e:a=b
 ·subst e;simp
 ·have h:¬(Y1w a:Key)=Y1w b:=λq=>e (Y3O q)
  rw[decide_eq_false h,decide_eq_false e]
theorem ZjH(a:Int)(b:Str):decide ((Y3K a:Key)=Y1w b)=false:=decide_eq_false (λq=>nomatch q)
theorem ZjG(a:Str)(b:Int):decide ((Y1w a:Key)=Y3K b)=false:=decide_eq_false (λq=>nomatch q)
noncomputable def Z0Q(prog:Program)(w:World):PySem.KeyKind prog w Key where
 is:=Zc1
 hash:=keyH w
 inj:=λv a b ha hb=>by
  rcases Z0E ha with⟨i,t,rfl,rfl⟩|⟨x,t,rfl,rfl⟩
  ·rcases Z0E hb with⟨j,u,rfl,e⟩|⟨y,u,rfl,e⟩
   ·injection e with e1 _;rw[e1]
   ·exact nomatch e
  ·rcases Z0E hb with⟨j,u,rfl,e⟩|⟨y,u,rfl,e⟩
   ·exact nomatch e
   ·injection e with e1 _;rw[e1]
 byValue:=λk v h=>by
  rcases Z0E h with⟨i,t,rfl,rfl⟩|⟨x,t,rfl,rfl⟩<;>rfl
 pyHash:=λhv h=>by
  rcases Z0E hv with⟨i,t,rfl,rfl⟩|⟨x,t,rfl,rfl⟩
  ·exact wpAny_pyHash_int h
  ·exact wpAny_pyHash_str h
 eqBool:=λhu hv h=>by
  rcases Z0E hu with⟨i,t,rfl,rfl⟩|⟨x,t,rfl,rfl⟩
  ·rcases Z0E hv with⟨j,u,rfl,rfl⟩|⟨y,u,rfl,rfl⟩
   ·rw[ZjI]at h;exact wpAny_eqBool_int h
   ·rw[ZjH]at h;exact Y3D i t y u _ _ _ _ h
  ·rcases Z0E hv with⟨j,u,rfl,rfl⟩|⟨y,u,rfl,rfl⟩
   ·rw[ZjG]at h;exact Y3E x t j u _ _ _ _ h
   ·rw[ZjF]at h;exact wpAny_eqBool_str h
 «strs»:=λk x t v h=>by
  rcases Z0E h with⟨i,u,rfl,e⟩|⟨y,u,rfl,e⟩
  ·exact nomatch e
  ·injection e with e1 _
   subst e1
   cases v<;>rfl
theorem ZaD(prog:Program)(w:World)(i:Int)(t:Tok):(Z0Q prog w).is (.inl i) (.int i t)=true:=Zdl i t
theorem ZaC(prog:Program)(w:World)(x:Str)(t:Tok):(Z0Q prog w).is (.inr x) (.str x t)=true:=Zdk x t
end L2
namespace L2
open PySem PySem.Spec PyProof.Rows
inductive V where
 |non|bl (b:Bool)|int (i:Int)|str (x:Str)|byt (b:Array UInt8)|flt (b:UInt64)|ref (a:Addr)|ty (n:String)
  deriving DecidableEq
noncomputable def RelV:V->Value->Prop
 |.non,u=>u=Y0j
 |.bl b,u=>u=Y0Y b
 |.int i,u=>∃t,u=Y3C i t
 |.str x,u=>∃t,u=Y0v x t
 |.byt b,u=>∃t,u=Value.bytes b t
 |.flt b,u=>∃t,u=Value.float b t
 |.ref a,u=>u=Y0k a
 |.ty n,u=>u=Y0n n
noncomputable abbrev Vals:List V->List Value->Prop:=Paired RelV
theorem Vals.length{xs:List V}{us:List Value}(r:Vals xs us):xs.length=us.length:=Paired.length r
theorem Vals.get:∀{xs:List V} {us:List Value} {i:Nat} {x:V},Vals xs us->xs[i]?=some x->∃u,us[i]?=some u/\RelV x u
 |_,_,_,_,.nil,e=>by simp at e
 |_,_,0,_,.cons r _,e=>by simp at e;subst e;exact⟨_,rfl,r⟩
 |_,_,i+1,x,.cons _ t,e=>by
  obtain⟨u,h1,h2⟩:=Vals.get (i:=i) (x:=x) t (by simpa using e)
  exact⟨u,by simpa using h1,h2⟩
theorem Vals.append:∀{xs ys:List V} {us ws:List Value},Vals xs us->Vals ys ws->Vals (xs++ys) (us++ws)
 |_,_,_,_,.nil,s=>s
 |_,_,_,_,.cons r t,s=>.cons r (Vals.append t s)
theorem Vals.take:∀{xs:List V} {us:List Value} (n:Nat),Vals xs us->Vals (xs.take n) (us.take n)
 |_,_,0,_=>.nil
 |_,_,_+1,.nil=>.nil
 |_,_,n+1,.cons r t=>.cons r (Vals.take n t)
theorem Vals.drop:∀{xs:List V} {us:List Value} (n:Nat),Vals xs us->Vals (xs.drop n) (us.drop n)
 |_,_,0,r=>r
 |_,_,_+1,.nil=>.nil
 |_,_,n+1,.cons _ t=>Vals.drop n t
noncomputable def RelO:Option V->Option Value->Prop
 |some v,some u=>RelV v u
 |none,none=>True
 |_,_=>False
noncomputable def KV{κ:Type}:List (κ×V)->List (κ×Value)->Prop:=Paired fun(p:κ×V) (q:κ×Value)=>p.1=q.1/\RelV p.2 q.2
noncomputable def kV:Key->V
 |.inl i=>.int i
 |.inr x=>.str x
inductive HO where
 |lst (xs:List V)
 |tup (xs:List V)
 |dK (kvs:List (Key×V))|dT (kvs:List (List Key×V))
 |set (S:Int->Bool) (n:Nat)
 |ins (C dx:Addr) (fs:List (Str×V))
 |own (x:Addr)
 |xd (fs:List (Str×V))
 |met (f x:Addr)
 |rng (lo hi:Int)
 |frz (o:Obj) (u:HO)
 |tbl (ps:Array Value)
 |ext (φ:Heap->Prop)
noncomputable abbrev Hp:=Addr->Option HO
noncomputable def upd(H:Hp)(a:Addr)(o:HO):Hp:=λb=>if b=a then some o else H b
theorem Z13{H:Hp}{a:Addr}{o:HO}:upd H a o a=some o:=by unfold upd;rw[if_pos rfl]
theorem Z0g{H:Hp}{a b:Addr}{o:HO}(h:b≠a):upd H a o b=H b:=by unfold upd;rw[if_neg h]
theorem ZlK{H:Hp}{a b:Addr}{o u:HO}(h:H a=some o)(h':H b=some u)(d:o≠u):a≠b:=by
 intro e;subst e;rw[h]at h';exact d (Y0C h')
theorem Z1o{H:Hp}{a b:Addr}{o:HO}(h:H a=some o)(h':H b=none):a≠b:=by
 intro e;subst e;rw[h]at h';cases h'
section
variable(P:Program)(w:World)
noncomputable def ObjOk(H:Hp)(h:Heap)(a:Addr):HO->Prop
 |.lst xs=>xs.length≤sizeLine/\∃(its:List Value) (n:Nat),Vals xs its/\h.get? a=some {cls:=.type "list",data:=.seq its.toArray n}
 |.tup xs=>xs.length≤sizeLine/\∃its:List Value,Vals xs its/\IsTup h a its.toArray/\∃o,h.get? a=some o/\o.dict=none
 |.dK kvs=>kvs.length≤sizeLine/\(a==sysModules)=false/\∃vs,KV kvs vs/\h.DictOf (Z0Q P w) a vs
 |.dT kvs=>kvs.length≤sizeLine/\(a==sysModules)=false/\∃xs:List (List Key×Addr×Value),
   Paired (fun(p:List Key×V) (q:List Key×Addr×Value)=>p.1=q.1/\H q.2.1=some (.tup (p.1.map kV))/\RelV p.2 q.2.2) kvs xs/\
   ∃o es ep,h.get? a=some o/\o.ExactDict/\o.data=.dict es ep/\es.toList=xs.map (entryOfKey (tupleKind (Z0Q P w)))/\(xs.map (·.1)).Nodup
 |.set S n=>h.SetOf (intKind P w) a S n
 |.ins C dx fs=>H dx=some (.own a)/\fs.length≤1000/\dx≠a/\h.get? a=some (Y38 C dx)/\
   ∃mA,h.Ns1 dx mA/\(∀f,RelO (fs.lookup f) (mA f))/\PySem.Within mA (fs.map (·.1))
 |.own _=>∃o,h.get? a=some o
 |.xd fs=>∃mA,h.Ns1 a mA/\∀f,RelO (fs.lookup f) (mA f)
 |.rng lo hi=>∃t u v,h.get? a=some {cls:=.type "range",data:=.fields #[.int lo t,.int hi u,.int 1 v]}
 |.frz o u=>h.get? a=some o/\ObjOk H h a u
 |.tbl ps=>h.get? a=some {cls:=.none,data:=.fields ps}
 |.met f x=>h.get? a=some (Y2L (.ref f) (.ref x))
 |.ext φ=>φ h/\(∃o,h.get? a=some o)/\∀h1 h2:Heap,φ h1->(∀o,h1.get? a=some o->h2.get? a=some o)->φ h2
noncomputable def HOk(H:Hp)(h:Heap):Prop:=∀a o,H a=some o->ObjOk P w H h a o
end
section
variable{P:Program}{w:World}{H H':Hp}{h h':Heap}{a:Addr}{o:HO}
theorem ObjOk.lt(x:ObjOk P w H h a o):a<h.objs.size:=by
 cases o with
 |lst xs=>obtain⟨_,_,_,_,e⟩:=x;exact Y09 e
 |tup xs=>obtain⟨_,_,_,p⟩:=x;exact p.1.lt
 |dK kvs=>obtain⟨_,_,_,_,o,_,_,e,_⟩:=x;exact Y09 e
 |dT kvs=>obtain⟨_,_,_,_,o,_,_,e,_⟩:=x;exact Y09 e
 |set S n=>obtain⟨o,_,_,_,e,_⟩:=x;exact Y09 e
 |ins C dx fs=>obtain⟨_,_,_,e,_⟩:=x;exact Y09 e
 |own y=>obtain⟨_,e⟩:=x;exact Y09 e
 |xd fs=>obtain⟨_,⟨_,_,_,e,_⟩,_⟩:=x;exact Y09 e
 |rng lo hi=>obtain⟨_,_,_,e⟩:=x;exact Y09 e
 |frz ob u=>obtain⟨e,_⟩:=x;exact Y09 e
 |tbl ps=>exact Y09 (show h.get? a=some _ from x)
 |met f y=>exact Y09 (show h.get? a=some _ from x)
 |ext φ=>obtain⟨_,⟨_,e⟩,_⟩:=x;exact Y09 e
theorem Paired.mapP{α β:Type}{F G:α->β->Prop}:∀{l₁:List α} {l₂:List β},Paired F l₁ l₂->(∀a b,F a b->G a b)->Paired G l₁ l₂
 |_,_,.nil,_=>.nil
 |_,_,.cons r t,f=>.cons (f _ _ r) (Paired.mapP t f)
theorem ObjOk.stay(x:ObjOk P w H h a o)(k:∀b u,(b=a\/H b=some (.own a))->h.get? b=some u->h'.get? b=some u)
  (ho:∀b,H b=some (.own a)->H' b=some (.own a)) (ht:∀b xs,H b=some (.tup xs)->H' b=some (.tup xs)):ObjOk P w H' h' a o:=by
 induction o with
 |lst xs=>obtain⟨z,its,n,r,e⟩:=x;exact⟨z,its,n,r,k _ _ (.inl rfl) e⟩
 |tup xs=>obtain⟨z,its,r,⟨ob,e,c⟩,o2,e2,c2⟩:=x;exact⟨z,its,r,⟨ob,k _ _ (.inl rfl) e,c⟩,o2,k _ _ (.inl rfl) e2,c2⟩
 |dK kvs=>obtain⟨z,y,vs,r,ob,es,ep,e,c⟩:=x;exact⟨z,y,vs,r,ob,es,ep,k _ _ (.inl rfl) e,c⟩
 |dT kvs=>
  obtain⟨z,y,xs,r,ob,es,ep,e,c⟩:=x
  exact⟨z,y,xs,Paired.mapP r λp q z=>⟨z.1,ht _ _ z.2.1,z.2.2⟩,ob,es,ep,k _ _ (.inl rfl) e,c⟩
 |set S n=>obtain⟨ob,es,ep,t,e,c⟩:=x;exact⟨ob,es,ep,t,k _ _ (.inl rfl) e,c⟩
 |ins C dx fs=>
  obtain⟨d,z,ne,e,mA,⟨od,es,ep,e2,c⟩,r⟩:=x
  exact⟨ho _ d,z,ne,k _ _ (.inl rfl) e,mA,⟨od,es,ep,k _ _ (.inr d) e2,c⟩,r⟩
 |own y=>obtain⟨ob,e⟩:=x;exact⟨ob,k _ _ (.inl rfl) e⟩
 |xd fs=>obtain⟨mA,⟨od,es,ep,e,c⟩,r⟩:=x;exact⟨mA,⟨od,es,ep,k _ _ (.inl rfl) e,c⟩,r⟩
 |rng lo hi=>obtain⟨t,u,v,e⟩:=x;exact⟨t,u,v,k _ _ (.inl rfl) e⟩
 |frz ob u ih=>obtain⟨e,q⟩:=x;exact⟨k _ _ (.inl rfl) e,ih q⟩
 |tbl ps=>
  have e:h.get? a=some {cls:=.none,data:=.fields ps}:=x
  show h'.get? a=some {cls:=.none,data:=.fields ps}
  exact k a _ (.inl rfl) e
 |met f y=>
  have e:h.get? a=some (Y2L (.ref f) (.ref y)):=x
  show h'.get? a=some (Y2L (.ref f) (.ref y))
  exact k a _ (.inl rfl) e
 |ext φ=>obtain⟨p,⟨o,e⟩,st⟩:=x;exact⟨st _ _ p λo q=>k _ _ (.inl rfl) q,⟨o,k _ _ (.inl rfl) e⟩,st⟩
theorem HOk.lt(x:HOk P w H h)(e:H a=some o):a<h.objs.size:=(x a o e).lt
theorem HOk.fresh(x:HOk P w H h)(e:h.objs.size≤a):H a=none:=by
 cases q:H a with
 |none=>rfl
 |some u=>exact absurd (Y0y (x.lt q) e) (Y1H _)
theorem HOk.kept(x:HOk P w H h)(k:∀b u,h.get? b=some u->h'.get? b=some u):HOk P w H h':=λa o e=>
 (x a o e).stay (λb u _ q=>k b u q) (λ_ q=>q) λ_ _ q=>q
theorem HOk.laid(x:HOk P w H h)(k:∀b u,h.get? b=some u->h'.get? b=some u)(hp:h.objs.size≤a)(new:ObjOk P w (upd H a o) h' a o):HOk P w (upd H a o) h':=λb u e=>by
 have hn:=x.fresh hp
 by_cases hb:b=a
 ·subst hb;rw[Z13]at e;cases e;exact new
 ·rw[Z0g hb]at e
  exact(x b u e).stay (λc v _ q=>k c v q) (λc q=>by rw[Z0g (Z1o q hn)];exact q) λc xs q=>by rw[Z0g (Z1o q hn)];exact q
end
noncomputable def Rd(H:Hp)(a:Addr)(u:HO):Prop:=H a=some u\/∃o,H a=some (.frz o u)
theorem Rd.of{H:Hp}{a:Addr}{u:HO}(h:H a=some u):Rd H a u:=.inl h
theorem Rd.ok{P:Program}{w:World}{H:Hp}{h:Heap}{a:Addr}{u:HO}(r:Rd H a u)(x:HOk P w H h):ObjOk P w H h a u:=by
 rcases r with r|⟨o,r⟩
 ·exact x a u r
 ·obtain⟨_,q⟩:=x a _ r
  exact q
noncomputable def Mut:Option HO->Prop
 |some (.lst _)=>True
 |some (.dK _)=>True
 |some (.dT _)=>True
 |some (.set _ _)=>True
 |some (.ins _ _ _)=>True
 |some (.ext _)=>True
 |_=>False
section
variable{P:Program}{w:World}{H:Hp}{h h':Heap}{x e:Addr}{o':HO}
theorem HOk.write(ok:HOk P w H h)(mu:Mut (H x))(he:e=x\/H e=some (.own x))(k:∀b u,b≠e->h.get? b=some u->h'.get? b=some u)(heo:∃u,h'.get? e=some u)
  (new:ObjOk P w (upd H x o') h' x o'):HOk P w (upd H x o') h':=λb u q=>by
 have nown:∀c y,H c=some (.own y)->c≠x:=λc y r z=>by subst z;rw[r]at mu;exact mu
 have ntup:∀c xs,H c=some (.tup xs)->c≠x:=λc xs r z=>by subst z;rw[r]at mu;exact mu
 by_cases hb:b=x
 ·subst hb;rw[Z13]at q;cases q;exact new
 ·rw[Z0g hb]at q
  by_cases hbe:b=e
  ·have q':H b=some (.own x):=by
    rcases he with z|z
    ·exact absurd (hbe.trans z) hb
    ·rw[hbe];exact z
   rw[q]at q';cases q'
   obtain⟨v,hv⟩:=heo
   exact⟨v,by rw[hbe];exact hv⟩
  ·refine(ok b u q).stay (λc v hc r=>k c v ?_ r) (λc r=>by rw[Z0g (nown c b r)];exact r) λc xs r=>by rw[Z0g (ntup c xs r)];exact r
   rcases hc with rfl|hc
   ·exact hbe
   ·rintro rfl
    rcases he with z|z
    ·exact nown c b hc z
    ·rw[hc]at z;cases z;exact hb rfl
end
structure Un (fs ex:List Addr) (H H':Hp) (h h':Heap):Prop where
 keep:∀b o,h.get? b=some o->H b=none->b∉fs->b∉ex->h'.get? b=some o
 slot:∀b o,h.get? b=some o->H b=none->b∈fs->b∉ex->∃sl,h'.get? b=some {o with slots:=sl}
 free:∀b o,h.get? b=some o->H b=none->b∉ex->H' b=none
 there:∀b o,h.get? b=some o->b∉ex->∃o',h'.get? b=some o'
 tups:∀b xs,H b=some (.tup xs)->H' b=some (.tup xs)
 frzs:∀b o u,H b=some (.frz o u)->H' b=some (.frz o u)
 tbls:∀b ps,H b=some (.tbl ps)->∃more,H' b=some (.tbl (ps++more))
section
variable{fs fs' ex ex':List Addr}{H H1 H2:Hp}{h h1 h2 h':Heap}{a x e:Addr}{o:HO}
theorem Un.any(u:Un fs ex H H1 h h1){b:Addr}{ob:Obj}(q:h.get? b=some ob)(n:H b=none)(hx:b∉ex):∃sl,h1.get? b=some {ob with slots:=sl}:=by
 by_cases hb:b∈fs
 ·exact u.slot b ob q n hb hx
 ·exact⟨ob.slots,u.keep b ob q n hb hx⟩
theorem Un.trans(a:Un fs ex H H1 h h1)(b:Un fs ex H1 H2 h1 h2):Un fs ex H H2 h h2 where
 keep:=λc ob q n hc hx=>b.keep c ob (a.keep c ob q n hc hx) (a.free c ob q n hx) hc hx
 slot:=λc ob q n hc hx=>by
  obtain⟨sl,e1⟩:=a.slot c ob q n hc hx
  obtain⟨sl',e2⟩:=b.slot c _ e1 (a.free c ob q n hx) hc hx
  exact⟨sl',e2⟩
 free:=λc ob q n hx=>by
  obtain⟨o',e1⟩:=a.there c ob q hx
  exact b.free c o' e1 (a.free c ob q n hx) hx
 there:=λc ob q hx=>by
  obtain⟨o',e1⟩:=a.there c ob q hx
  exact b.there c o' e1 hx
 tups:=λc xs q=>b.tups c xs (a.tups c xs q)
 frzs:=λc ob xs q=>b.frzs c ob xs (a.frzs c ob xs q)
 tbls:=λc ps q=>by
  obtain⟨m1,e1⟩:=a.tbls c ps q
  obtain⟨m2,e2⟩:=b.tbls c _ e1
  exact⟨m1++m2,by rw[e2,Array.append_assoc]⟩
theorem Un.kept(k:∀b u,h.get? b=some u->h'.get? b=some u):Un fs ex H H h h':=
 ⟨λb ob q _ _ _=>k b ob q,λb ob q _ _ _=>⟨ob.slots,k b ob q⟩,λ_ _ _ n _=>n,λb ob q _=>⟨ob,k b ob q⟩,λ_ _ q=>q,λ_ _ _ q=>q,λ_ ps q=>⟨#[],by rw[q];simp⟩⟩
theorem Un.refl:Un fs ex H H h h:=Un.kept λ_ _ q=>q
theorem Un.laid(k:∀b u,h.get? b=some u->h'.get? b=some u)(hp:h.objs.size≤a)(hn:H a=none):Un fs ex H (upd H a o) h h' where
 keep:=λb u q _ _ _=>k b u q
 slot:=λb u q _ _ _=>⟨u.slots,k b u q⟩
 free:=λb u q n _=>by rw[Z0g (Y0f (Y0y (Y09 q) hp))];exact n
 there:=λb u q _=>⟨u,k b u q⟩
 tups:=λb xs q=>by rw[Z0g (Z1o q hn)];exact q
 frzs:=λb u xs q=>by rw[Z0g (Z1o q hn)];exact q
 tbls:=λb ps q=>⟨#[],by rw[Z0g (Z1o q hn),q];simp⟩
theorem Un.write(mu:Mut (H x))(he:e=x\/H e=some (.own x))(k:∀b u,b≠e->h.get? b=some u->h'.get? b=some u)(heo:∃u,h'.get? e=some u):Un fs ex H (upd H x o) h h':=by
 have hx:∀b,H b=none->b≠x:=λb n z=>by subst z;rw[n]at mu;exact mu
 have hb:∀b,H b=none->b≠e:=λb n z=>by
  subst z
  rcases he with r|r
  ·exact hx b n r
  ·rw[n]at r;cases r
 have hm:∀b u,H b=some u->¬Mut (some u)->b≠x:=λb u q nm z=>by subst z;rw[q]at mu;exact nm mu
 refine⟨λb u q n _ _=>k b u (hb b n) q,λb u q n _ _=>⟨u.slots,k b u (hb b n) q⟩,λb u q n _=>by rw[Z0g (hx b n)];exact n,λb u q _=>?_,
  λb xs q=>by rw[Z0g (hm b _ q λz=>z)];exact q,λb u xs q=>by rw[Z0g (hm b _ q λz=>z)];exact q,λb ps q=>⟨#[],by rw[Z0g (hm b _ q λz=>z),q];simp⟩⟩
 by_cases hbe:b=e
 ·subst hbe;exact heo
 ·exact⟨u,k b u hbe q⟩
end
noncomputable def trk(h:Heap)(H:Hp):List Addr:=(Y0E h.objs.size).filter λa=>(H a).isSome
noncomputable def hidT(h:Heap)(H:Hp):Heap:=Y28 h (trk h H)
theorem ZdM(h:Heap)(H:Hp):(hidT h H).objs.size=h.objs.size:=PySem.W.hideAll_size _ _
theorem Zfb{h:Heap}{H:Hp}{b:Addr}{o:Obj}(e:h.get? b=some o)(n:H b=none):(hidT h H).get? b=some o:=
 Y3x _ e λhm=>by
  have q:(H b).isSome=true:=(Y39.mp hm).2
  rw[n]at q;simp at q
theorem Zh4{h:Heap}{H:Hp}{b:Addr}{o:Obj}(e:(hidT h H).get? b=some o):h.get? b=some o/\H b=none:=by
 have e':h.get? b=some o:=PySem.W.of_hideAll (trk h H) e
 refine⟨e',?_⟩
 cases q:H b with
 |none=>rfl
 |some x=>
  have hm:b∈trk h H:=Y39.mpr ⟨Y2E.mpr (Y09 e'),by simp[q]⟩
  have z:(hidT h H).get? b=none:=PySem.W.hideAll_none (trk h H) hm
  rw[z]at e;cases e
noncomputable def Zi8(g h:Heap)(L:Addr):List (Addr×Obj):=(Y0E h.objs.size).filterMap λa=>if a=L\/(g.get? a).isSome=true then none else(h.get? a).map λo=>(a,o)
noncomputable def rest(g h:Heap)(L d:Addr):List (Addr×Obj):=(Zi8 g h L).filter λp=>decide (p.1≠d)
end L2
namespace L2
open PySem PySem.Spec PyProof.Rows
structure Mod (K:Y00) (mg:Str->Option Value) (base:Heap):Prop where
 kin:K.In base
 glob:base.Ns mainGlobals mg
 blt:∃mb,base.Ns builtinsNs mb/\∀x:Str,x≠"__name__"->mb x=bootBuiltins x
 nolimit:base.NoLimit
structure Cx where
 prog:Program
 w:World
 K:Y00
 mg:Str->Option Value
 base:Heap
 A:Around
 N:List Str
 s₀:Shared
 H₀:Hp
 env:Env
 outer:List Env
 stack:List Env
 ex:List Addr
 fn:Str->Bool
 calm:Bool
 pn:List (Addr×Obj)
 xe:Value->Shared->Prop
noncomputable def frs(l:List Env):List Addr:=l.filterMap (·.frame)
noncomputable abbrev Cx.fs(X:Cx):List Addr:=frs X.outer
noncomputable def Vis(sc:Scope)(x:Str):Prop:=sc.names.lookup x=some .local\/sc.names.lookup x=some .cell\/sc.names.lookup x=some .free
noncomputable def Loc(sc:Scope)(x:Str):Prop:=sc.names.lookup x=some .local\/sc.names.lookup x=some .cell
noncomputable def Look(env:Env)(h:Heap)(m:Str->Option Value)(x:Str)(u:Value):Prop:=
 (env.kindOf x=some .local/\m x=some u)\/((env.kindOf x=some .cell\/env.kindOf x=some .free)/\∃c,env.cells.lookup x=some c/\h.IsCell c (some u))
structure Cx.Ok (X:Cx):Prop where
 mod:Mod X.K X.mg X.base
 kind:X.env.scope.kind=.function
 glob:X.env.globals=mainGlobals
 blt:X.env.builtins=builtinsNs
 above:X.s₀.heap.objs.size≤X.env.locals
 inj:∀x y c,X.env.cells.lookup x=some c->X.env.cells.lookup y=some c->x=y
 has:∀x,(X.env.kindOf x=some .cell\/X.env.kindOf x=some .free)->∃c,X.env.cells.lookup x=some c
 cab:∀x c,X.fn x=true->X.env.cells.lookup x=some c->X.s₀.heap.objs.size≤c
 hd:X.calm=true->X.A.handled=none
 frames:X.A.frames=some X.stack
 stk:X.stack=X.outer\/(X.stack=X.env::X.outer/\X.env.frame=some X.env.locals)
 exf:∀b∈X.ex,b≠X.env.locals/\∀x c,X.env.cells.lookup x=some c->c≠b
 bs:∀b o,X.base.get? b=some o->X.s₀.heap.get? b=some o/\X.H₀ b=none
 bsz:X.base.objs.size≤X.s₀.heap.objs.size
 noex:∀b o,X.base.get? b=some o->b∉X.ex
 exfs:∀b∈X.ex,b∉X.fs
 funs:X.s₀.heap.FunFrames X.base X.outer
 frf:∀b∈X.fs,X.H₀ b=none
structure Inv (X:Cx) (pins:List (Addr×Obj)) (σ:List (Option V)) (H:Hp) (s:Shared):Prop where
 ok:X.Ok
 os:s.os=X.s₀.os
 bare:AllBare s.gens
 base:Un X.fs X.ex X.H₀ H X.s₀.heap s.heap
 loc:∃m,s.heap.Ns X.env.locals m/\∀(i:Nat) (x:Str) (v:V),X.N[i]?=some x->σ[i]?=some (some v)->Vis X.env.scope x->∃u,RelV v u/\Look X.env s.heap m x u
 cell:∀x c,X.env.cells.lookup x=some c->∃v,s.heap.IsCell c v
 free:H X.env.locals=none
 freeC:∀x c,X.env.cells.lookup x=some c->H c=none
 pin:∀p∈X.pn++pins,s.heap.get? p.1=some p.2/\H p.1=none/\p.1≠X.env.locals/\p.1∉X.fs/\∀v,p.2.data≠.cell v
 hok:HOk X.prog X.w H s.heap
 len:σ.length=X.N.length
section
variable{X:Cx}{pins:List (Addr×Obj)}{σ:List (Option V)}{H H':Hp}{s:Shared}{h':Heap}
theorem Cx.Ok.nofr(ok:X.Ok){b:Addr}{o:Obj}(e:X.base.get? b=some o):b∉X.fs:=λhb=>by
 have:=(ok.funs.mem hb).1
 rw[e]at this;cases this
theorem Inv.bs(I:Inv X pins σ H s):∀b o,X.base.get? b=some o->s.heap.get? b=some o/\H b=none:=λb o e=>
 ⟨I.base.keep b o (I.ok.bs b o e).1 (I.ok.bs b o e).2 (I.ok.nofr e) (I.ok.noex b o e),I.base.free b o (I.ok.bs b o e).1 (I.ok.bs b o e).2 (I.ok.noex b o e)⟩
theorem Inv.bk(I:Inv X pins σ H s):∀b o,X.base.get? b=some o->s.heap.get? b=some o:=λb o e=>(I.bs b o e).1
theorem Inv.mod(I:Inv X pins σ H s):Mod X.K X.mg X.base:=I.ok.mod
theorem Inv.kIn(I:Inv X pins σ H s):X.K.In s.heap:=I.ok.mod.kin.keeps I.bk
theorem Inv.fr(I:Inv X pins σ H s):∃m,Fr X.base X.env.locals s.heap m:=
 let⟨m,hn,_⟩:=I.loc
 ⟨m,hn,I.bk,Y0N I.ok.bsz I.ok.above⟩
theorem Inv.lt(I:Inv X pins σ H s):X.env.locals<s.heap.objs.size:=let⟨_,hn,_⟩:=I.loc;hn.lt
theorem Inv.sz(I:Inv X pins σ H s):X.s₀.heap.objs.size≤s.heap.objs.size:=Y0N I.ok.above (Y3a I.lt)
theorem Inv.nofs(I:Inv X pins σ H s){a:Addr}(h:s.heap.objs.size≤a):a∉X.fs:=λhb=>by
 obtain⟨_,o,ho,_⟩:=I.ok.funs.mem hb
 exact absurd (Y0y (Y09 ho) (Y0N I.sz h)) (Y1H _)
theorem Inv.cne(I:Inv X pins σ H s):∀x c,X.env.cells.lookup x=some c->c≠X.env.locals:=λx c e z=>by
 obtain⟨v,o,ho,hd⟩:=I.cell x c e
 obtain⟨m,⟨o',es,ep,ho',hd',_⟩,_⟩:=I.loc
 rw[z,ho']at ho;cases ho;rw[hd']at hd;cases hd
theorem Inv.funs(I:Inv X pins σ H s):s.heap.FunFrames X.base X.outer:=by
 have all:∀(l:List Env),(∀b∈frs l,b∈X.fs)->X.s₀.heap.FunFrames X.base l->s.heap.FunFrames X.base l:=by
  intro l
  induction l with
  |nil=>intro _ _;trivial
  |cons env r ih=>
   intro hs hl
   obtain⟨hk,⟨L,o,hf,hn,ho,hd⟩,hr⟩:=hl
   have hL:L∈X.fs:=hs L (by unfold frs;rw[Y1d,hf];exact Y0l)
   obtain⟨sl,e⟩:=I.base.slot L o ho (I.ok.frf L hL) hL λz=>I.ok.exfs L z hL
   exact⟨hk,⟨L,_,hf,hn,e,hd⟩,ih (λb hb=>hs b (by unfold frs;rw[Y1d,hf];exact Y0g _ hb)) hr⟩
 exact all X.outer (λ_ hb=>hb) I.ok.funs
theorem Inv.stack(I:Inv X pins σ H s):s.heap.FunFrames X.base X.stack:=by
 rcases I.ok.stk with e|⟨e,hf⟩
 ·rw[e];exact I.funs
 ·rw[e]
  obtain⟨m,hn,_⟩:=I.loc
  refine .cons (by rw[I.ok.kind];decide) hf hn ?_ I.funs
  exact Heap.get?_none_of_le (Y0N I.ok.bsz I.ok.above)
theorem Inv.stkSub(I:Inv X pins σ H s):∀b∈frs X.stack,b∈X.env.locals::X.fs:=λb hb=>by
 rcases I.ok.stk with e|⟨e,hf⟩
 ·rw[e]at hb;exact Y0g _ hb
 ·rw[e]at hb
  unfold frs at hb
  rw[Y1d,hf]at hb
  exact hb
theorem Inv.stkFree(I:Inv X pins σ H s):∀b∈frs X.stack,H b=none:=λb hb=>by
 rcases Y0d.mp (I.stkSub b hb)with e|hb
 ·rw[e];exact I.free
 ·obtain⟨_,o,ho,_⟩:=I.ok.funs.mem hb
  exact I.base.free b o ho (I.ok.frf b hb) λz=>I.ok.exfs b z hb
theorem Inv.step{g':Array GenState}{t':Nat}{d':Drawn}{ch:List Addr}(I:Inv X pins σ H s)
  (hch:∀b∈ch,(b∈X.ex\/X.s₀.heap.objs.size≤b)/\b≠X.env.locals/\(∀x c,X.env.cells.lookup x=some c->c≠b)/\∀p∈X.pn++pins,p.1≠b)
  (keep:∀b o,b≠X.env.locals->b∉X.fs->b∉ch->s.heap.get? b=some o->H b=none->h'.get? b=some o)
  (slot:∀b o,b≠X.env.locals->b∈X.fs->b∉ch->s.heap.get? b=some o->H b=none->∃sl,h'.get? b=some {o with slots:=sl}) (free:∀b o,b∉ch->s.heap.get? b=some o->H b=none->H' b=none)
  (there:∀b o,b∉ch->s.heap.get? b=some o->∃o',h'.get? b=some o')
  (tups:∀b xs,H b=some (.tup xs)->H' b=some (.tup xs)) (frzs:∀b o u,H b=some (.frz o u)->H' b=some (.frz o u)) (tbls:∀b ps,H b=some (.tbl ps)->∃more,H' b=some (.tbl (ps++more)))
  (ns:∀m,s.heap.Ns X.env.locals m->h'.Ns X.env.locals m) (hok:HOk X.prog X.w H' h') (hg:AllBare g'):
  Inv X pins σ H' {s with heap:=h',gens:=g',drawn:=d',toks:=t'}:=by
 have neL:∀b o,X.s₀.heap.get? b=some o->b≠X.env.locals:=λb o e=>Y0f (Y0y (Y09 e) I.ok.above)
 have neC:∀b o,X.s₀.heap.get? b=some o->b∉X.ex->b∉ch:=λb o e hx hb=>by
  rcases(hch b hb).1 with z|z
  ·exact hx z
  ·exact absurd (Y0y (Y09 e) z) (Y1H _)
 have cellK:∀x c,X.env.cells.lookup x=some c->∀v,s.heap.IsCell c v->h'.IsCell c v:=λx c e v ⟨o,ho,hd⟩=>by
  have nch:c∉ch:=λz=>(hch c z).2.2.1 x c e rfl
  by_cases hc:c∈X.fs
  ·obtain⟨sl,q⟩:=slot c o (I.cne x c e) hc nch ho (I.freeC x c e)
   exact⟨_,q,hd⟩
  ·exact⟨o,keep c o (I.cne x c e) hc nch ho (I.freeC x c e),hd⟩
 refine⟨I.ok,I.os,hg,⟨λb o e n hb hx=>?_,λb o e n hb hx=>?_,λb o e n hx=>?_,λb o e hx=>?_,λb xs e=>tups b xs (I.base.tups b xs e),λb o xs e=>frzs b o xs (I.base.frzs b o xs e),λb ps e=>?_⟩,?_,λx c e=>?_,?_,λx c e=>?_,λp hp=>?_,hok,I.len⟩
 ·exact keep b o (neL b o e) hb (neC b o e hx) (I.base.keep b o e n hb hx) (I.base.free b o e n hx)
 ·obtain⟨sl,e1⟩:=I.base.slot b o e n hb hx
  obtain⟨sl',e2⟩:=slot b _ (neL b o e) hb (neC b o e hx) e1 (I.base.free b o e n hx)
  exact⟨sl',e2⟩
 ·obtain⟨o',e1⟩:=I.base.there b o e hx
  exact free b o' (neC b o e hx) e1 (I.base.free b o e n hx)
 ·obtain⟨o',e1⟩:=I.base.there b o e hx
  exact there b o' (neC b o e hx) e1
 ·obtain⟨m1,e1⟩:=I.base.tbls b ps e
  obtain⟨m2,e2⟩:=tbls b _ e1
  exact⟨m1++m2,by rw[e2,Array.append_assoc]⟩
 ·obtain⟨m,hn,hl⟩:=I.loc
  refine⟨m,ns m hn,λi x v e1 e2 e3=>?_⟩
  obtain⟨u,r,l⟩:=hl i x v e1 e2 e3
  refine⟨u,r,?_⟩
  rcases l with l|⟨k,c,e,z⟩
  ·exact .inl l
  ·exact .inr ⟨k,c,e,cellK x c e _ z⟩
 ·obtain⟨v,z⟩:=I.cell x c e
  exact⟨v,cellK x c e v z⟩
 ·obtain⟨m,⟨o,_,_,ho,_⟩,_⟩:=I.loc
  exact free _ o (λz=>(hch _ z).2.1 rfl) ho I.free
 ·obtain⟨v,o,ho,hd⟩:=I.cell x c e
  exact free c o (λz=>(hch c z).2.2.1 x c e rfl) ho (I.freeC x c e)
 ·obtain⟨e,n,ne,nf,d⟩:=I.pin p hp
  have nch:p.1∉ch:=λz=>(hch p.1 z).2.2.2 p hp rfl
  exact⟨keep p.1 p.2 ne nf nch e n,free p.1 p.2 nch e n,ne,nf,d⟩
theorem Inv.un{t':Nat}(I:Inv X pins σ H s)(u:Un X.fs [] H H' s.heap h')(hok:HOk X.prog X.w H' h'):Inv X pins σ H' {s with heap:=h',toks:=t'}:=by
 obtain⟨m,⟨o,es,ep,ho,r⟩,_⟩:=id I.loc
 obtain⟨sl,hL⟩:=u.any ho I.free (by simp)
 exact I.step (g':=s.gens) (d':=s.drawn) (ch:=[]) (λ_ z=>nomatch z) (λb o _ hb _ e n=>u.keep b o e n hb (by simp)) (λb o _ hb _ e n=>u.slot b o e n hb (by simp)) (λb o _ e n=>u.free b o e n (by simp)) (λb o _ e=>u.there b o e (by simp)) u.tups u.frzs u.tbls (λm' hm=>by
  obtain⟨o',es',ep',ho',r'⟩:=hm
  rw[ho]at ho';cases ho'
  exact⟨_,es',ep',hL,r'⟩) hok I.bare
theorem Inv.call{g':Array GenState}{t':Nat}{d':Drawn}{ch:List Addr}(I:Inv X pins σ H s)(u:Un (frs X.stack) ch H H' s.heap h')(hok:HOk X.prog X.w H' h')(hg:AllBare g')
  (hch:∀b∈ch,(b∈X.ex\/X.s₀.heap.objs.size≤b)/\b≠X.env.locals/\(∀x c,X.env.cells.lookup x=some c->c≠b)/\∀p∈X.pn++pins,p.1≠b):
  Inv X pins σ H' {s with heap:=h',gens:=g',drawn:=d',toks:=t'}:=by
 obtain⟨m,⟨o,es,ep,ho,r⟩,_⟩:=id I.loc
 obtain⟨sl,hL⟩:=u.any ho I.free λz=>(hch _ z).2.1 rfl
 exact I.step (ch:=ch) hch (λb o hL hb hc e n=>u.keep b o e n (λz=>(Y0d.mp (I.stkSub b z)).elim hL hb) hc) (λb o _ _ hc e n=>u.any e n hc) (λb o hc e n=>u.free b o e n hc) (λb o hc e=>u.there b o e hc) u.tups u.frzs u.tbls (λm' hm=>by
  obtain⟨o',es',ep',ho',r'⟩:=hm
  rw[ho]at ho';cases ho'
  exact⟨_,es',ep',hL,r'⟩) hok hg
theorem Inv.turned{t':Nat}{it:Addr}(I:Inv X pins σ H s)(k:∀b o,b≠it->s.heap.get? b=some o->h'.get? b=some o)(hn:H it=none)(hL:it≠X.env.locals)
  (h1:it∈X.ex\/X.s₀.heap.objs.size≤it) (h2:∀x c,X.env.cells.lookup x=some c->c≠it) (h3:∀p∈X.pn++pins,p.1≠it):Inv X pins σ H {s with heap:=h',toks:=t'}:=by
 have nit:∀b u,H b=some u->b≠it:=λb u e z=>by rw[z,hn]at e;cases e
 refine I.step (g':=s.gens) (d':=s.drawn) (ch:=[it]) (λb hb=>?_) (λb o _ _ hc e _=>k b o (λz=>hc (by simp[z])) e) (λb o _ _ hc e _=>⟨o.slots,k b o (λz=>hc (by simp[z])) e⟩) (λ_ _ _ _ n=>n)
  (λb o hc e=>⟨o,k b o (λz=>hc (by simp[z])) e⟩) (λ_ _ e=>e) (λ_ _ _ e=>e) (λb ps e=>⟨#[],by rw[e];simp⟩) (λm hm=>?_) (λb u e=>?_) I.bare
 ·have e:b=it:=by simpa using hb
  subst e
  exact⟨h1,hL,h2,h3⟩
 ·obtain⟨o,es,ep,ho,r⟩:=hm
  exact⟨o,es,ep,k _ o (Y2F hL) ho,r⟩
 ·refine(I.hok b u e).stay (λc v hc q=>k c v ?_ q) (λ_ q=>q) λ_ _ q=>q
  rcases hc with z|z
  ·rw[z];exact nit b u e
  ·exact nit c _ z
theorem Inv.tok(I:Inv X pins σ H s)(t:Nat):Inv X pins σ H {s with toks:=t}:=I.un (h':=s.heap) (t':=t) Un.refl I.hok
theorem Inv.kept{t':Nat}(I:Inv X pins σ H s)(k:∀b u,s.heap.get? b=some u->h'.get? b=some u):Inv X pins σ H {s with heap:=h',toks:=t'}:=I.un (Un.kept k) (I.hok.kept k)
theorem Inv.laid{a:Addr}{o:HO}{t':Nat}(I:Inv X pins σ H s)(k:∀b u,s.heap.get? b=some u->h'.get? b=some u)(hp:s.heap.objs.size≤a)(new:ObjOk X.prog X.w (upd H a o) h' a o):
  Inv X pins σ (upd H a o) {s with heap:=h',toks:=t'}:=I.un (Un.laid k hp (I.hok.fresh hp)) (I.hok.laid k hp new)
theorem Inv.write{x e:Addr}{o:HO}{t':Nat}(I:Inv X pins σ H s)(mu:Mut (H x))(he:e=x\/H e=some (.own x))(k:∀b u,b≠e->s.heap.get? b=some u->h'.get? b=some u)(heo:∃u,h'.get? e=some u)
  (new:ObjOk X.prog X.w (upd H x o) h' x o):Inv X pins σ (upd H x o) {s with heap:=h',toks:=t'}:=I.un (Un.write mu he k heo) (I.hok.write mu he k heo new)
theorem Inv.weak{σ':List (Option V)}(I:Inv X pins σ H s)(hl:σ'.length=σ.length)(w:∀(i:Nat) v,σ'[i]?=some (some v)->σ[i]?=some (some v)):Inv X pins σ' H s:=
 ⟨I.ok,I.os,I.bare,I.base,let⟨m,hn,hl'⟩:=I.loc;⟨m,hn,λi x v e1 e2 e3=>hl' i x v e1 (w i v e2) e3⟩,I.cell,I.free,I.freeC,I.pin,I.hok,hl.trans I.len⟩
theorem Inv.pins_of{pins':List (Addr×Obj)}(I:Inv X pins σ H s)(h:∀p∈pins',s.heap.get? p.1=some p.2/\H p.1=none/\p.1≠X.env.locals/\p.1∉X.fs/\∀v,p.2.data≠.cell v):Inv X pins' σ H s:=
 ⟨I.ok,I.os,I.bare,I.base,I.loc,I.cell,I.free,I.freeC,λp hp=>(Y1a.mp hp).elim (λz=>I.pin p (List.mem_append_left _ z)) (h p),I.hok,I.len⟩
theorem Z8X{N:List Str}(hN:N.Nodup){i j:Nat}{x:Str}(a:N[i]?=some x) (b:N[j]?=some x):i=j:=by
 obtain⟨h1,e1⟩:=Y08.mp a
 obtain⟨h2,e2⟩:=Y08.mp b
 exact(List.getElem_inj hN).mp (e1.trans e2.symm)
theorem Z9k{M:Model}{A:Around}{E:Value->Shared->Prop}{i:Nat}{x:Str}{v:V}{u:Value}{Q:Unit->Shared->Prop}(I:Inv X pins σ H s)(hN:X.N.Nodup)(hi:X.N[i]?=some x) (hx:Loc X.env.scope x) (r:RelV v u)
  (h:∀s',Inv X pins (σ.set i (some v)) H s'->(∃a,Y1P a s.heap s'.heap/\(a=X.env.locals\/X.env.cells.lookup x=some a))->Q () s') (hf:X.fn x=true\/X.env.scope.names.lookup x=some .local:=by first|exact .inl rfl|exact .inr rfl|assumption):wpAny M A (storeName X.env x u) Q E s:=by
 obtain⟨m,hn,hl⟩:=id I.loc
 have hcls:(X.env.scope.kind==.class||(X.env.scope.kind==.module&&X.env.locals != X.env.globals))=false:=by rw[I.ok.kind];rfl
 have hiσ:i<σ.length:=by rw[I.len];exact(Y08.mp hi).1
 have cne:=I.cne
 have tracked:∀{a:Addr} {h':Heap},(∃o,s.heap.get? a=some o/\H a=none)->Y1P a s.heap h'->HOk X.prog X.w H h':=fun{a h'} ha hs b ob e=>by
  obtain⟨_,_,hfree⟩:=ha
  refine(I.hok b ob e).stay (λc w' hc q=>(hs.2 c ?_).trans q) (λ_ q=>q) λ_ _ q=>q
  rintro rfl
  rcases hc with rfl|hc
  ·rw[hfree]at e;cases e
  ·rw[hfree]at hc;cases hc
 rcases hx with hk|hk
 ·refine wpAny_storeName_local hk hn (λh' hn' hs=>?_) hcls
  obtain⟨oL,_,_,hoL,_⟩:=id hn
  refine h _ ⟨I.ok,I.os,I.bare,⟨λb o e n hb hx=>?_,λb o e n hb hx=>?_,I.base.free,λb o e hx=>?_,I.base.tups,I.base.frzs,I.base.tbls⟩,⟨_,hn',λj y v' e1 e2 e3=>?_⟩,λy c e=>?_,I.free,I.freeC,λp hp=>?_,tracked ⟨oL,hoL,I.free⟩ hs,by simpa using I.len⟩ ⟨_,hs,.inl rfl⟩
  ·exact(hs.2 b (Y0f (Y0y (Y09 e) I.ok.above))).trans (I.base.keep b o e n hb hx)
  ·obtain⟨sl,e1⟩:=I.base.slot b o e n hb hx
   exact⟨sl,(hs.2 b (Y0f (Y0y (Y09 e) I.ok.above))).trans e1⟩
  ·obtain⟨o',e1⟩:=I.base.there b o e hx
   exact⟨o',(hs.2 b (Y0f (Y0y (Y09 e) I.ok.above))).trans e1⟩
  ·by_cases hj:j=i
   ·subst hj
    rw[hi]at e1;cases e1
    rw[Y32 hiσ]at e2
    cases e2
    exact⟨u,r,.inl ⟨hk,by simp⟩⟩
   ·rw[Y1n (Y2F hj)]at e2
    obtain⟨u',r',q⟩:=hl j y v' e1 e2 e3
    refine⟨u',r',?_⟩
    rcases q with⟨k,e⟩|⟨k,c,e,z⟩
    ·refine .inl ⟨k,?_⟩
     have:y≠x:=λe=>hj (Z8X hN e1 (e▸hi))
     simp[this,e]
    ·exact .inr ⟨k,c,e,z.sameBut hs (cne y c e)⟩
  ·obtain⟨w',z⟩:=I.cell y c e
   exact⟨w',z.sameBut hs (cne y c e)⟩
  ·obtain⟨e,n,ne,nf,d⟩:=I.pin p hp
   exact⟨(hs.2 p.1 ne).trans e,n,ne,nf,d⟩
 ·have hfn:X.fn x=true:=by
   rcases hf with z|z
   ·exact z
   ·rw[z]at hk;cases hk
  obtain⟨c,hc⟩:=I.ok.has x (.inl hk)
  obtain⟨w',z⟩:=I.cell x c hc
  refine wpAny_storeName_cell I.ok.kind hk hc z (λh' hc' hs=>?_)
  obtain⟨oc,hoc,hocd⟩:=id z
  refine h {s with heap:=h'} ⟨I.ok,I.os,I.bare,⟨λb o e n hb hx=>?_,λb o e n hb hx=>?_,I.base.free,λb o e hx=>?_,I.base.tups,I.base.frzs,I.base.tbls⟩,⟨m,hn.sameBut hs (Y2F (cne x c hc)),λj y v' e1 e2 e3=>?_⟩,λy c' e=>?_,I.free,I.freeC,λp hp=>?_,tracked ⟨oc,hoc,I.freeC x c hc⟩ hs,by simpa using I.len⟩ ⟨c,hs,.inr hc⟩
  ·exact(hs.2 b (Y0f (Y0y (Y09 e) (I.ok.cab x c hfn hc)))).trans (I.base.keep b o e n hb hx)
  ·obtain⟨sl,e1⟩:=I.base.slot b o e n hb hx
   exact⟨sl,(hs.2 b (Y0f (Y0y (Y09 e) (I.ok.cab x c hfn hc)))).trans e1⟩
  ·obtain⟨o',e1⟩:=I.base.there b o e hx
   exact⟨o',(hs.2 b (Y0f (Y0y (Y09 e) (I.ok.cab x c hfn hc)))).trans e1⟩
  ·by_cases hj:j=i
   ·subst hj
    rw[hi]at e1;cases e1
    rw[Y32 hiσ]at e2
    cases e2
    exact⟨u,r,.inr ⟨.inl hk,c,hc,hc'⟩⟩
   ·rw[Y1n (Y2F hj)]at e2
    obtain⟨u',r',q⟩:=hl j y v' e1 e2 e3
    refine⟨u',r',?_⟩
    rcases q with q|⟨k,c',e,z'⟩
    ·exact .inl q
    ·refine .inr ⟨k,c',e,z'.sameBut hs ?_⟩
     rintro rfl
     exact hj (Z8X hN e1 (I.ok.inj _ _ _ e hc▸hi))
  ·by_cases hcc:c'=c
   ·subst hcc;exact⟨_,hc'⟩
   ·obtain⟨w2,z2⟩:=I.cell y c' e
    exact⟨w2,z2.sameBut hs hcc⟩
  ·obtain⟨e,n,ne,nf,d⟩:=I.pin p hp
   refine⟨(hs.2 p.1 ?_).trans e,n,ne,nf,d⟩
   intro q
   rw[q,hoc]at e
   have q':oc=p.2:=Y0C e
   exact d w' (by rw[<- q'];exact hocd)
theorem Z53{M:Model}{A:Around}{E:Value->Shared->Prop}{i:Nat}{x:Str}{v:V}{u:Value}{Q:Unit->Shared->Prop}(I:Inv X pins σ H s)(hN:X.N.Nodup)(hi:X.N[i]?=some x) (hx:Loc X.env.scope x) (r:RelV v u)
  (h:∀s',Inv X pins (σ.set i (some v)) H s'->Q () s') (hf:X.fn x=true\/X.env.scope.names.lookup x=some .local:=by first|exact .inl rfl|exact .inr rfl|assumption):wpAny M A (storeName X.env x u) Q E s:=
 Z9k I hN hi hx r (λs' I' _=>h s' I') hf
theorem Inv.call'{s':Shared}{ch:List Addr}(I:Inv X pins σ H s)(ho:s'.os=s.os)(u:Un (frs X.stack) ch H H' s.heap s'.heap)(hok:HOk X.prog X.w H' s'.heap)(hg:AllBare s'.gens)
  (hch:∀b∈ch,(b∈X.ex\/X.s₀.heap.objs.size≤b)/\b≠X.env.locals/\(∀x c,X.env.cells.lookup x=some c->c≠b)/\∀p∈X.pn++pins,p.1≠b):Inv X pins σ H' s':=by
 obtain⟨h',g',d',t',o'⟩:=s'
 have e:o'=s.os:=ho
 subst e
 exact I.call (g':=g') (t':=t') (d':=d') u hok hg hch
end
noncomputable abbrev XK:=Value->Option Addr->Hp->Prop
noncomputable abbrev St:=List (Option V)
noncomputable abbrev VK:=V->Hp->Prop
noncomputable abbrev TE:=St->Hp->VK->Prop
noncomputable abbrev TT:=St->Hp->(Bool->Hp->Prop)->Prop
noncomputable abbrev TA:=St->Hp->(List V->Hp->Prop)->Prop
structure Ends where
 nx:St->Hp->Prop
 rt:VK
 bk:St->Hp->Prop:=λ_ _=>False
 ct:St->Hp->Prop:=λ_ _=>False
noncomputable abbrev TS:=Ends->St->Hp->Prop
noncomputable def EP(X:Cx)(pins:List (Addr×Obj))(σ:St)(Q:VK)(u:Value)(s':Shared):Prop:=∃v H',Inv X pins σ H' s'/\RelV v u/\Q v H'
noncomputable def TP(X:Cx)(pins:List (Addr×Obj))(σ:St)(Q:Bool->Hp->Prop)(b:Bool)(s':Shared):Prop:=∃H',Inv X pins σ H' s'/\Q b H'
noncomputable def AP(X:Cx)(pins:List (Addr×Obj))(σ:St)(Q:List V->Hp->Prop)(us:List Value)(s':Shared):Prop:=∃vs H',Inv X pins σ H' s'/\Vals vs us/\Q vs H'
noncomputable def SP(X:Cx)(pins:List (Addr×Obj))(D:Ends)(f:Flow)(s':Shared):Prop:=
 match f with
 |.next=>∃σ' H',Inv X pins σ' H' s'/\D.nx σ' H'
 |.brk=>∃σ' H',Inv X pins σ' H' s'/\D.bk σ' H'
 |.cont=>∃σ' H',Inv X pins σ' H' s'/\D.ct σ' H'
 |.ret u=>∃v σ' H',Inv X pins σ' H' s'/\RelV v u/\D.rt v H'
noncomputable def PE(X:Cx)(e:Expr)(t:TE):Prop:=
 ∀(pins:List (Addr×Obj)) (s:Shared) (σ:St) (H:Hp) (Q:VK),Inv X pins σ H s->t σ H Q->wpAny (model X.prog X.w) X.A (eval e X.env) (EP X pins σ Q) X.xe s
noncomputable def PT(X:Cx)(e:Expr)(t:TT):Prop:=
 ∀(pins:List (Addr×Obj)) (s:Shared) (σ:St) (H:Hp) (Q:Bool->Hp->Prop),Inv X pins σ H s->t σ H Q->wpAny (model X.prog X.w) X.A (isTrue e X.env (eval e X.env)) (TP X pins σ Q) X.xe s
noncomputable def PW(X:Cx)(e:Expr)(t:TT):Prop:=
 ∀(whole:Sem Value) (pins:List (Addr×Obj)) (s:Shared) (σ:St) (H:Hp) (Q:Bool->Hp->Prop),Inv X pins σ H s->t σ H Q->wpAny (model X.prog X.w) X.A (isTrue e X.env whole) (TP X pins σ Q) X.xe s
theorem PW.pt{X:Cx}{e:Expr}{t:TT}(h:PW X e t):PT X e t:=h _
noncomputable def PA(X:Cx)(es:List Expr)(t:TA):Prop:=
 ∀(pos:Pos) (pins:List (Addr×Obj)) (s:Shared) (σ:St) (H:Hp) (Q:List V->Hp->Prop),Inv X pins σ H s->t σ H Q->wpAny (model X.prog X.w) X.A (spliced (backTo pos (starEach es X.env))) (AP X pins σ Q) X.xe s
noncomputable def PS(X:Cx)(st:Stmt)(t:TS):Prop:=
 ∀(pins:List (Addr×Obj)) (s:Shared) (σ:St) (H:Hp) (D:Ends),Inv X pins σ H s->t D σ H->wpAny (model X.prog X.w) X.A (exec st X.env) (SP X pins D) X.xe s
noncomputable def PSs(X:Cx)(st:List Stmt)(t:TS):Prop:=
 ∀(pins:List (Addr×Obj)) (s:Shared) (σ:St) (H:Hp) (D:Ends),Inv X pins σ H s->t D σ H->wpAny (model X.prog X.w) X.A (execs st X.env) (SP X pins D) X.xe s
theorem thn{α:Type}{t:Sem α}{Q Q':α->Shared->Prop}{M:Model}{A:Around}{E:Value->Shared->Prop}{s:Shared}(h:wpAny M A t Q E s)(hQ:∀a s,Q a s->Q' a s):wpAny M A t Q' E s:=wpAny_mono h hQ λ_ _ x=>x
end L2
namespace L2
open PySem PySem.Spec PyProof.Rows
section
variable{X:Cx}
theorem bin{a b:Expr}{ta tb:TE}(ha:PE X a ta)(hb:PE X b tb){pins:List (Addr×Obj)}{s:Shared}{σ:St}{H:Hp}{R:V->V->Hp->Prop}(I:Inv X pins σ H s)(h:ta σ H λx H1=>tb σ H1 λy H2=>R x y H2)
  {α:Type} {Q:α->Shared->Prop} {f:Value->Value->Sem α}
  (hf:∀v u s2 x y H2,Inv X pins σ H2 s2->RelV x v->RelV y u->R x y H2->wpAny (model X.prog X.w) X.A (f v u) Q X.xe s2):
  wpAny (model X.prog X.w) X.A (eval a X.env) (λv s₁=>wpAny (model X.prog X.w) X.A (eval b X.env) (λu s₂=>wpAny (model X.prog X.w) X.A (f v u) Q X.xe s₂) X.xe s₁) X.xe s:=by
 refine thn (ha pins s σ H _ I h) λv s1 ⟨x,H1,I1,r1,q1⟩=>?_
 refine thn (hb pins s1 σ H1 _ I1 q1) λu s2 ⟨y,H2,I2,r2,q2⟩=>?_
 exact hf v u s2 x y H2 I2 r1 r2 q2
noncomputable def tVar(i:Nat):TE:=λσ H Q=>∃v,σ[i]?=some (some v)/\Q v H
noncomputable def tC(v:V):TE:=λ_ H Q=>Q v H
theorem Z9v{i:Nat}{x:Str}{pos:Pos}(hN:X.N[i]?=some x) (hv:Vis X.env.scope x) (hd:(x==("__debug__":Str))=false:=by decide) (hcd:(x==("__classdict__":Str))=false:=by decide):PE X (.Name x pos) (tVar i):=by
 intro pins s σ H Q I h
 obtain⟨v,e,h⟩:=h
 obtain⟨m,hn,hl⟩:=I.loc
 obtain⟨u,r,l⟩:=hl i x v hN e hv
 have fin:EP X pins σ Q u s:=⟨v,H,I,r,h⟩
 rcases l with⟨hk,hm⟩|⟨hk,c,hc,hcell⟩
 ·exact wpAny_Name (wpAny_loadName_local I.ok.kind hk hn hm fin) hd
 ·rcases hk with hk|hk
  ·exact wpAny_Name (wpAny_loadName_cell I.ok.kind hk hc hcell fin) hd
  ·exact wpAny_Name (wpAny_loadName_free I.ok.kind hk hc hcell fin hcd) hd
theorem pe_int{i j pos}:PE X (.Constant (.int i) j pos) (tC (.int i)):=λ_ _ _ H _ I h=>wpAny_Constant_int ⟨.int i,H,I.tok _,⟨_,rfl⟩,h⟩
theorem pe_bl{b j pos}:PE X (.Constant (.bool b) j pos) (tC (.bl b)):=λ_ _ _ H _ I h=>Constant_bool ⟨.bl b,H,I,rfl,h⟩
theorem pe_non{j pos}:PE X (.Constant .none j pos) (tC .non):=λ_ _ _ H _ I h=>Constant_none ⟨.non,H,I,rfl,h⟩
theorem pe_str{x j pos}:PE X (.Constant (.str x) j pos) (tC (.str x)):=λ_ _ _ H _ I h=>Calls.Constant_str ⟨.str x,H,I.tok _,⟨_,rfl⟩,h⟩
noncomputable def Gl(X:Cx)(x:Str):Prop:=X.env.kindOf x=some .globalImplicit
theorem Z5Y{E:Value->Shared->Prop}{pins:List (Addr×Obj)}{s:Shared}{σ:St}{H:Hp}{x:Str}{u:Value}{pos:Pos}{Q:Value->Shared->Prop}(I:Inv X pins σ H s)(hg:Gl X x)(hm:X.mg x=some u)(h:Q u s)
  (hd:(x==("__debug__":Str))=false:=by decide):wpAny (model X.prog X.w) X.A (eval (.Name x pos) X.env) Q E s:=
 Y2v I.ok.kind hg (Calls.loadGlobal_global (by rw[I.ok.glob];exact I.mod.glob.keeps I.bk) hm h) hd
theorem Z3b{E:Value->Shared->Prop}{pins:List (Addr×Obj)}{s:Shared}{σ:St}{H:Hp}{x:Str}{u:Value}{pos:Pos}{Q:Value->Shared->Prop}(I:Inv X pins σ H s)(hg:Gl X x)(hm:X.mg x=none)(hv:bootBuiltins x=some u)(h:Q u s)
  (hn:x≠"__name__":=by decide) (hd:(x==("__debug__":Str))=false:=by decide):wpAny (model X.prog X.w) X.A (eval (.Name x pos) X.env) Q E s:=by
 obtain⟨mb,h1,h2⟩:=I.mod.blt
 exact Y2v I.ok.kind hg (Calls.loadGlobal_builtin (by rw[I.ok.glob];exact I.mod.glob.keeps I.bk) hm (by rw[I.ok.blt];exact h1.keeps I.bk) ((h2 x hn).trans hv) h) hd
theorem Zay{x:Str}{v:V}{u:Value}{pos:Pos}(hg:Gl X x)(hm:X.mg x=some u)(r:RelV v u)(hd:(x==("__debug__":Str))=false:=by decide):PE X (.Name x pos) (tC v):=
 λ_ _ _ H _ I h=>Z5Y I hg hm ⟨v,H,I,r,h⟩ hd
theorem ZgW{x:Str}{v:V}{u:Value}{pos:Pos}(hg:Gl X x)(hm:X.mg x=none)(hv:bootBuiltins x=some u)(r:RelV v u)(hn:x≠"__name__":=by decide)(hd:(x==("__debug__":Str))=false:=by decide):PE X (.Name x pos) (tC v):=
 λ_ _ _ H _ I h=>Z3b I hg hm hv ⟨v,H,I,r,h⟩ hn hd
variable{a b:Expr}{ta tb:TE}{pos:Pos}
noncomputable def tB(t:TE):TT:=λσ H Q=>t σ H λx H1=>∃c,x=.bl c/\Q c H1
theorem Zjb{e:Expr}{t:TE}(h:PE X e t)(he:∀whole,isTrue e X.env whole=(do let v<- whole;standAt e.pos;holding [v] (truthy v)):=by intro _;rfl):PT X e (tB t):=by
 intro pins s σ H Q I hw
 refine isTrue_plain (thn (h pins s σ H _ I hw) λv s1 ⟨x,H1,I1,r1,q1⟩=>?_) (he _)
 obtain⟨d,rfl,q⟩:=q1
 cases r1
 exact wpAny_truthy_bool ⟨H1,I1,q⟩
variable{tA tB':TT}{rest:List Expr}
noncomputable def tAnd(t u:TT):TT:=λσ H Q=>t σ H λc H1=>if c=true then u σ H1 Q else Q false H1
noncomputable def tOr(t u:TT):TT:=λσ H Q=>t σ H λc H1=>if c=true then Q true H1 else u σ H1 Q
noncomputable def tNot(t:TT):TT:=λσ H Q=>t σ H λc H1=>Q (!c) H1
theorem pw_and1(ha:PT X a tA):PW X (.BoolOp .And [a] pos) tA:=by
 intro wh pins s σ H Q I h
 refine isTrue_and (thn (ha pins s σ H Q I h) λc s1 e=>?_)
 cases c with
 |true=>exact isTrue_and_nil e
 |false=>exact e
theorem pw_or1(ha:PT X a tA):PW X (.BoolOp .Or [a] pos) tA:=by
 intro wh pins s σ H Q I h
 refine isTrue_or (thn (ha pins s σ H Q I h) λc s1 e=>?_)
 cases c with
 |false=>exact isTrue_or_nil e
 |true=>exact e
theorem pw_and(ha:PT X a tA)(hb:PW X (.BoolOp .And (b::rest) pos) tB'):PW X (.BoolOp .And (a::b::rest) pos) (tAnd tA tB'):=by
 intro wh pins s σ H Q I h
 refine isTrue_and (thn (ha pins s σ H _ I h) λc s1 ⟨H1,I1,q1⟩=>?_)
 cases c with
 |true=>exact hb wh pins s1 σ H1 Q I1 q1
 |false=>exact⟨H1,I1,q1⟩
theorem pw_or(ha:PT X a tA)(hb:PW X (.BoolOp .Or (b::rest) pos) tB'):PW X (.BoolOp .Or (a::b::rest) pos) (tOr tA tB'):=by
 intro wh pins s σ H Q I h
 refine isTrue_or (thn (ha pins s σ H _ I h) λc s1 ⟨H1,I1,q1⟩=>?_)
 cases c with
 |true=>exact⟨H1,I1,q1⟩
 |false=>exact hb wh pins s1 σ H1 Q I1 q1
theorem Zjc(ha:PT X a tA):PT X (.UnaryOp .Not a pos) (tNot tA):=by
 intro pins s σ H Q I h
 exact isTrue_not (ha pins s σ H (λc H1=>Q (!c) H1) I h)
noncomputable def Zkn(ta tb:TE):TE:=λσ H Q=>ta σ H λx H1=>∃c,x=.bl c/\if c=true then tb σ H1 Q else Q (.bl false) H1
noncomputable def tOrV(ta tb:TE):TE:=λσ H Q=>ta σ H λx H1=>∃c,x=.bl c/\if c=true then Q (.bl true) H1 else tb σ H1 Q
noncomputable def Zkj(ta:TE):TE:=λσ H Q=>ta σ H λx H1=>∃c,x=.bl c/\Q (.bl (!c)) H1
theorem Zd3{op}{t:TE}(h:PE X a t):PE X (.BoolOp op [a] pos) t:=λpins s σ H Q I hw=>BoolOp_one (h pins s σ H Q I hw)
theorem ZfR(ha:PE X a ta)(hb:PE X (.BoolOp .And (b::rest) pos) tb):PE X (.BoolOp .And (a::b::rest) pos) (Zkn ta tb):=by
 intro pins s σ H Q I h
 refine BoolOp_and (thn (ha pins s σ H _ I h) λv s1 ⟨x,H1,I1,r1,q1⟩=>?_)
 obtain⟨c,rfl,q1⟩:=q1
 cases r1
 refine wpAny_truthy_bool ?_
 cases c with
 |true=>exact hb pins s1 σ H1 Q I1 q1
 |false=>exact⟨.bl false,H1,I1,rfl,q1⟩
theorem Zlw(ha:PE X a ta)(hb:PE X (.BoolOp .Or (b::rest) pos) tb):PE X (.BoolOp .Or (a::b::rest) pos) (tOrV ta tb):=by
 intro pins s σ H Q I h
 refine BoolOp_or (thn (ha pins s σ H _ I h) λv s1 ⟨x,H1,I1,r1,q1⟩=>?_)
 obtain⟨c,rfl,q1⟩:=q1
 cases r1
 refine wpAny_truthy_bool ?_
 cases c with
 |false=>exact hb pins s1 σ H1 Q I1 q1
 |true=>exact⟨.bl true,H1,I1,rfl,q1⟩
theorem ZfP(ha:PE X a ta):PE X (.UnaryOp .Not a pos) (Zkj ta):=by
 intro pins s σ H Q I h
 refine UnaryOp_ (thn (ha pins s σ H _ I h) λv s1 ⟨x,H1,I1,r1,q1⟩=>?_)
 obtain⟨c,rfl,q1⟩:=q1
 cases r1
 exact not_of (wpAny_truthy_bool ⟨.bl (!c),H1,I1,rfl,q1⟩)
end
end L2
namespace L2
open PySem PySem.Spec PyProof.Rows
noncomputable def SqL(K:Y00)(H:Hp)(a:Addr)(xs:List V):Prop:=
 Rd H a (.lst xs)\/
  ∃(o:Obj) (its:Array Value) (n:Nat),K.lookup a=some o/\o.cls=.type "list"/\o.dict=none/\o.data=.seq its n/\its.size≤sizeLine/\Vals xs its.toList
noncomputable def SqT(K:Y00)(H:Hp)(a:Addr)(xs:List V):Prop:=
 Rd H a (.tup xs)\/
  ∃(o:Obj) (its:Array Value) (n:Nat),K.lookup a=some o/\o.cls=.type "tuple"/\o.data=.seq its n/\its.size≤sizeLine/\Vals xs its.toList
noncomputable def absV:Value->Option V
 |.none=>some .non
 |.bool b=>some (.bl b)
 |.int i _=>some (.int i)
 |.str x _=>some (.str x)
 |.bytes b _=>some (.byt b)
 |.float b _=>some (.flt b)
 |.ref a=>some (.ref a)
 |.type n=>some (.ty n)
 |_=>none
theorem RelV.abs{x:V}{u:Value}(r:RelV x u):absV u=some x:=by
 cases x with
 |non=>cases r;rfl
 |bl _=>cases r;rfl
 |int _=>obtain⟨t,rfl⟩:=r;rfl
 |str _=>obtain⟨t,rfl⟩:=r;rfl
 |byt _=>obtain⟨t,rfl⟩:=r;rfl
 |flt _=>obtain⟨t,rfl⟩:=r;rfl
 |ref _=>cases r;rfl
 |ty _=>cases r;rfl
theorem RelV.inj{x y:V}{u:Value}(r:RelV x u)(q:RelV y u):x=y:=Y0C (r.abs.symm.trans q.abs)
theorem Vals.inj:∀{xs ys:List V} {us:List Value},Vals xs us->Vals ys us->xs=ys
 |_,_,_,.nil,.nil=>rfl
 |_,_,_,.cons r t,.cons r' t'=>by rw[r.inj r',Vals.inj t t']
section
variable{X:Cx}{pins:List (Addr×Obj)}{σ:St}{H:Hp}{s:Shared}{a:Addr}{xs ys:List V}
theorem SqL.of{K:Y00}(h:H a=some (.lst xs)):SqL K H a xs:=.inl (.inl h)
theorem SqT.of{K:Y00}(h:H a=some (.tup xs)):SqT K H a xs:=.inl (.inl h)
theorem Inv.list(I:Inv X pins σ H s)(h:SqL X.K H a xs):∃its:List Value,Vals xs its/\PlainL s.heap a its.toArray/\xs.length≤sizeLine:=by
 rcases h with h|⟨o,its,n,hk,hc,hd,hs,hz,r⟩
 ·obtain⟨z,its,n,r,e⟩:=h.ok I.hok
  exact⟨its,r,⟨_,n,e,rfl,rfl,rfl⟩,z⟩
 ·refine⟨its.toList,r,⟨o,n,I.kIn a o hk,hc,hd,by simpa using hs⟩,?_⟩
  have e:=r.length
  simp only[Y0c]at e
  lia
theorem Inv.tuple(I:Inv X pins σ H s)(h:SqT X.K H a xs):∃its:List Value,Vals xs its/\IsTup s.heap a its.toArray/\xs.length≤sizeLine:=by
 rcases h with h|⟨o,its,n,hk,hc,hs,hz,r⟩
 ·obtain⟨z,its,r,p⟩:=h.ok I.hok
  exact⟨its,r,p.1,z⟩
 ·refine⟨its.toList,r,⟨o,I.kIn a o hk,hc,n,by simpa using hs⟩,?_⟩
  have e:=r.length
  simp only[Y0c]at e
  lia
theorem Inv.list_inj(I:Inv X pins σ H s)(h:SqL X.K H a xs)(h':SqL X.K H a ys):xs=ys:=by
 obtain⟨its,r,⟨o,n,e,_,_,d⟩,_⟩:=I.list h
 obtain⟨its',r',⟨o',n',e',_,_,d'⟩,_⟩:=I.list h'
 rw[e]at e';cases e'
 rw[d]at d'
 injection d' with d1 _
 have:its=its':=by simpa using congrArg Array.toList d1
 subst this
 exact r.inj r'
theorem Inv.tuple_inj(I:Inv X pins σ H s)(h:SqT X.K H a xs)(h':SqT X.K H a ys):xs=ys:=by
 obtain⟨its,r,⟨o,e,_,n,d⟩,_⟩:=I.tuple h
 obtain⟨its',r',⟨o',e',_,n',d'⟩,_⟩:=I.tuple h'
 rw[e]at e';cases e'
 rw[d]at d'
 injection d' with d1 _
 have:its=its':=by simpa using congrArg Array.toList d1
 subst this
 exact r.inj r'
end
noncomputable abbrev Cx.wish(X:Cx)(E:Value->Shared->Prop):Cx:={X with xe:=E}
noncomputable abbrev Cx.nox(X:Cx):Cx:=X.wish λ_ _=>False
theorem Cx.Ok.wish{X:Cx}(ok:X.Ok)(E:Value->Shared->Prop):(X.wish E).Ok:=
 ⟨ok.mod,ok.kind,ok.glob,ok.blt,ok.above,ok.inj,ok.has,ok.cab,ok.hd,ok.frames,ok.stk,ok.exf,ok.bs,ok.bsz,ok.noex,ok.exfs,ok.funs,ok.frf⟩
theorem Cx.Ok.unwish{X:Cx}{E:Value->Shared->Prop}(ok:(X.wish E).Ok):X.Ok:=
 ⟨ok.mod,ok.kind,ok.glob,ok.blt,ok.above,ok.inj,ok.has,ok.cab,ok.hd,ok.frames,ok.stk,ok.exf,ok.bs,ok.bsz,ok.noex,ok.exfs,ok.funs,ok.frf⟩
section
variable{X:Cx}{pins:List (Addr×Obj)}{σ:St}{H:Hp}{s:Shared}{E:Value->Shared->Prop}
theorem Inv.wish(I:Inv X pins σ H s)(E:Value->Shared->Prop):Inv (X.wish E) pins σ H s:=⟨I.ok.wish E,I.os,I.bare,I.base,I.loc,I.cell,I.free,I.freeC,I.pin,I.hok,I.len⟩
theorem Inv.unwish(I:Inv (X.wish E) pins σ H s):Inv X pins σ H s:=⟨I.ok.unwish,I.os,I.bare,I.base,I.loc,I.cell,I.free,I.freeC,I.pin,I.hok,I.len⟩
theorem SP.unwish{D:Ends}{f:Flow}{s':Shared}(h:SP (X.wish E) pins D f s'):SP X pins D f s':=by
 cases f with
 |next=>obtain⟨σ',H',I,q⟩:=h;exact⟨σ',H',I.unwish,q⟩
 |brk=>obtain⟨σ',H',I,q⟩:=h;exact⟨σ',H',I.unwish,q⟩
 |cont=>obtain⟨σ',H',I,q⟩:=h;exact⟨σ',H',I.unwish,q⟩
 |ret u=>obtain⟨v,σ',H',I,r,q⟩:=h;exact⟨v,σ',H',I.unwish,r,q⟩
theorem PT.nox{e:Expr}{t:TT}(h:PT X.nox e t):PT X e t:=λpins s σ H Q I hw=>
 wpAny_mono (h pins s σ H Q (I.wish _) hw) (λ_ _ ⟨H',I',q⟩=>⟨H',I'.unwish,q⟩) λ_ _ z=>Y0G z
theorem PSs.nox{st:List Stmt}{t:TS}(h:PSs X.nox st t):PSs X st t:=λpins s σ H D I hw=>
 wpAny_mono (h pins s σ H D (I.wish _) hw) (λ_ _ q=>q.unwish) λ_ _ z=>Y0G z
end
section
variable{X:Cx}{st:Stmt}{rest:List Stmt}{t u:TS}{e:Expr}{te:TE}{pos:Pos}
noncomputable def Zkk:TS:=λD σ H=>D.nx σ H
noncomputable def tSeq(t u:TS):TS:=λD σ H=>t {D with nx:=u D} σ H
theorem pss_nil:PSs X [] Zkk:=λ_ _ σ H _ I h=>wpAny_execs_nil ⟨σ,H,I,h⟩
theorem Z8O(h1:PS X st t)(h2:PSs X rest u):PSs X (st::rest) (tSeq t u):=by
 intro pins s σ H D I h
 refine wpAny_execs_cons (thn (h1 pins s σ H {D with nx:=u D} I h) λf s1 q=>?_)
 cases f with
 |next=>
  obtain⟨σ',H',I',q⟩:=q
  exact h2 pins s1 σ' H' D I' q
 |ret v=>exact q
 |brk=>exact q
 |cont=>exact q
theorem Zaw(h1:PS X st t):PSs X [st] t:=by
 intro pins s σ H D I h
 refine wpAny_execs_cons (thn (h1 pins s σ H D I h) λf s1 q=>?_)
 cases f with
 |next=>exact wpAny_execs_nil q
 |ret v=>exact q
 |brk=>exact q
 |cont=>exact q
theorem Inv.quiet{pins:List (Addr×Obj)}{σ:St}{H:Hp}{s:Shared}(I:Inv X pins σ H s):interactive X.env=false:=by simp[interactive,I.ok.kind]
noncomputable def Zkl(te:TE):TS:=λD σ H=>te σ H λ_ H1=>D.nx σ H1
theorem ZcV(he:PE X e te)(hs:swapsWith e none pos.line X.env=pure false:=by rfl):PS X (.Expr e pos) (Zkl te):=by
 intro pins s σ H D I h
 exact wpAny_Expr_any (thn (he pins s σ H _ I h) λv s1 ⟨x,H1,I1,r1,q1⟩=>⟨σ,H1,I1,q1⟩) I.quiet hs
noncomputable def tRet(te:TE):TS:=λD σ H=>te σ H D.rt
theorem ZfL(he:PE X e te):PS X (.Return (some e) pos) (tRet te):=by
 intro pins s σ H D I h
 exact wpAny_Return_some (thn (he pins s σ H _ I h) λv s1 ⟨x,H1,I1,r1,q1⟩=>⟨x,σ,H1,I1,r1,q1⟩)
noncomputable def tIfS(c:TT)(t u:TS):TS:=λD σ H=>c σ H λb H1=>if b=true then t D σ H1 else u D σ H1
theorem Zje{c:Expr}{a b:List Stmt}{tc:TT}(hc:PT X c tc)(ha:PSs X a t)(hb:PSs X b u):PS X (.If c a b pos) (tIfS tc t u):=by
 intro pins s σ H D I h
 refine wpAny_If (thn (hc pins s σ H _ I h) λd s1 ⟨H1,I1,q1⟩=>?_)
 cases d with
 |true=>exact ha pins s1 σ H1 D I1 q1
 |false=>exact hb pins s1 σ H1 D I1 q1
noncomputable def Zik:TS:=λ_ _ _=>False
theorem ps_never:PS X st Zik:=λ_ _ _ _ _ _ h=>h.elim
end
noncomputable abbrev TG:=V->St->Hp->(St->Hp->Prop)->Prop
noncomputable abbrev TGs:=List V->St->Hp->(St->Hp->Prop)->Prop
noncomputable def PG(X:Cx)(target:Expr)(t:TG):Prop:=
 ∀(pins:List (Addr×Obj)) (s:Shared) (σ:St) (H:Hp) (v:V) (u:Value) (Q:St->Hp->Prop),Inv X pins σ H s->RelV v u->t v σ H Q->
  wpAny (model X.prog X.w) X.A (assign target X.env u) (λ_ s'=>∃σ' H',Inv X pins σ' H' s'/\Q σ' H') X.xe s
noncomputable def PGs(X:Cx)(ts:List Expr)(t:TGs):Prop:=
 ∀(pins:List (Addr×Obj)) (s:Shared) (σ:St) (H:Hp) (vs:List V) (us:List Value) (Q:St->Hp->Prop),Inv X pins σ H s->Vals vs us->t vs σ H Q->
  wpAny (model X.prog X.w) X.A (assignInOrder ((assignEach ts X.env).map (·.2)) us) (λ_ s'=>∃σ' H',Inv X pins σ' H' s'/\Q σ' H') X.xe s
section
variable{X:Cx}{pos:Pos}
noncomputable def Zfc(i:Nat):TG:=λv σ H Q=>Q (σ.set i (some v)) H
theorem Zd2{i:Nat}{x:Str}(hN:X.N.Nodup)(hi:X.N[i]?=some x) (hx:Loc X.env.scope x) (hf:X.fn x=true\/X.env.scope.names.lookup x=some .local:=by first|exact .inl rfl|exact .inr rfl|assumption):PG X (.Name x pos) (Zfc i):=by
 intro pins s σ H v u Q I r h
 exact wpAny_assign_Name (Z53 I hN hi hx r (λs' I'=>⟨_,H,I',h⟩) hf)
noncomputable def gNil:TGs:=λvs σ H Q=>vs=[]/\Q σ H
noncomputable def ZjY(t:TG)(u:TGs):TGs:=λvs σ H Q=>∃v r,vs=v::r/\t v σ H λσ' H'=>u r σ' H' Q
theorem ZgT:PGs X [] gNil:=by
 intro pins s σ H vs us Q I r h
 obtain⟨e,h⟩:=h
 subst e
 cases r
 exact assignInOrder_nil ⟨σ,H,I,h⟩
theorem ZeF{e:Expr}{es:List Expr}{t:TG}{u:TGs}(h1:PG X e t)(h2:PGs X es u)
  (hs:(assignEach (e::es) X.env).map (·.2)=assign e X.env::(assignEach es X.env).map (·.2):=by rfl):PGs X (e::es) (ZjY t u):=by
 intro pins s σ H vs us Q I r h
 obtain⟨v,vr,e1,h⟩:=h
 subst e1
 cases r with
 |cons r rr=>
  rw[hs]
  refine assignInOrder_cons (thn (h1 pins s σ H _ _ _ I r h) λ_ s1 ⟨σ1,H1,I1,q1⟩=>?_)
  exact h2 pins s1 σ1 H1 _ _ Q I1 rr q1
noncomputable def gTup(K:Y00)(n:Nat)(t:TGs):TG:=λv σ H Q=>∃a xs,v=.ref a/\SqT K H a xs/\xs.length=n/\t xs σ H Q
theorem Zjg{es:List Expr}{k:Nat}{t:TGs}{n:Nat}(hc:X.calm=true)(h:PGs X es t)
  (hn:(assignEach es X.env).length=n:=by rfl) (hst:(assignEach es X.env).findIdx? (·.1)=none:=by rfl):PG X (.Tuple es k pos) (gTup X.K n t):=by
 intro pins s σ H v u Q I r hw
 obtain⟨a,xs,e1,hq,hl,hw⟩:=hw
 subst e1
 cases r
 obtain⟨its,rv,ht,hz⟩:=I.tuple hq
 refine assign_Tuple_tuple (I.ok.hd hc) ht (by simp[hn,<- hl,rv.length]) hst λh' hx=>?_
 have I1:Inv X pins σ H {s with heap:=h'}:=I.kept (t':=s.toks) λb o e=>hx b o (Y0f (Y09 e)) e
 exact h pins _ σ H xs _ Q I1 (by simpa using rv) hw
noncomputable def tAsg(te:TE)(g:TG):TS:=λD σ H=>te σ H λx H1=>g x σ H1 D.nx
theorem Zjf{tg e:Expr}{te:TE}{g:TG}(he:PE X e te)(hg:PG X tg g)(hs:swapsWithSole [tg] e pos.line X.env=pure false:=by rfl)(hw:swappedStores [tg] e X.env=pure none:=by rfl)
  (h1:(assignEach [tg] X.env).map (·.2)=[assign tg X.env]:=by rfl):PS X (.Assign [tg] e pos) (tAsg te g):=by
 intro pins s σ H D I h
 refine wpAny_Assign_stores (thn (he pins s σ H _ I h) λv s1 ⟨x,H1,I1,r1,q1⟩=>?_) hs hw
 rw[h1]
 exact thn (hg pins s1 σ H1 x v _ I1 r1 q1) λ_ s2 q=>q
theorem Z8b{i:Nat}{x:Str}{e:Expr}{te:TE}{pos':Pos}(hN:X.N.Nodup)(hi:X.N[i]?=some x) (hx:Loc X.env.scope x) (he:PE X e te) (hs:swapsWith e (some (.Name x pos')) pos.line X.env=pure false:=by rfl) (hf:X.fn x=true\/X.env.scope.names.lookup x=some .local:=by first|exact .inl rfl|exact .inr rfl|assumption):
  PS X (.Assign [.Name x pos'] e pos) (tAsg te (Zfc i)):=by
 intro pins s σ H D I h
 refine wpAny_Assign_Name (thn (he pins s σ H _ I h) λv s1 ⟨y,H1,I1,r1,q1⟩=>?_) hs
 exact Z53 I1 hN hi hx r1 (λs2 I2=>⟨_,H1,I2,q1⟩) hf
end
section
variable{X:Cx}{pos:Pos}
end
structure It where
 go:Nat->Hp->Prop
 yld:Nat->Hp->V->Hp->Prop
 stop:Nat->Hp->Prop
noncomputable def FpOk(X:Cx)(pins:List (Addr×Obj))(H:Hp)(b:Addr):Prop:=
 H b=none/\b≠X.env.locals/\b∉X.fs/\(b∈X.ex\/X.s₀.heap.objs.size≤b)/\(∀x c,X.env.cells.lookup x=some c->c≠b)/\∀p∈X.pn++pins,p.1≠b
theorem Inv.fpOk{X:Cx}{pins:List (Addr×Obj)}{σ:St}{H H':Hp}{s:Shared}{b:Addr}(I:Inv X pins σ H s)(hb:s.heap.objs.size≤b)(hn:H' b=none):FpOk X pins H' b:=by
 refine⟨hn,Y23 (Y0y I.lt hb),I.nofs hb,.inr (Y0N I.sz hb),λx c e z=>?_,λp hp z=>?_⟩
 ·obtain⟨v,q⟩:=I.cell x c e
  exact absurd (Y0y q.lt (by rw[z];exact hb)) (Y1H _)
 ·exact absurd (Y0y (Y09 (I.pin p hp).1) (by rw[z];exact hb)) (Y1H _)
structure Turn (P:Program) (w:World) (K:Y00) (tg:Expr) (J:It) (fp:List Addr) (it:Addr) (tn:Nat->Heap->Prop):Prop where
 mem:it∈fp
 obj:∀i h,tn i h->∀b∈fp,∃o,h.get? b=some o/\∀v,o.data≠.cell v
 keep:∀i h h',tn i h->(∀b∈fp,∀o,h.get? b=some o->h'.get? b=some o)->tn i h'
 item:∀(X:Cx),X.prog=P->X.w=w->X.K=K->X.calm=true->∀(i:Nat) (pins:List (Addr×Obj)) (s:Shared) (σ:St) (H:Hp) (E:Value->Shared->Prop),Inv X pins σ H s->(∀b∈fp,FpOk X pins H b)->tn i s.heap->J.go i H->
  wpAny (model P w) X.A (pyNext (.ref it)) (λr s1=>∃u,r=some u/\
   wpAny (model P w) X.A (letOwnedTupleGo tg (.ref it) u) (λ_ s2=>∃x H',Inv X pins σ H' s2/\RelV x u/\J.yld i H x H'/\tn (i+1) s2.heap/\∀b∈fp,H' b=none) E s1) E s
 done:∀(X:Cx),X.prog=P->X.w=w->X.K=K->X.calm=true->∀(i:Nat) (pins:List (Addr×Obj)) (s:Shared) (σ:St) (H:Hp) (E:Value->Shared->Prop),Inv X pins σ H s->(∀b∈fp,FpOk X pins H b)->tn i s.heap->J.stop i H->
  wpAny (model P w) X.A (pyNext (.ref it)) (λr s1=>r=none/\Inv X pins σ H s1) E s
 self:∀(A:Around) (i:Nat) (s:Shared) (Q:Value->Shared->Prop) (E:Value->Shared->Prop),tn i s.heap->Q (.ref it) s->wpAny (model P w) A (pyIter (.ref it)) Q E s
noncomputable abbrev TI:=St->Hp->(It->Hp->Prop)->Prop
noncomputable def PIE(X:Cx)(pins:List (Addr×Obj))(σ:St)(tg:Expr)(R:It->Hp->Prop)(itv:Value)(s2:Shared):Prop:=
 ∃(it:Addr) (fp:List Addr) (tn:Nat->Heap->Prop) (J:It) (H':Hp),itv=.ref it/\Inv X pins σ H' s2/\Turn X.prog X.w X.K tg J fp it tn/\tn 0 s2.heap/\(∀b∈fp,FpOk X pins H' b)/\R J H'
noncomputable def PI(X:Cx)(tg iter:Expr)(wi:TI):Prop:=
 ∀(pins:List (Addr×Obj)) (s:Shared) (σ:St) (H:Hp) (R:It->Hp->Prop),Inv X pins σ H s->wi σ H R->
  wpAny (model X.prog X.w) X.A (eval iter X.env) (λv s1=>wpAny (model X.prog X.w) X.A (pyIter v) (PIE X pins σ tg R) X.xe s1) X.xe s
theorem ZaR{M:Model}{A:Around}{E:Value->Shared->Prop}{s:Shared}{tg:Expr}{it:Addr}{u:Value}{o:Obj}{n:String}{vs:Array Value}{Q:Unit->Shared->Prop}(ho:s.heap.get? it=some o)(hc:o.cls=.type n)(hd:o.data=.fields vs)
  (hn:["enumerate","zip","dict_itemiterator","dict_reverseitemiterator","odict_iterator","itertools.zip_longest","itertools.pairwise"].contains n=false) (hQ:Q () s):wpAny M A (letOwnedTupleGo tg (.ref it) u) Q E s:=by
 unfold letOwnedTupleGo
 cases tg<;>first
  |exact wpAny_pure hQ
  |(cases u<;>first
    |exact wpAny_pure hQ
    |(refine wpAny_bind (wpAny_load ho ?_)
      rw[hc,hd]
      show wpAny M A (if(["enumerate","zip","dict_itemiterator","dict_reverseitemiterator","odict_iterator","itertools.zip_longest","itertools.pairwise"].contains n&&vs[0]?==some (rawInt _))=true then _ else _) Q E s
      rw[if_neg (by intro h;rw[hn,Y2G]at h;cases h)]
      exact wpAny_pure hQ))
noncomputable def Itl(K:Y00)(a:Addr):It:=
 ⟨λi H=>∃xs x,SqL K H a xs/\xs[i]?=some x,λi H x H'=>H'=H/\∀xs,SqL K H a xs->xs[i]?=some x,λi H=>∃xs,SqL K H a xs/\xs.length≤i⟩
noncomputable def Itt(K:Y00)(a:Addr):It:=
 ⟨λi H=>∃xs x,SqT K H a xs/\xs[i]?=some x,λi H x H'=>H'=H/\∀xs,SqT K H a xs->xs[i]?=some x,λi H=>∃xs,SqT K H a xs/\xs.length≤i⟩
noncomputable def Itr(lo:Int)(n:Nat):It:=⟨λi _=>i<n,λi H x H'=>H'=H/\x=.int (lo+i),λi _=>n≤i⟩
theorem Zcu{P:Program}{w:World}{K:Y00}{tg:Expr}(a it:Addr):Turn P w K tg (Itl K a) [it] it (λi h=>h.IsListIter it a i)where
 mem:=by simp
 obj:=λi h st b hb=>by
  have e:b=it:=by simpa using hb
  subst e
  obtain⟨o,e,c,d⟩:=st
  exact⟨o,e,λv z=>by rw[d]at z;cases z⟩
 keep:=λi h h' st k=>st.at λo e=>k it (by simp) o e
 item:=by
  intro X hP hw hK hc i pins s σ H E I hf st hg
  subst hP hw hK
  obtain⟨xs,x,hq,hx⟩:=hg
  obtain⟨its,rv,p,hz⟩:=I.list hq
  obtain⟨u,hu,ru⟩:=rv.get hx
  obtain⟨f0,f1,f2,f3,f4,f5⟩:=hf it (by simp)
  refine wpAny_pyNext_list_item st p.isList (x:=u) (by simpa using hu) λh' st' sb=>?_
  have I1:Inv X pins σ H {s with heap:=h'}:=I.turned (t':=s.toks) (λb o hb e=>(sb.2 b hb).trans e) f0 f1 f3 f4 f5
  obtain⟨o,e,c,d⟩:=id st'
  exact⟨u,rfl,ZaR (s:={s with heap:=h'}) e c d (by decide) ⟨x,H,I1,ru,⟨rfl,λys hy=>by rw[I.list_inj hy hq];exact hx⟩,st',λb hb=>(hf b hb).1⟩⟩
 done:=by
  intro X hP hw hK hc i pins s σ H E I hf st hg
  subst hP hw hK
  obtain⟨xs,hq,hx⟩:=hg
  obtain⟨its,rv,p,hz⟩:=I.list hq
  obtain⟨f0,f1,f2,f3,f4,f5⟩:=hf it (by simp)
  have hl:=rv.length
  exact wpAny_pyNext_list_end (I.ok.hd hc) st p.isList (by simp;lia) λh' eb=>⟨rfl,I.turned (t':=s.toks) (λb o hb e=>eb b o hb e) f0 f1 f3 f4 f5⟩
 self:=λ_ _ _ _ _ st h=>wpAny_pyIter_listiter st h
theorem ZbM{P:Program}{w:World}{K:Y00}{tg:Expr}(a it:Addr):Turn P w K tg (Itt K a) [it] it (λi h=>h.IsTupleIter it a i)where
 mem:=by simp
 obj:=λi h st b hb=>by
  have e:b=it:=by simpa using hb
  subst e
  obtain⟨o,e,c,d⟩:=st
  exact⟨o,e,λv z=>by rw[d]at z;cases z⟩
 keep:=λi h h' st k=>st.at λo e=>k it (by simp) o e
 item:=by
  intro X hP hw hK hc i pins s σ H E I hf st hg
  subst hP hw hK
  obtain⟨xs,x,hq,hx⟩:=hg
  obtain⟨its,rv,p,hz⟩:=I.tuple hq
  obtain⟨u,hu,ru⟩:=rv.get hx
  obtain⟨f0,f1,f2,f3,f4,f5⟩:=hf it (by simp)
  refine wpAny_pyNext_tuple_item st (show s.heap.IsTuple a its.toArray from p) (x:=u) (by simpa using hu) λh' st' sb=>?_
  have I1:Inv X pins σ H {s with heap:=h'}:=I.turned (t':=s.toks) (λb o hb e=>(sb.2 b hb).trans e) f0 f1 f3 f4 f5
  obtain⟨o,e,c,d⟩:=id st'
  exact⟨u,rfl,ZaR (s:={s with heap:=h'}) e c d (by decide) ⟨x,H,I1,ru,⟨rfl,λys hy=>by rw[I.tuple_inj hy hq];exact hx⟩,st',λb hb=>(hf b hb).1⟩⟩
 done:=by
  intro X hP hw hK hc i pins s σ H E I hf st hg
  subst hP hw hK
  obtain⟨xs,hq,hx⟩:=hg
  obtain⟨its,rv,p,hz⟩:=I.tuple hq
  obtain⟨f0,f1,f2,f3,f4,f5⟩:=hf it (by simp)
  have hl:=rv.length
  exact wpAny_pyNext_tuple_end (I.ok.hd hc) st (show s.heap.IsTuple a its.toArray from p) (by simp;lia) λh' eb=>⟨rfl,I.turned (t':=s.toks) (λb o hb e=>eb b o hb e) f0 f1 f3 f4 f5⟩
 self:=λ_ _ _ _ _ st h=>wpAny_pyIter_tupleiter st h
theorem ZbN{P:Program}{w:World}{K:Y00}{tg:Expr}(it:Addr)(lo:Int)(n:Nat):Turn P w K tg (Itr lo n) [it] it (λi h=>IsRangeIter h it (lo+(i:Nat)*1) ((n:Int) - (i:Nat)) 1)where
 mem:=by simp
 obj:=λi h st b hb=>by
  have e:b=it:=by simpa using hb
  subst e
  exact⟨_,st,λv z=>by
   have z':Y1I _=Data.cell v:=z
   cases z'⟩
 keep:=λi h h' st k=>k it (by simp) _ st
 item:=by
  intro X hP hw hK hc i pins s σ H E I hf st hg
  subst hP hw hK
  obtain⟨f0,f1,f2,f3,f4,f5⟩:=hf it (by simp)
  have W:=Walks.range (prog:=X.prog) (w:=X.w) (I.ok.hd hc) it lo 1 n
  refine W.item i s _ _ hg st λv h' tk hv st' kk=>?_
  obtain⟨t,rfl⟩:=hv
  have I1:Inv X pins σ H {s with heap:=h',toks:=tk}:=I.turned (λb o hb e=>kk b o (by simpa using hb) e) f0 f1 f3 f4 f5
  refine⟨_,rfl,ZaR (s:={s with heap:=h',toks:=tk}) (n:="range_iterator") st' rfl rfl (by decide) ⟨.int (lo+i),H,I1,⟨t,?_⟩,⟨rfl,rfl⟩,st',fun b hb=>(hf b hb).1⟩⟩
  rw[Int.mul_one]
 done:=by
  intro X hP hw hK hc i pins s σ H E I hf st hg
  subst hP hw hK
  obtain⟨f0,f1,f2,f3,f4,f5⟩:=hf it (by simp)
  exact wpAny_pyNext_range_end (I.ok.hd hc) st (by have:n≤i:=hg;lia) λh' eb=>⟨rfl,I.turned (t':=s.toks) (λb o hb e=>eb b o hb e) f0 f1 f3 f4 f5⟩
 self:=λ_ _ _ _ _ st h=>wpAny_pyIter_rangeiter st h
end L2
namespace L2
open PySem PySem.Spec PyProof.Rows
section
variable{X:Cx}{tg:Expr}
theorem Zbf{pins:List (Addr×Obj)}{σ:St}{H:Hp}{s:Shared}{R:It->Hp->Prop}{E:Value->Shared->Prop}{lo hi:Int}{t u v:Tok}{tk:Nat}(I:Inv X pins σ H s)(h1:-(2^62)≤lo)(h2:lo<2^62)(h3:-(2^62)≤hi)(h4:hi<2^62)
  (q:R (Itr lo (hi - lo).toNat) H):wpAny (model X.prog X.w) X.A (pyIter (.ref s.heap.objs.size)) (PIE X pins σ tg R) E {s with heap:=s.heap.push {cls:=.type "range",data:=.fields #[.int lo t,.int hi u,.int 1 v]},toks:=tk}:=by
 refine wpAny_pyIter_range (Y3P ..) (small_one h1 h2 h3 h4) ?_
 have I1:Inv X pins σ H {s with heap:=s.heap.push {cls:=.type "range",data:=.fields #[.int lo t,.int hi u,.int 1 v]},toks:=tk}:=I.kept fun b o e=>Y02 _ e
 refine⟨(s.heap.push {cls:=.type "range",data:=.fields #[.int lo t,.int hi u,.int 1 v]}).objs.size,[(s.heap.push {cls:=.type "range",data:=.fields #[.int lo t,.int hi u,.int 1 v]}).objs.size],_,_,H,rfl,
  I1.kept (t':=tk) λb o e=>Y02 _ e,ZbN _ lo (hi - lo).toNat,?_,λb hb=>?_,q⟩
 ·have e1:lo+((0:Nat):Int)*1=lo:=by simp
  have e2:(((hi - lo).toNat:Nat):Int) - ((0:Nat):Int)=Y1b lo hi 1:=by rw[rangeSize_one];split<;>lia
  show IsRangeIter _ _ (lo+((0:Nat):Int)*1) ((((hi - lo).toNat:Nat):Int) - ((0:Nat):Int)) 1
  rw[e1,e2]
  exact Y0a _ rfl
 ·have e:b=(s.heap.push {cls:=.type "range",data:=.fields #[.int lo t,.int hi u,.int 1 v]}).objs.size:=by simpa using hb
  subst e
  exact I1.fpOk (Y07 _) (I1.hok.fresh (Y07 _))
noncomputable def ZlP(ta:TA):TI:=λσ H R=>ta σ H λvs H1=>∃j:Int,vs=[.int j]/\ -(2^62)≤j/\j<2^62/\R (Itr 0 j.toNat) H1
noncomputable def ZlO(ta:TA):TI:=λσ H R=>ta σ H λvs H1=>∃i j:Int,vs=[.int i,.int j]/\(-(2^62)≤i/\i<2^62/\ -(2^62)≤j/\j<2^62)/\R (Itr i (j - i).toNat) H1
theorem Zd1{a:Expr}{ta:TA}{p pos:Pos}(hg:Gl X "range")(hm:X.mg "range"=none)(ha:PA X [a] ta)(hs:starEach [a] X.env=[(false,eval a X.env)]:=by rfl):PI X tg (.Call (.Name "range" p) [a] [] pos) (ZlP ta):=by
 intro pins s σ H R I h
 refine Call_ (Z3b I hg hm boot_range (Y0O (thn (ha pos pins s σ H _ I h) λus s1 ⟨vs,H1,I1,r1,q1⟩=>?_) hs rfl))
 obtain⟨j,e,q1,q2,q⟩:=q1
 subst e
 cases r1 with
 |cons r rr=>
  cases rr
  obtain⟨t,rfl⟩:=r
  exact call_range_1 (Zbf I1 (by lia) (by lia) q1 q2 (by simpa using q))
theorem Zd0{a b:Expr}{ta:TA}{p pos:Pos}(hg:Gl X "range")(hm:X.mg "range"=none)(ha:PA X [a,b] ta)(hs:starEach [a,b] X.env=[(false,eval a X.env),(false,eval b X.env)]:=by rfl)(hs2:starEach [b] X.env=[(false,eval b X.env)]:=by rfl):
  PI X tg (.Call (.Name "range" p) [a,b] [] pos) (ZlO ta):=by
 intro pins s σ H R I h
 refine Call_ (Z3b I hg hm boot_range (Y0O (thn (ha pos pins s σ H _ I h) λus s1 ⟨vs,H1,I1,r1,q1⟩=>?_) (by rw[hs,hs2]) (by rw[hs2];rfl)))
 obtain⟨i,j,e,⟨q1,q2,q3,q4⟩,q⟩:=q1
 subst e
 cases r1 with
 |cons r rr=>
  cases rr with
  |cons r' rr=>
   cases rr
   obtain⟨t,rfl⟩:=r
   obtain⟨t',rfl⟩:=r'
   exact call_range_2 (Zbf I1 q1 q2 q3 q4 q)
noncomputable def tFor(wi:TI)(g:TG)(tb:TS):TS:=λD σ H=>wi σ H λJ H1=>∃W:Nat->Nat->St->Hp->Prop,(∃m,W 0 m σ H1)/\∀i m σ H,W i m σ H->
 (J.stop i H/\D.nx σ H)\/(J.go i H/\∃N:St->Hp->Prop,(∀σ' H',N σ' H'->∃m',m'<m/\W (i+1) m' σ' H')/\∀x H',J.yld i H x H'->g x σ H' λσ2 H2=>tb {D with nx:=N,ct:=N,bk:=D.nx} σ2 H2)
noncomputable def Z8c(fp:List Addr)(h:Heap):List (Addr×Obj):=fp.filterMap λb=>(h.get? b).map λo=>(b,o)
theorem Z48{fp:List Addr}{h:Heap}{b:Addr}{o:Obj}(hb:b∈fp)(e:h.get? b=some o):(b,o)∈Z8c fp h:=Y2A.mpr ⟨b,hb,by rw[e];rfl⟩
theorem Zd8{fp:List Addr}{h:Heap}{p:Addr×Obj}(hp:p∈Z8c fp h):p.1∈fp/\h.get? p.1=some p.2:=by
 obtain⟨b,hb,e⟩:=Y2A.mp hp
 cases q:h.get? b with
 |none=>rw[q]at e;cases e
 |some o=>
  rw[q]at e
  have e':(b,o)=p:=Y0C e
  subst e'
  exact⟨hb,q⟩
theorem Inv.pinned{pins:List (Addr×Obj)}{σ:St}{H:Hp}{s:Shared}{fp:List Addr}(I:Inv X pins σ H s)(hf:∀b∈fp,FpOk X pins H b)(ho:∀b∈fp,∃o,s.heap.get? b=some o/\∀v,o.data≠.cell v):Inv X (pins++Z8c fp s.heap) σ H s:=
 I.pins_of λp hp=>(Y1a.mp hp).elim (λz=>I.pin p (Y0L _ z)) λz=>by
  obtain⟨hb,e⟩:=Zd8 z
  obtain⟨f0,f1,f2,_⟩:=hf p.1 hb
  obtain⟨o,e',d⟩:=ho p.1 hb
  rw[e]at e';cases e'
  exact⟨e,f0,f1,f2,d⟩
theorem Inv.unpinned{pins pl:List (Addr×Obj)}{σ:St}{H:Hp}{s:Shared}(I:Inv X (pins++pl) σ H s):Inv X pins σ H s:=I.pins_of λp hp=>I.pin p (Y0L _ (List.mem_append_left _ hp))
theorem ZfM{iter:Expr}{body:List Stmt}{wi:TI}{g:TG}{tb:TS}{pos:Pos}(hp:PassesOwn (model X.prog X.w) X.A X.env X.xe)(hc:X.calm=true)(hi:PI X tg iter wi)(hg:PG X tg g)(hb:PSs X body tb)
  (hs:∀x,foldedSetIterable iter X.env x=pure x:=by intro _;rfl):PS X (.For tg iter body [] pos) (tFor wi g tb):=by
 intro pins s σ H D I h
 refine wpAny_For (thn (hi pins s σ H _ I h) λv s1 h1=>thn h1 λitv s2 h2=>?_) hs
 obtain⟨it,fp,tn,J,H2,e,I2,T,st2,f2,W,⟨m0,w0⟩,turn⟩:=h2
 subst e
 have stat:∀{H':Hp},(∀b∈fp,H' b=none)->∀b∈fp,FpOk X pins H' b:=λhn b hb=>⟨hn b hb,(f2 b hb).2⟩
 refine codeAny_forLoop_any (λn s'=>∃i σ' H',Inv X pins σ' H' s'/\tn i s'.heap/\(∀b∈fp,H' b=none)/\W i n σ' H') ?_ m0 ⟨0,σ,H2,I2,st2,λb hb=>(f2 b hb).1,w0⟩
 rintro n s3 ⟨i,σ3,H3,I3,st3,fr3,w3⟩
 rcases turn i n σ3 H3 w3 with⟨stop,qn⟩|⟨go,N,hN,step⟩
 ·refine wpAny_passesOwn hp (thn (T.done X rfl rfl rfl hc i pins s3 σ3 H3 X.xe I3 (stat fr3) st3 stop) λr s4 ⟨hr,I4⟩=>?_)
  subst hr
  exact wpAny_execs_nil ⟨σ3,H3,I4,qn⟩
 ·refine wpAny_passesOwn hp (thn (T.item X rfl rfl rfl hc i pins s3 σ3 H3 X.xe I3 (stat fr3) st3 go) λr s4 ⟨u,hr,h4⟩=>?_)
  subst hr
  refine wpAny_passesOwn hp (thn h4 λ_ s5 ⟨x,H5,I5,r5,y5,st5,fr5⟩=>?_)
  have I5':=I5.pinned (stat fr5) (T.obj _ _ st5)
  refine wpAny_passesOwn hp (thn (hg _ s5 σ3 H5 x u _ I5' r5 (step x H5 y5)) λ_ s6 ⟨σ6,H6,I6,q6⟩=>?_)
  refine wpAny_passesOwn hp (thn (hb _ s6 σ6 H6 _ I6 q6) λf s7 q7=>?_)
  have again:∀{σ7:St} {H7:Hp},Inv X (pins++Z8c fp s5.heap) σ7 H7 s7->N σ7 H7->∃m,m<n/\∃i σ' H',Inv X pins σ' H' s7/\tn i s7.heap/\(∀b∈fp,H' b=none)/\W i m σ' H':=fun{σ7 H7} I7 n7=>by
   obtain⟨m',hm,w7⟩:=hN σ7 H7 n7
   refine⟨m',hm,i+1,σ7,H7,I7.unpinned,T.keep _ _ _ st5 λb hb o e=>(I7.pin (b,o) (Y0L _ (Y0L _ (Z48 hb e)))).1,λb hb=>?_,w7⟩
   obtain⟨o,e,d⟩:=T.obj _ _ st5 b hb
   exact(I7.pin (b,o) (Y0L _ (Y0L _ (Z48 hb e)))).2.1
  cases f with
  |next=>obtain⟨σ7,H7,I7,n7⟩:=q7;exact again I7 n7
  |cont=>obtain⟨σ7,H7,I7,n7⟩:=q7;exact again I7 n7
  |brk=>obtain⟨σ7,H7,I7,q7⟩:=q7;exact⟨σ7,H7,I7.unpinned,q7⟩
  |ret v=>obtain⟨x7,σ7,H7,I7,r7,q7⟩:=q7;exact⟨x7,σ7,H7,I7.unpinned,r7,q7⟩
end
end L2
namespace L2
open PySem PySem.Spec PyProof.Rows
noncomputable abbrev R2:=V->V->Hp->VK->Prop
noncomputable def OpR(X:Cx)(f:Value->Value->Sem Value)(r:R2):Prop:=
 ∀(pins:List (Addr×Obj)) (s:Shared) (σ:St) (H:Hp) (x y:V) (v u:Value) (Q:VK),Inv X pins σ H s->RelV x v->RelV y u->r x y H Q->
  wpAny (model X.prog X.w) X.A (f v u) (EP X pins σ Q) X.xe s
noncomputable def CallR(X:Cx)(f:Value)(r:List V->Hp->VK->Prop):Prop:=
 ∀(pins:List (Addr×Obj)) (s:Shared) (σ:St) (H:Hp) (xs:List V) (us:List Value) (Q:VK),Inv X pins σ H s->Vals xs us->r xs H Q->
  wpAny (model X.prog X.w) X.A (call f us) (EP X pins σ Q) X.xe s
noncomputable def tOp(r:R2)(ta tb:TE):TE:=λσ H Q=>ta σ H λx H1=>tb σ H1 λy H2=>r x y H2 Q
noncomputable def rI(C:Int->Int->Prop)(g:Int->Int->V):R2:=λx y H Q=>∃i j,x=.int i/\y=.int j/\C i j/\Q (g i j) H
noncomputable def rI0(g:Int->Int->V):R2:=λx y H Q=>∃i j,x=.int i/\y=.int j/\Q (g i j) H
section
variable{X:Cx}{a b c:Expr}{ta tb tc:TE}{pos:Pos}
theorem binT(ha:PE X a ta)(hb:PE X b tb){pins:List (Addr×Obj)}{s:Shared}{σ:St}{H:Hp}{R:V->V->Hp->Prop}(I:Inv X pins σ H s)
  (h:ta σ H λx H1=>tb σ H1 λy H2=>R x y H2) {Q:Value->Shared->Prop} {f:Value->Value->Sem Value}
  (hf:∀v u s2 x y H2,Inv X pins σ H2 s2->RelV x v->RelV y u->R x y H2->wpAny (model X.prog X.w) X.A (f v u) Q X.xe s2):
  wpAny (model X.prog X.w) X.A (eval a X.env) (λv s₁=>wpAny (model X.prog X.w) X.A (eval b X.env) (λu s₂=>wpAny (model X.prog X.w) X.A (f v u) Q X.xe s₂) X.xe s₁) X.xe s:=by
 refine thn (ha pins s σ H _ I h) λv s1 ⟨x,H1,I1,r1,q1⟩=>?_
 refine thn (hb pins s1 σ H1 _ I1 q1) λu s2 ⟨y,H2,I2,r2,q2⟩=>?_
 exact hf v u s2 x y H2 I2 r1 r2 q2
theorem Zlx{op:Operator}{r:R2}(ho:OpR X (binaryOp op) r)(ha:PE X a ta)(hb:PE X b tb):PE X (.BinOp a op b pos) (tOp r ta tb):=by
 intro pins s σ H Q I h
 exact wpAny_BinOp (binT ha hb I h λv u s2 x y H2 I2 rx ry q=>ho pins s2 σ H2 x y v u Q I2 rx ry q)
theorem opI{f:Value->Value->Sem Value}{C:Int->Int->Prop}{g:Int->Int->Int}
  (rule:∀(i j:Int) (t u:Tok) (s:Shared) (Q:Value->Shared->Prop) (E:Value->Shared->Prop),C i j->Q (.int (g i j) s.toks) {s with toks:=s.toks+1}->wpAny (model X.prog X.w) X.A (f (.int i t) (.int j u)) Q E s):
  OpR X f (rI C λi j=>.int (g i j)):=by
 intro pins s σ H x y v u Q I rx ry h
 obtain⟨i,j,rfl,rfl,hc,q⟩:=h
 obtain⟨t,rfl⟩:=rx
 obtain⟨t',rfl⟩:=ry
 exact rule i j t t' s _ _ hc ⟨.int (g i j),H,I.tok _,⟨_,rfl⟩,q⟩
theorem opI0{f:Value->Value->Sem Value}{g:Int->Int->Int}
  (rule:∀(i j:Int) (t u:Tok) (s:Shared) (Q:Value->Shared->Prop) (E:Value->Shared->Prop),Q (.int (g i j) s.toks) {s with toks:=s.toks+1}->wpAny (model X.prog X.w) X.A (f (.int i t) (.int j u)) Q E s):
  OpR X f (rI0 λi j=>.int (g i j)):=by
 intro pins s σ H x y v u Q I rx ry h
 obtain⟨i,j,rfl,rfl,q⟩:=h
 obtain⟨t,rfl⟩:=rx
 obtain⟨t',rfl⟩:=ry
 exact rule i j t t' s _ _ ⟨.int (g i j),H,I.tok _,⟨_,rfl⟩,q⟩
theorem opB0{f:Value->Value->Sem Value}{g:Int->Int->Bool}
  (rule:∀(i j:Int) (t u:Tok) (s:Shared) (Q:Value->Shared->Prop) (E:Value->Shared->Prop),Q (.bool (g i j)) s->wpAny (model X.prog X.w) X.A (f (.int i t) (.int j u)) Q E s):
  OpR X f (rI0 λi j=>.bl (g i j)):=by
 intro pins s σ H x y v u Q I rx ry h
 obtain⟨i,j,rfl,rfl,q⟩:=h
 obtain⟨t,rfl⟩:=rx
 obtain⟨t',rfl⟩:=ry
 exact rule i j t t' s _ _ ⟨.bl (g i j),H,I,rfl,q⟩
noncomputable def CPow(i j:Int):Prop:=0≤j/\j≤1000000/\i.natAbs<2^64
noncomputable def CMul(i j:Int):Prop:=(-(2^64)<i/\i<2^64)\/(-(2^64)<j/\j<2^64)
theorem CMul.ok{i j:Int}(h:CMul i j):IntMulOk i j:=by
 rcases h with⟨h1,h2⟩|⟨h1,h2⟩
 ·exact .of_left (intBits_le_64 h1 h2)
 ·exact .of_right (intBits_le_64 h1 h2)
theorem Zjp:OpR X (binaryOp .Add) (rI0 λi j=>.int (i+j)):=opI0 λ_ _ _ _ _ _ _ q=>add_int q
theorem Zji:OpR X (binaryOp .Sub) (rI0 λi j=>.int (i - j)):=opI0 λ_ _ _ _ _ _ _ q=>sub_int q
theorem Zjk:OpR X (binaryOp .Mult) (rI CMul λi j=>.int (i*j)):=opI λ_ _ _ _ _ _ _ hc q=>mul_int q hc.ok
theorem Zjl:OpR X (binaryOp .Mod) (rI (λ_ j=>0<j) λi j=>.int (i%j)):=opI λi j _ _ _ _ _ hc q=>by
 have h1:(0:Int)<j:=hc
 exact mod_int' (by lia) (by rw[Int.fmod_eq_emod_of_nonneg i (by lia)];exact q)
theorem Zjj:OpR X (binaryOp .LShift) (rI CPow λi j=>.int (i*2^j.toNat)):=opI λ_ _ _ _ _ _ _ hc q=>lshift_int_small hc.1 hc.2.1 hc.2.2 q
end
noncomputable def scal:V->V->Bool
 |.non,.non=>true|.non,.int _=>true|.int _,.non=>true|.non,.bl _=>true|.bl _,.non=>true|.non,.str _=>true|.str _,.non=>true
 |.int _,.int _=>true|.bl _,.bl _=>true|.str _,.str _=>true|.byt _,.byt _=>true
 |.int _,.str _=>true|.str _,.int _=>true|.bl _,.str _=>true|.str _,.bl _=>true
 |_,_=>false
noncomputable def rEq:R2:=λx y H Q=>scal x y=true/\Q (.bl (decide (x=y))) H
noncomputable def rNe:R2:=λx y H Q=>scal x y=true/\Q (.bl (!decide (x=y))) H
theorem ZdR{i j:Int}:decide (V.int i=V.int j)=(i==j):=by
 rw[Y2q]
 simp
theorem Zgh{i j:Bool}:decide (V.bl i=V.bl j)=(i==j):=by
 rw[Y2q]
 simp
theorem ZdQ{i j:Str}:decide (V.str i=V.str j)=(i==j):=by
 rw[Y2q]
 simp
theorem ZdS{i j:Array UInt8}:decide (V.byt i=V.byt j)=(i.toList==j.toList):=by
 rw[Y2q]
 cases i
 cases j
 simp
section
variable{X:Cx}{a b c:Expr}{ta tb tc:TE}{pos:Pos}
theorem Z0f{pins:List (Addr×Obj)}{σ:St}{H:Hp}{s:Shared}{Q:VK}{k k':Bool}(I:Inv X pins σ H s)(q:Q (.bl k) H)(e:k=k'):EP X pins σ Q (.bool k') s:=by
 subst e
 exact⟨.bl k,H,I,rfl,q⟩
theorem ZlJ:OpR X (compareOp .Eq) rEq:=by
 intro pins s σ H x y v u Q I rx ry h
 obtain⟨hs,q⟩:=h
 cases x with
 |non=>
  cases rx
  cases y with
  |non=>cases ry;exact PySem.EqNone.eq_none_none (Z0f I q (by simp))
  |bl j=>cases ry;exact PySem.EqNone.eq_none_bool (Z0f I q (by simp))
  |int j=>obtain⟨t',rfl⟩:=ry;exact PySem.EqNone.eq_none_int (Z0f I q (by simp))
  |str j=>obtain⟨t',rfl⟩:=ry;exact PySem.EqNone.eq_none_str (Z0f I q (by simp))
  |_=>exact absurd (show false=true from hs) Y05
 |bl i=>
  cases rx
  cases y with
  |non=>cases ry;exact PySem.EqNone.eq_bool_none (Z0f I q (by simp))
  |bl j=>cases ry;exact eq_bool (Z0f I q Zgh)
  |str j=>obtain⟨t',rfl⟩:=ry;exact PySem.EqMixed.eq_bool_str (Z0f I q (by simp))
  |_=>exact absurd (show false=true from hs) Y05
 |int i=>
  obtain⟨t,rfl⟩:=rx
  cases y with
  |non=>cases ry;exact PySem.EqNone.eq_int_none (Z0f I q (by simp))
  |int j=>obtain⟨t',rfl⟩:=ry;exact eq_int (Z0f I q ZdR)
  |str j=>obtain⟨t',rfl⟩:=ry;exact PySem.EqMixed.eq_int_str (Z0f I q (by simp))
  |_=>exact absurd (show false=true from hs) Y05
 |str i=>
  obtain⟨t,rfl⟩:=rx
  cases y with
  |non=>cases ry;exact PySem.EqNone.eq_str_none (Z0f I q (by simp))
  |bl j=>cases ry;exact PySem.EqMixed.eq_str_bool (Z0f I q (by simp))
  |int j=>obtain⟨t',rfl⟩:=ry;exact PySem.EqMixed.eq_str_int (Z0f I q (by simp))
  |str j=>obtain⟨t',rfl⟩:=ry;exact eq_str (Z0f I q ZdQ)
  |_=>exact absurd (show false=true from hs) Y05
 |byt i=>
  obtain⟨t,rfl⟩:=rx
  cases y with
  |byt j=>obtain⟨t',rfl⟩:=ry;exact PySem.W.eq_bytes (Z0f I q ZdS)
  |_=>exact absurd (show false=true from hs) Y05
 |_=>cases y<;>exact absurd (show false=true from hs) Y05
theorem ZlE:OpR X (compareOp .NotEq) rNe:=by
 intro pins s σ H x y v u Q I rx ry h
 obtain⟨hs,q⟩:=h
 cases x with
 |non=>
  cases rx
  cases y with
  |non=>cases ry;exact PySem.EqNone.ne_none_none (Z0f I q (by simp))
  |bl j=>cases ry;exact PySem.EqNone.ne_none_bool (Z0f I q (by simp))
  |int j=>obtain⟨t',rfl⟩:=ry;exact PySem.EqNone.ne_none_int (Z0f I q (by simp))
  |str j=>obtain⟨t',rfl⟩:=ry;exact PySem.EqNone.ne_none_str (Z0f I q (by simp))
  |_=>exact absurd (show false=true from hs) Y05
 |bl i=>
  cases rx
  cases y with
  |non=>cases ry;exact PySem.EqNone.ne_bool_none (Z0f I q (by simp))
  |bl j=>cases ry;exact ne_bool (Z0f I q (congrArg not Zgh))
  |str j=>obtain⟨t',rfl⟩:=ry;exact PySem.EqMixed.ne_bool_str (Z0f I q (by simp))
  |_=>exact absurd (show false=true from hs) Y05
 |int i=>
  obtain⟨t,rfl⟩:=rx
  cases y with
  |non=>cases ry;exact PySem.EqNone.ne_int_none (Z0f I q (by simp))
  |int j=>obtain⟨t',rfl⟩:=ry;exact ne_int (Z0f I q (congrArg not ZdR))
  |str j=>obtain⟨t',rfl⟩:=ry;exact PySem.EqMixed.ne_int_str (Z0f I q (by simp))
  |_=>exact absurd (show false=true from hs) Y05
 |str i=>
  obtain⟨t,rfl⟩:=rx
  cases y with
  |non=>cases ry;exact PySem.EqNone.ne_str_none (Z0f I q (by simp))
  |bl j=>cases ry;exact PySem.EqMixed.ne_str_bool (Z0f I q (by simp))
  |int j=>obtain⟨t',rfl⟩:=ry;exact PySem.EqMixed.ne_str_int (Z0f I q (by simp))
  |str j=>obtain⟨t',rfl⟩:=ry;exact ne_str (Z0f I q (congrArg not ZdQ))
  |_=>exact absurd (show false=true from hs) Y05
 |byt i=>
  obtain⟨t,rfl⟩:=rx
  cases y with
  |byt j=>obtain⟨t',rfl⟩:=ry;exact PySem.W.ne_bytes (Z0f I q (congrArg not ZdS))
  |_=>exact absurd (show false=true from hs) Y05
 |_=>cases y<;>exact absurd (show false=true from hs) Y05
theorem ZlF:OpR X (compareOp .Lt) (rI0 λi j=>.bl (decide (i<j))):=opB0 λ_ _ _ _ _ _ _ q=>lt_int q
theorem ZlG:OpR X (compareOp .LtE) (rI0 λi j=>.bl (decide (i≤j))):=opB0 λ_ _ _ _ _ _ _ q=>le_int q
theorem ZlH:OpR X (compareOp .Gt) (rI0 λi j=>.bl (decide (j<i))):=opB0 λ_ _ _ _ _ _ _ q=>gt_int q
theorem ZlI:OpR X (compareOp .GtE) (rI0 λi j=>.bl (decide (j≤i))):=opB0 λ_ _ _ _ _ _ _ q=>ge_int q
theorem Zjm:OpR X (compareOp .Is) (λx y H Q=>y=.non/\Q (.bl (decide (x=.non))) H):=by
 intro pins s σ H x y v u Q I rx ry h
 obtain⟨rfl,q⟩:=h
 cases ry
 refine is_none_gen (Z0f I q ?_)
 cases x<;>first
  |(cases rx;rfl)
  |(obtain⟨t,rfl⟩:=rx;rfl)
theorem ZgY:OpR X (compareOp .IsNot) (λx y H Q=>y=.non/\Q (.bl (!decide (x=.non))) H):=by
 intro pins s σ H x y v u Q I rx ry h
 obtain⟨rfl,q⟩:=h
 cases ry
 refine isnot_none_gen (Z0f I q ?_)
 cases x<;>first
  |(cases rx;rfl)
  |(obtain⟨t,rfl⟩:=rx;rfl)
theorem OpR.or{f:Value->Value->Sem Value}{r r':R2}(h:OpR X f r)(h':OpR X f r'):OpR X f (λx y H Q=>r x y H Q\/r' x y H Q):=by
 intro pins s σ H x y v u Q I rx ry q
 rcases q with q|q
 ·exact h pins s σ H x y v u Q I rx ry q
 ·exact h' pins s σ H x y v u Q I rx ry q
theorem ZgU{op:CmpOp}{r:R2}(ho:OpR X (compareOp op) r)(ha:PE X a ta)(hb:PE X b tb)(hm:behindInMarks op b=false):PE X (.Compare a [op] [b] pos) (tOp r ta tb):=by
 intro pins s σ H Q I h
 exact wpAny_Compare1 (binT ha hb I h λv u s2 x y H2 I2 rx ry q=>ho pins s2 σ H2 x y v u Q I2 rx ry q) hm
noncomputable def Zij(t:TE):TT:=λσ H Q=>t σ H λx H'=>∃k,x=.bl k/\Q k H'
theorem ZgL{op:CmpOp}{r:R2}(ho:OpR X (compareOp op) r)(ha:PE X a ta)(hb:PE X b tb)(hm:behindInMarks op b=false):PT X (.Compare a [op] [b] pos) (Zij (tOp r ta tb)):=by
 intro pins s σ H Q I h
 refine wpAny_isTrue_Compare1 (thn (ha pins s σ H _ I h) λv s1 ⟨x,H1,I1,r1,q1⟩=>thn (hb pins s1 σ H1 _ I1 q1) λu s2 ⟨y,H2,I2,r2,q2⟩=>
  thn (ho pins s2 σ H2 x y v u _ I2 r1 r2 q2) λc s3 ⟨z,H3,I3,r3,k,e,q3⟩=>?_) hm
 subst e
 cases r3
 exact wpAny_truthy_bool ⟨H3,I3,q3⟩
noncomputable def ZcB(r r':R2)(ta tb tc:TE):TE:=λσ H Q=>ta σ H λx H1=>tb σ H1 λy H2=>r x y H2 λz H3=>∃k,z=.bl k/\
 (if k=true then tc σ H3 λw' H4=>r' y w' H4 Q else Q (.bl false) H3)
theorem ZeI{op op':CmpOp}{r r':R2}(ho:OpR X (compareOp op) r)(ho':OpR X (compareOp op') r')(ha:PE X a ta)(hb:PE X b tb)(hc:PE X c tc)
  (hm:lastMarks [op,op'] [b,c]=false:=by with_unfolding_all rfl):PE X (.Compare a [op,op'] [b,c] pos) (ZcB r r' ta tb tc):=by
 intro pins s σ H Q I h
 refine Compare_chain (thn (ha pins s σ H _ I h) λv s1 ⟨x,H1,I1,r1,q1⟩=>chain_link (thn (hb pins s1 σ H1 _ I1 q1) λu s2 ⟨y,H2,I2,r2,q2⟩=>
  thn (ho pins s2 σ H2 x y v u _ I2 r1 r2 q2) λd s3 ⟨z,H3,I3,r3,k,e,q3⟩=>?_)) hm
 subst e
 cases r3
 refine wpAny_truthy_bool ?_
 cases k with
 |false=>exact ite_ff ⟨.bl false,H3,I3,rfl,q3⟩
 |true=>exact ite_tt (chain_last (thn (hc pins s3 σ H3 _ I3 q3) λw' s4 ⟨z',H4,I4,r4,q4⟩=>ho' pins s4 σ H4 y z' u w' Q I4 r2 r4 q4))
theorem ZeA{op op':CmpOp}{r r':R2}(ho:OpR X (compareOp op) r)(ho':OpR X (compareOp op') r')(ha:PE X a ta)(hb:PE X b tb)(hc:PE X c tc)
  (hm:lastMarks [op,op'] [b,c]=false:=by with_unfolding_all rfl):PT X (.Compare a [op,op'] [b,c] pos) (Zij (ZcB r r' ta tb tc)):=by
 intro pins s σ H Q I h
 refine isTrue_chain (thn (ha pins s σ H _ I h) λv s1 ⟨x,H1,I1,r1,q1⟩=>test_link (thn (hb pins s1 σ H1 _ I1 q1) λu s2 ⟨y,H2,I2,r2,q2⟩=>
  thn (ho pins s2 σ H2 x y v u _ I2 r1 r2 q2) λd s3 ⟨z,H3,I3,r3,k,e,q3⟩=>?_)) hm
 subst e
 cases r3
 refine wpAny_truthy_bool ?_
 cases k with
 |false=>
  obtain⟨k',e',q'⟩:=q3
  cases e'
  exact ite_ff ⟨H3,I3,q'⟩
 |true=>
  refine ite_tt (test_last (thn (hc pins s3 σ H3 _ I3 q3) λw' s4 ⟨z',H4,I4,r4,q4⟩=>thn (ho' pins s4 σ H4 y z' u w' _ I4 r2 r4 q4) λd' s5 ⟨z2,H5,I5,r5,k2,e2,q5⟩=>?_))
  subst e2
  cases r5
  exact wpAny_truthy_bool ⟨H5,I5,q5⟩
theorem Z9G:(sizeLine:Nat)<2^63:=by rw[sizeLine_eq];decide
theorem ZbU:OpR X (binaryOp .Add) (λx y H Q=>∃i j,x=.str i/\y=.str j/\i.length+j.length≤sizeLine/\Q (.str (i++j)) H):=by
 intro pins s σ H x y v u Q I rx ry h
 obtain⟨i,j,rfl,rfl,hz,q⟩:=h
 obtain⟨t,rfl⟩:=rx
 obtain⟨t',rfl⟩:=ry
 exact add_str (λt' tk=>⟨.str (i++j),H,I.tok _,⟨_,rfl⟩,q⟩) hz
theorem Z4M{x:V}{us:List Value}(r:Vals [x] us):∃u,us=[u]/\RelV x u:=by
 cases r with
 |cons r1 r2=>cases r2;exact⟨_,rfl,r1⟩
theorem Zak{x y:V}{us:List Value}(r:Vals [x,y] us):∃u w',us=[u,w']/\RelV x u/\RelV y w':=by
 cases r with
 |cons r1 r2=>
  cases r2 with
  |cons r3 r4=>cases r4;exact⟨_,_,rfl,r1,r3⟩
theorem Zfo:CallR X (.builtin "abs") (fun xs H Q=>∃i,xs=[.int i]/\Q (.int (if i<0 then -i else i)) H):=by
 intro pins s σ H xs us Q I r h
 obtain⟨i,rfl,q⟩:=h
 obtain⟨u,rfl,t,rfl⟩:=Z4M r
 exact call_abs_int λu tk=>⟨.int (if i<0 then -i else i),H,I.tok _,⟨_,rfl⟩,q⟩
theorem Ze9(hc:X.calm=true):CallR X (.builtin "max") (fun xs H Q=>∃i j,xs=[.int i,.int j]/\Q (.int (if j>i then j else i)) H):=by
 intro pins s σ H xs us Q I r h
 obtain⟨i,j,rfl,q⟩:=h
 obtain⟨u,w',rfl,⟨t,rfl⟩,⟨t',rfl⟩⟩:=Zak r
 refine max_two_ints (I.ok.hd hc) λh' tk k=>⟨_,H,I.kept k,?_,q⟩
 by_cases hj:j>i
 ·rw[if_pos hj,if_pos hj];exact⟨_,rfl⟩
 ·rw[if_neg hj,if_neg hj];exact⟨_,rfl⟩
theorem Ze7(hc:X.calm=true):CallR X (.builtin "min") (fun xs H Q=>∃i j,xs=[.int i,.int j]/\Q (.int (if j<i then j else i)) H):=by
 intro pins s σ H xs us Q I r h
 obtain⟨i,j,rfl,q⟩:=h
 obtain⟨u,w',rfl,⟨t,rfl⟩,⟨t',rfl⟩⟩:=Zak r
 refine min_two_ints (I.ok.hd hc) λh' tk k=>⟨_,H,I.kept k,?_,q⟩
 by_cases hj:j<i
 ·rw[if_pos hj,if_pos hj];exact⟨_,rfl⟩
 ·rw[if_neg hj,if_neg hj];exact⟨_,rfl⟩
theorem Za6:CallR X (.type "int") (fun xs H Q=>(∃i,xs=[.int i]/\Q (.int i) H)\/∃k,xs=[.bl k]/\Q (.int (if k then 1 else 0)) H):=by
 intro pins s σ H xs us Q I r h
 rcases h with⟨i,rfl,q⟩|⟨k,rfl,q⟩
 ·obtain⟨u,rfl,t,rfl⟩:=Z4M r
  exact call_int_int ⟨.int i,H,I,⟨_,rfl⟩,q⟩
 ·obtain⟨u,rfl,r1⟩:=Z4M r
  cases r1
  exact call_int_bool ⟨.int (if k then 1 else 0),H,I.tok _,⟨_,rfl⟩,q⟩
end
end L2
namespace L2
open PySem PySem.Spec PyProof.Rows
structure ObjM (h:Heap) (x dx C:Addr) (mA:Str->Option Value):Prop where
 obj:h.get? x=some (Y38 C dx)
 ns:h.Ns1 dx mA
 ne:dx≠x
theorem Zdh{h:Heap}{dx:Addr}{mA:Str->Option Value}(n:h.Ns1 dx mA):∃od,h.get? dx=some od/\∀name,Y3r name od=some (mA name):=by
 obtain⟨o,es,ep,ho,hd,hk,_,hm⟩:=n
 refine⟨o,ho,λname=>?_⟩
 have e:=hm name
 unfold nsFind findBy at e
 rw[<- Array.find?_toList]at e
 unfold Y3r
 rw[hd]
 dsimp only
 split
 ·rename_i y q
  rw[q]at e
  exact congrArg some e
 ·rename_i q
  rw[q]at e
  have a:es.toList.any (·.refKey)=false:=by
   rw[List.any_eq_false]
   intro y hy
   obtain⟨z,t,hkey⟩:=hk y (Array.mem_toList_iff.mp hy)
   simp[DictEntry.refKey,hkey]
  have a':¬es.toList.any (·.refKey)=true:=by rw[a];exact Y05
  rw[if_neg a']
  exact congrArg some e
theorem ObjM.look{h:Heap}{x dx C:Addr}{mA:Str->Option Value}(I:ObjM h x dx C mA):∃od,PySem.W.InstAt h x (Y38 C dx) C (some od)/\∀name,Y3r name od=some (mA name):=
 let⟨od,ho,hl⟩:=Zdh I.ns
 ⟨od,⟨I.obj,rfl,rfl,ho⟩,hl⟩
section
variable{prog:Program}{w:World}{A:Around}{E:Value->Shared->Prop}{s:Shared}{K:Y00}{x dx C f:Addr}{mA:Str->Option Value}{name:Str}{v:Value}
end
theorem RelO.some_of{v:V}{o:Option Value}(r:RelO (some v) o):∃u,o=some u/\RelV v u:=by
 cases o with
 |none=>exact(show False from r).elim
 |some u=>exact⟨u,rfl,r⟩
section
variable{P:Program}{w:World}{H H':Hp}{h h':Heap}{a C dx:Addr}{fs fs':List (Str×V)}
theorem Zdu(hok:HOk P w H h)(e:H a=some (.ins C dx fs)):∃mA,ObjM h a dx C mA/\(∀f,RelO (fs.lookup f) (mA f))/\PySem.Within mA (fs.map (·.1))/\fs.length≤1000/\H dx=some (.own a):=by
 obtain⟨d,z,ne,ob,mA,n,r,q⟩:=(show ObjOk P w H h a (.ins C dx fs)from hok a _ e)
 exact⟨mA,⟨ob,n,ne⟩,r,q,z,d⟩
end
structure Cls (K:Y00) (C:Addr):Prop where
 pg:PySem.W.plainGet K C Y3b=true
 hd:PySem.W.hasDictIn K C=true
 po:PySem.W.plainOver K C=true
 sa:Y1Y K (.ref C) "__setattr__"=some (some (.builtin "object.__setattr__"))
theorem Cls.get{K:Y00}{C:Addr}(c:Cls K C)(f:Str):PySem.W.plainGet K C f=true:=c.pg
noncomputable def Zep(K:Y00)(C:Addr)(f:Str):Prop:=Y1Y K (.ref C) f=some none
structure Con (K:Y00) (C:Addr) (f:Str) (v:V) (u:Value):Prop where
 at_:Y1Y K (.ref C) f=some (some u)
 rel:RelV v u
 get:PySem.W.specialIn K u "__get__"=some none
 cp:PySem.W.copiedNames.contains f=false
structure Meth (K:Y00) (C:Addr) (m:Str) (f:Addr):Prop where
 at_:Y1Y K (.ref C) m=some (some (.ref f))
 fn:PySem.W.isFn K (.ref f)=true
 kp:Y0V K (.ref f)=true
section
variable{X:Cx}{pins:List (Addr×Obj)}{σ:St}{H:Hp}{s:Shared}{a C dx:Addr}{fs:List (Str×V)}{f:Str}{v:V}{A:Around}{E:Value->Shared->Prop}
end
section
variable{X:Cx}{o e value:Expr}{f:Str}{pos pos' tpos:Pos}{ta tv:TE}
end
section
variable{X:Cx}{pins:List (Addr×Obj)}{σ:St}{H:Hp}{s:Shared}{A:Around}{E:Value->Shared->Prop}{Q:Value->Shared->Prop}{c:Value}{b:Bool}
inductive TyOf (K:Y00) (H:Hp):V->Value->Prop where
 |non:TyOf K H .non (.type "NoneType")
 |bl (x:Bool):TyOf K H (.bl x) (.type "bool")
 |int (i:Int):TyOf K H (.int i) (.type "int")
 |str (x:Str):TyOf K H (.str x) (.type "str")
 |flt (x:UInt64):TyOf K H (.flt x) (.type "float")
 |lst {a:Addr} {xs:List V} (e:H a=some (.lst xs)):TyOf K H (.ref a) (.type "list")
 |frz {a:Addr} {o:Obj} {xs:List V} (e:H a=some (.frz o (.lst xs))):TyOf K H (.ref a) (.type "list")
 |tup {a:Addr} {xs:List V} (e:H a=some (.tup xs)):TyOf K H (.ref a) (.type "tuple")
 |dK {a:Addr} {kvs:List (Key×V)} (e:H a=some (.dK kvs)):TyOf K H (.ref a) (.type "dict")
 |dT {a:Addr} {kvs:List (List Key×V)} (e:H a=some (.dT kvs)):TyOf K H (.ref a) (.type "dict")
 |ins {a C dx:Addr} {fs:List (Str×V)} (e:H a=some (.ins C dx fs)) (cl:Cls K C) (ha:Y1Y K (.ref C) "__class__"=some (some (.builtin "object.__class__")))
   (hn:PySem.W.specialIn K (.builtin "object.__class__") "__get__"=some (some (.builtin "getset_descriptor.__get__"))) (htk:PySem.W.takesIn K (.builtin "object.__class__")=some true)
   (hm:Y3F K C (.type "object")=some true):TyOf K H (.ref a) (.ref C)
theorem Zdo{x:V}{u t:Value}(I:Inv X pins σ H s)(rx:RelV x u)(ty:TyOf X.K H x t)(e:Y17 X.K t c=some b)(h:∀tk,Q (.bool b) {s with toks:=tk}):
  wpAny (model X.prog X.w) A (call (.builtin "isinstance") [u,c]) Q E s:=by
 cases ty with
 |non=>cases(show u=Y0j from rx);exact Y0Z PySem.W.kitx_none I.kIn Y1C e (λz=>nomatch z) h
 |bl y=>cases(show u=Y0Y y from rx);exact Y0Z PySem.W.kitx_bool I.kIn Y1C e (λz=>nomatch z) h
 |int i=>obtain⟨t,q⟩:=(show∃t,u=Y3C i t from rx);cases q;exact Y0Z PySem.W.kitx_int I.kIn Y1C e (λz=>nomatch z) h
 |str y=>obtain⟨t,q⟩:=(show∃t,u=Y0v y t from rx);cases q;exact Y0Z PySem.W.kitx_str I.kIn Y1C e (λz=>nomatch z) h
 |flt y=>obtain⟨t,q⟩:=(show∃t,u=Value.float y t from rx);cases q;exact Y0Z PySem.W.kitx_float I.kIn Y1C e (λz=>nomatch z) h
 | @lst a xs ea=>
  cases(show u=Y0k a from rx)
  obtain⟨_,_,n,_,h1⟩:=(show ObjOk X.prog X.w H s.heap a (.lst xs)from I.hok a _ ea)
  exact Y0Z Y2f I.kIn ⟨_,h1,rfl⟩ e (λz=>nomatch z) h
 | @frz a ob xs ea=>
  cases(show u=Y0k a from rx)
  obtain⟨_,_,_,n,_,h1⟩:=(show ObjOk X.prog X.w H s.heap a (.frz ob (.lst xs))from I.hok a _ ea)
  exact Y0Z Y2f I.kIn ⟨_,h1,rfl⟩ e (λz=>nomatch z) h
 | @tup a xs ea=>
  cases(show u=Y0k a from rx)
  obtain⟨_,_,_,p⟩:=(show ObjOk X.prog X.w H s.heap a (.tup xs)from I.hok a _ ea)
  obtain⟨o,h1,h2,_⟩:=p.1
  exact Y0Z PySem.W.kitx_tuple I.kIn ⟨o,h1,h2⟩ e (λz=>nomatch z) h
 | @dK a kvs ea=>
  cases(show u=Y0k a from rx)
  obtain⟨_,_,vs,_,p⟩:=(show ObjOk X.prog X.w H s.heap a (.dK kvs)from I.hok a _ ea)
  obtain⟨o,es,ep,h1,h2,_⟩:=p
  exact Y0Z Y2g I.kIn ⟨o,h1,h2.1⟩ e (λz=>nomatch z) h
 | @dT a kvs ea=>
  cases(show u=Y0k a from rx)
  obtain⟨_,_,xs,_,o,es,ep,h1,h2,_⟩:=(show ObjOk X.prog X.w H s.heap a (.dT kvs)from I.hok a _ ea)
  exact Y0Z Y2g I.kIn ⟨o,h1,h2.1⟩ e (λz=>nomatch z) h
 | @ins a C dx fs ea cl ha hn htk hm=>
  cases(show u=Y0k a from rx)
  obtain⟨mA,O,_⟩:=Zdu I.hok ea
  obtain⟨od,J,_⟩:=O.look
  exact Y0Z (PySem.W.kitx_own (cl.get _) cl.hd ha hn htk hm) I.kIn J e (λz=>nomatch z) h
end
end L2
namespace L2
open PySem PySem.Spec PyProof.Rows
structure Room (k:Nat) (A:Around):Prop where
 hd:A.handled=none
 dp:A.depth+3*k+5<recursionLimit
 un:A.units+16*k+200<cLine
theorem Room.mono{j k:Nat}{A:Around}(r:Room k A)(h:j≤k):Room j A:=⟨r.hd,by have:=r.dp;lia,by have:=r.un;lia⟩
theorem Room.deeper{k:Nat}{A:Around}(r:Room (k+1) A)(env:Env):Room k (A.deeper env):=
 ⟨r.hd,by have:=r.dp;show A.depth+1+3*k+5<_;lia,by have:=r.un;show A.units+3+16*k+200<_;lia⟩
theorem Room.depth{k:Nat}{A:Around}(r:Room k A):A.depth<recursionLimit:=by have:=r.dp;lia
noncomputable def tNil:TA:=λ_ H Q=>Q [] H
noncomputable def Z6Z(ta:TE)(tr:TA):TA:=λσ H Q=>ta σ H λx H1=>tr σ H1 λxs H2=>Q (x::xs) H2
section
variable{X:Cx}{e:Expr}{es:List Expr}{te:TE}{t:TA}{pos:Pos}
theorem pa_nil:PA X [] tNil:=λ_ _ _ _ H Q I h=>Y1T ⟨[],H,I,.nil,h⟩
theorem Z0r(ha:PE X e te)(hr:PA X es t)(hs:starEach (e::es) X.env=(false,eval e X.env)::starEach es X.env:=by rfl):PA X (e::es) (Z6Z te t):=by
 intro pos pins s σ H Q I h
 rw[hs]
 show wpAny _ _ (spliced ((false,eval e X.env)::backTo pos (starEach es X.env))) _ _ s
 refine Y1O (thn (ha pins s σ H _ I h) λu s1 ⟨x,H1,I1,r1,q1⟩=>?_)
 exact thn (hr pos pins s1 σ H1 _ I1 q1) λus s2 ⟨xs,H2,I2,r2,q2⟩=>⟨x::xs,H2,I2,.cons r1 r2,q2⟩
noncomputable def tTup(t:TA):TE:=λσ H Q=>t σ H λxs H1=>xs.length≤sizeLine/\∀p,H1 p=none->Q (.ref p) (upd H1 p (.tup xs))
noncomputable def tLst(t:TA):TE:=λσ H Q=>t σ H λxs H1=>xs.length≤sizeLine/\∀p,H1 p=none->Q (.ref p) (upd H1 p (.lst xs))
theorem ZfO{x1}(h:PA X es t):PE X (.Tuple es x1 pos) (tTup t):=by
 intro pins s σ H Q I hq
 refine wpAny_Tuple_spliced (thn (h pos pins s σ H _ I hq) λus s1 ⟨xs,H1,I1,r,z,q⟩=>⟨by rw[<- r.length];exact z,?_⟩)
 have hf:H1 s1.heap.objs.size=none:=I1.hok.fresh (Y07 _)
 refine⟨.ref s1.heap.objs.size,upd H1 s1.heap.objs.size (.tup xs),I1.laid (t':=s1.toks) (λb u e=>Y02 _ e) (Y07 _) ?_,rfl,q _ hf⟩
 exact⟨z,us,r,⟨_,Y0a _ rfl,rfl,_,rfl⟩,_,Y0a _ rfl,rfl⟩
theorem ZfQ(h:PA X es t):PE X (.List es pos) (tLst t):=by
 intro pins s σ H Q I hq
 refine wpAny_List_spliced (thn (h pos pins s σ H _ I hq) λus s1 ⟨xs,H1,I1,r,z,q⟩=>⟨by rw[<- r.length];exact z,?_⟩)
 have hf:H1 s1.heap.objs.size=none:=I1.hok.fresh (Y07 _)
 refine⟨.ref s1.heap.objs.size,upd H1 s1.heap.objs.size (.lst xs),I1.laid (t':=s1.toks) (λb u e=>Y02 _ e) (Y07 _) ?_,rfl,q _ hf⟩
 exact⟨z,us,0,r,Y0a _ rfl⟩
end
noncomputable abbrev Sp:=List V->Hp->VK->XK->Prop
noncomputable abbrev CXT:=List Env->Hp->Shared->XK->Value->Shared->Prop
structure Env0 (P:Program) (w:World) (K:Y00) (mg:Str->Option Value) (base:Heap) (A:Around) (outer:List Env) (s:Shared) (H:Hp):Prop where
 frames:A.frames=some outer
 mod:Mod K mg base
 bs:∀b o,base.get? b=some o->s.heap.get? b=some o/\H b=none
 bsz:base.objs.size≤s.heap.objs.size
 funs:s.heap.FunFrames base outer
 frf:∀b∈frs outer,H b=none
 hok:HOk P w H s.heap
 bare:AllBare s.gens
noncomputable def CE(outer:List Env)(P:Program)(w:World)(H:Hp)(s:Shared)(Q:VK)(u:Value)(s':Shared):Prop:=
 ∃v H',s'.os=s.os/\AllBare s'.gens/\Un (frs outer) [] H H' s.heap s'.heap/\HOk P w H' s'.heap/\RelV v u/\Q v H'
noncomputable def CR(CX:CXT)(outer:List Env)(P:Program)(w:World)(H:Hp)(s:Shared)(Q:VK)(E:XK)(r:Result)(s':Shared):Prop:=
 match r with
 |.ok (.ret u)=>CE outer P w H s Q u s'
 |.ok _=>False
 |.error e=>CX outer H s E e s'
structure FnOk (P:Program) (w:World) (K:Y00) (mg:Str->Option Value) (base:Heap) (CX:CXT) (k:Nat) (f:Addr) (fd:FuncData) (ps:List Str) (sp:Sp):Prop where
 len:∀vs H Q E,sp vs H Q E->vs.length=ps.length
 run:∀(A:Around) (outer:List Env) (s:Shared) (H:Hp) (args:Args) (us:List Value) (vs:List V) (Q:VK) (E:XK),Room k A->Env0 P w K mg base A outer s H->BindsTo s fd args (ps.zip us)->Vals vs us->sp vs H Q E->
  codeAny (model P w) A (.call (.ref f) args) (CR CX outer P w H s Q E) s
theorem FnOk.mono{P:Program}{w:World}{K:Y00}{mg:Str->Option Value}{base:Heap}{CX:CXT}{j k:Nat}{f:Addr}{fd:FuncData}{ps:List Str}{sp:Sp}(F:FnOk P w K mg base CX j f fd ps sp)(h:j≤k):
  FnOk P w K mg base CX k f fd ps sp:=⟨F.len,λA outer s H args us vs Q E hr=>F.run A outer s H args us vs Q E (hr.mono h)⟩
theorem FnOk.imp{P:Program}{w:World}{K:Y00}{mg:Str->Option Value}{base:Heap}{CX:CXT}{k:Nat}{f:Addr}{fd:FuncData}{ps:List Str}{sp sp':Sp}(F:FnOk P w K mg base CX k f fd ps sp)
  (h:∀vs H Q E,sp' vs H Q E->sp vs H Q E):FnOk P w K mg base CX k f fd ps sp':=
 ⟨λvs H Q E q=>F.len vs H Q E (h _ _ _ _ q),λA outer s H args us vs Q E hr he hb hv hs=>F.run A outer s H args us vs Q E hr he hb hv (h _ _ _ _ hs)⟩
section
variable{X:Cx}{pins:List (Addr×Obj)}{σ:St}{H:Hp}{s s':Shared}
theorem Inv.env0(I:Inv X pins σ H s):Env0 X.prog X.w X.K X.mg X.base X.A X.stack s H:=
 ⟨I.ok.frames,I.ok.mod,I.bs,Y0N I.ok.bsz I.sz,I.stack,I.stkFree,I.hok,I.bare⟩
theorem Inv.after{Q:VK}{u:Value}(I:Inv X pins σ H s)(h:CE X.stack X.prog X.w H s Q u s'):EP X pins σ Q u s':=by
 obtain⟨v,H',os,bare,un,hok,r,q⟩:=h
 obtain⟨hh,g,d,t,os'⟩:=s'
 obtain rfl:os'=s.os:=os
 exact⟨v,H',I.call (h':=hh) (g':=g) (d':=d) (t':=t) (ch:=[]) un hok bare (λb z=>absurd z (by simp)),r,q⟩
end
noncomputable def Zkm(sp:Sp)(dvs:List V)(E:XK)(t:TA):TE:=λσ H Q=>t σ H λvs H1=>sp (vs++dvs) H1 Q E
noncomputable def Binds(K:Y00)(fd:FuncData)(ps:List Str)(ds:List Value):Prop:=
 ∀(s:Shared) (us:List Value),K.In s.heap->(us++ds).length=ps.length->BindsTo s fd ⟨us,[]⟩ (ps.zip (us++ds))
theorem Binds.all{K:Y00}{fd:FuncData}{ps:List Str}(h:∀us:List Value,us.length=ps.length->bindArgs fd ⟨us,[]⟩=pure (ps.zip us)):Binds K fd ps []:=λs us _ hl=>by
 rw[Y1i]at hl ⊢
 exact .of_eq (h us hl)
noncomputable def Zag(CX:CXT)(X:Cx)(E:XK):Prop:=∀(pins:List (Addr×Obj)) (σ:St) (H:Hp) (s:Shared) (e:Value) (s':Shared),Inv X pins σ H s->CX X.stack H s E e s'->X.xe e s'
section
variable{X:Cx}{CX:CXT}{k:Nat}{f C:Addr}{fd:FuncData}{ps:List Str}{sp:Sp}{dvs:List V}{ds:List Value}{E:XK}{x m:Str}{p pos apos:Pos}{e o:Expr}{es:List Expr}{ta:TE}{t:TA}
theorem Ziw{pins:List (Addr×Obj)}{σ:St}{H:Hp}{s:Shared}{Q:VK}{us:List Value}{vs:List V}(F:FnOk X.prog X.w X.K X.mg X.base CX k f fd ps sp)(hr:Room k X.A)(hb:Binds X.K fd ps ds)(hd:Vals dvs ds)(hx:Zag CX X E)
  (I:Inv X pins σ H s) (r:Vals vs us) (h:sp (vs++dvs) H Q E):wpAny (model X.prog X.w) X.A (call (.ref f) us) (EP X pins σ Q) X.xe s:=by
 have r2:Vals (vs++dvs) (us++ds):=r.append hd
 have hl:(us++ds).length=ps.length:=by rw[<- r2.length];exact F.len _ _ _ _ h
 refine wpAny_call (codeAny_mono (F.run X.A X.stack s H ⟨us,[]⟩ (us++ds) (vs++dvs) Q E hr I.env0 (hb s us I.kIn hl) r2 h) λr s' hq=>?_)
 cases r with
 |error e=>exact hx pins σ H s e s' I hq
 |ok fl=>
  cases fl with
  |ret u=>exact I.after hq
  |next=>exact Y0G hq
  |brk=>exact Y0G hq
  |cont=>exact Y0G hq
theorem Zd6(F:FnOk X.prog X.w X.K X.mg X.base CX k f fd ps sp)(hr:Room k X.A)(hg:Gl X x)(hm:X.mg x=some (.ref f))(hk:Y0V X.K (.ref f)=true)(hb:Binds X.K fd ps ds)(hd:Vals dvs ds)(hx:Zag CX X E)
  (ha:PA X (e::es) t) (hdb:(x==("__debug__":Str))=false:=by decide) (he:starEach (e::es) X.env=(false,eval e X.env)::starEach es X.env:=by rfl) (hpl:(backTo pos (starEach es X.env)).any (·.1)=false:=by rfl):
  PE X (.Call (.Name x p) (e::es) [] pos) (Zkm sp dvs E t):=by
 intro pins s σ H Q I h
 refine wpAny_Call_Name_kw (Z5Y I hg hm ?_ hdb)
 refine PySem.W.callWith_K (h₀:=X.base) I.ok.mod.kin hk (thn (ha pos pins s σ H _ I h) λus s1 ⟨vs,H1,I1,r,q⟩=>⟨I1.kIn,?_⟩) he hpl
 exact Ziw F hr hb hd hx I1 r q
structure Mk (K:Y00) (C f:Addr):Prop where
 makes:PySem.W.makesIn K C=true
 init:Y1Y K (.ref C) "__init__"=some (some (.ref f))
 fn:PySem.W.isFn K (.ref f)=true
 kp:Y0V K (.ref C)=true
end
section
variable{X:Cx}{CX:CXT}{k:Nat}{f C:Addr}{fd:FuncData}{ps ks:List Str}{sp:Sp}{E:XK}{x m:Str}{p pos apos kpos:Pos}{e o:Expr}{es:List Expr}{kws:List Keyword}{te ta:TE}{t tk:TA}{nm:Option Str}
structure KBinds (K:Y00) (fd:FuncData) (ps ks:List Str) (g:List Value->List Value->List Value) (gV:List V->List V->List V):Prop where
 to:∀(s:Shared) (us ws:List Value),K.In s.heap->(g us ws).length=ps.length->BindsTo s fd ⟨us,ks.zip ws⟩ (ps.zip (g us ws))
 rel:∀{vs:List V} {us:List Value} {zs:List V} {ws:List Value},Vals vs us->Vals zs ws->Vals (gV vs zs) (g us ws)
variable{g:List Value->List Value->List Value}{gV:List V->List V->List V}
end
structure FnScope (N P:List Str) (sc:Scope):Prop where
 kind:sc.kind=.function
 co:sc.isCoroutine=false
 gen:sc.isGenerator=false
 nd:N.Nodup
 pre:N.take P.length=P
 par:∀x∈P,sc.names.lookup x=some .local\/sc.names.lookup x=some .cell
 nofree:∀y∈sc.names,y.2≠.free
theorem Za8{kindOf:Str->Option NameKind}{x:Str}:∀{binds:List (Str×Value)} {m:Str->Option Value},(∀v,(x,v)∉binds)->bindL kindOf binds m x=m x
 |[],_,_=>rfl
 |(n,v)::r,m,h=>by
  unfold bindL
  rw[Za8 λw hw=>h w (Y0g _ hw)]
  split
  ·have:x≠n:=by rintro rfl;exact h v Y0l
   simp[this]
  ·rfl
theorem Zaa{kindOf:Str->Option NameKind}{x:Str}:∀{binds:List (Str×Value)} {m:Str->Option Value},(∀v,(x,v)∉binds)->bindC kindOf binds m x=m x
 |[],_,_=>rfl
 |(n,v)::r,m,h=>by
  unfold bindC
  rw[Zaa λw hw=>h w (Y0g _ hw)]
  split
  ·rfl
  ·have:x≠n:=by rintro rfl;exact h v Y0l
   simp[this]
theorem Za9{kindOf:Str->Option NameKind}{x:Str}{v:Value}:∀{P:List Str} {vs:List Value} {i:Nat} {m:Str->Option Value},P.Nodup->P[i]?=some x->vs[i]?=some v->kindOf x=some .local->
  bindL kindOf (P.zip vs) m x=some v
 |[],_,_,_,_,h,_,_=>by simp at h
 |_::_,[],_,_,_,_,h,_=>by simp at h
 |p::P,w::vs,0,m,nd,h1,h2,hk=>by
  simp at h1 h2;subst h1;subst h2
  show bindL kindOf ((p,w)::P.zip vs) m p=_
  unfold bindL
  rw[Za8 λv hv=>(Y1j.mp nd).1 (Y2r hv).1,if_pos hk]
  simp
 |p::P,w::vs,i+1,m,nd,h1,h2,hk=>by
  show bindL kindOf ((p,w)::P.zip vs) m x=_
  unfold bindL
  exact Za9 (i:=i) (Y1j.mp nd).2 (by simpa using h1) (by simpa using h2) hk
theorem Zab{kindOf:Str->Option NameKind}{x:Str}{v:Value}:∀{P:List Str} {vs:List Value} {i:Nat} {m:Str->Option Value},P.Nodup->P[i]?=some x->vs[i]?=some v->kindOf x≠some .local->
  bindC kindOf (P.zip vs) m x=some v
 |[],_,_,_,_,h,_,_=>by simp at h
 |_::_,[],_,_,_,_,h,_=>by simp at h
 |p::P,w::vs,0,m,nd,h1,h2,hk=>by
  simp at h1 h2;subst h1;subst h2
  show bindC kindOf ((p,w)::P.zip vs) m p=_
  unfold bindC
  rw[Zaa λv hv=>(Y1j.mp nd).1 (Y2r hv).1,if_neg hk]
  simp
 |p::P,w::vs,i+1,m,nd,h1,h2,hk=>by
  show bindC kindOf ((p,w)::P.zip vs) m x=_
  unfold bindC
  exact Zab (i:=i) (Y1j.mp nd).2 (by simpa using h1) (by simpa using h2) hk
noncomputable def start(N:List Str)(vs:List V):St:=vs.map some++Y1K (N.length - vs.length) none
noncomputable def cxOf(CX:CXT)(P:Program)(w:World)(K:Y00)(mg:Str->Option Value)(base:Heap)(N:List Str)(qual:Str)(scope:Scope)(f:Addr)(cd:Value)(A:Around)(outer:List Env)(s:Shared)(H:Hp)(E:XK):Cx where
 prog:=P
 w:=w
 K:=K
 mg:=mg
 base:=base
 A:=A.deeper (envOfC qual scope s.heap.objs.size f cd)
 N:=N
 s₀:=s
 H₀:=H
 env:=envOfC qual scope s.heap.objs.size f cd
 outer:=outer
 stack:=envOfC qual scope s.heap.objs.size f cd::outer
 ex:=[]
 calm:=true
 fn:=λ_=>true
 pn:=[]
 xe:=λe s'=>wpAny (model P w) (A.deeper (envOfC qual scope s.heap.objs.size f cd)) (leaving (envOfC qual scope s.heap.objs.size f cd) e) (λ_ s''=>CX outer H s E e s'') (λe' s''=>CX outer H s E e' s'') s'
theorem ZbB{sc:Scope}{n:Nat}{x:Str}(h:sc.names.lookup x=some .cell):∃c,(cellsFrom n sc.names []).lookup x=some c:=by
 have q:=Y33 sc.names n [] (.inl h)
 exact Option.isSome_iff_exists.mp q
theorem Zdr{CX:CXT}{P:Program}{w:World}{K:Y00}{mg:Str->Option Value}{base:Heap}{N ps:List Str}{qual:Str}{scope:Scope}{f:Addr}{cd:Value}{A:Around}{outer:List Env}{s s1:Shared}{H:Hp}{E:XK}{us:List Value}{vs:List V}
  (S:FnScope N ps scope) (hd:A.handled=none) (e0:Env0 P w K mg base A outer s H) (hl:vs.length=ps.length) (r:Vals vs us)
  (x:InCallC s s.heap.objs.size (bindL (envOfC qual scope s.heap.objs.size f cd).kindOf (ps.zip us) λ_=>none) (cellsFrom (s.heap.objs.size+1) scope.names []) (bindC (envOfC qual scope s.heap.objs.size f cd).kindOf (ps.zip us) λ_=>none) s1):
  Inv (cxOf CX P w K mg base N qual scope f cd A outer s H E) [] (start N vs) H s1:=by
 have hpl:ps.length≤N.length:=by have:=congrArg List.length S.pre;rw[Y0A]at this;lia
 obtain⟨h1,tk,rfl,hk⟩:=x.done
 have noA:∀b:Addr,b∉(cxOf CX P w K mg base N qual scope f cd A outer s H E).ex:=λb z=>absurd (show b∈([]:List Addr)from z) (by simp)
 refine⟨⟨e0.mod,S.kind,rfl,rfl,Y07 _,λy z c h1 h2=>?_,λy hy=>?_,λy c _ h=>?_,λ_=>hd,Around.frames_deeper e0.frames,.inr ⟨rfl,rfl⟩,λb z=>absurd z (noA b),e0.bs,e0.bsz,λb _ _=>noA b,λb z=>absurd z (noA b),e0.funs,e0.frf⟩,
  rfl,e0.bare,Un.kept hk,⟨_,x.toInCall.ns,λi y v h1 h2 h3=>?_⟩,λy c h=>⟨_,x.cell y c h⟩,e0.hok.fresh (Y07 _),λy c h=>?_,λp hp=>absurd (show p∈([]:List (Addr×Obj))from hp) (by simp),e0.hok.kept hk,?_⟩
 ·exact name_of_addr x.apart (Y1s h1) (Y1s h2)
 ·have hy:scope.names.lookup y=some .cell\/scope.names.lookup y=some .free:=hy
  rcases hy with hy|hy
  ·exact ZbB hy
  ·exact absurd rfl (S.nofree _ (Y1s hy))
 ·exact Y3a (x.above y c (Y1s h))
 ·have hi:i<vs.length:=by
   unfold start at h2
   by_cases hi:i<vs.length
   ·exact hi
   ·rw[Y0S (by simpa using hi)]at h2
    rw[Y2W]at h2
    split at h2<;>cases h2
  have ha:vs[i]?=some v:=by
   unfold start at h2
   rw[Y0H (by simpa using hi),Y06]at h2
   cases e:vs[i]? with
   |none=>rw[e]at h2;cases h2
   |some a=>rw[e]at h2;cases h2;rfl
  obtain⟨u,hu,rv⟩:=r.get ha
  have hp:ps[i]?=some y:=by
   rw[<- S.pre,Y1D (by lia)];exact h1
  have ndP:ps.Nodup:=by rw[<- S.pre];exact S.nd.sublist (Y2M _ _)
  refine⟨u,rv,?_⟩
  rcases S.par y (Y0i hp)with k|k
  ·exact .inl ⟨k,Za9 ndP hp hu k⟩
  ·obtain⟨c,e⟩:=ZbB (n:=s.heap.objs.size+1) k
   refine .inr ⟨.inl k,c,e,?_⟩
   have q:=x.cell y c e
   rw[Zab ndP hp hu (by show scope.names.lookup y≠_;rw[k];decide)]at q
   exact q
 ·exact e0.hok.fresh (Y3a (x.above y c (Y1s h)))
 ·unfold start
  show _=N.length
  rw[Y0t,Y03,Y2j]
  lia
theorem Zk0{CX:CXT}{P:Program}{w:World}{K:Y00}{mg:Str->Option Value}{base:Heap}{k:Nat}{f:Addr}{name qual:Str}{params:Arguments}{body:List Stmt}{scope:Scope}{dV kV doc pm cdv ct oc:Value}{an od:Option Addr}
  {osl:Array (Option Value)} {N ps:List Str} {sp:Sp} (lk:K.lookup f=some ⟨oc,od,.func (Y1Q name qual params body scope dV kV doc pm an cdv ct),osl⟩) (hcd:Y3s K cdv qual=true) (S:FnScope N ps scope)
  (len:∀vs H Q E,sp vs H Q E->vs.length=ps.length)
  (hbody:∀(A:Around) (outer:List Env) (s:Shared) (H:Hp) (vs:List V) (Q:VK) (E:XK),Room k (A.deeper (envOfC qual scope s.heap.objs.size f cdv))->sp vs H Q E->
   ∃t,PSs (cxOf CX P w K mg base N qual scope f cdv A outer s H E) body t/\t {nx:=λ_ H'=>Q .non H',rt:=Q} (start N vs) H):
  FnOk P w K mg base CX (k+1) f (Y1Q name qual params body scope dV kV doc pm an cdv ct) ps sp:=by
 refine⟨len,λA outer s H args us vs Q E hr e0 hb r hsp=>?_⟩
 have hl:=len _ _ _ _ hsp
 have KX:K.In s.heap:=e0.mod.kin.keeps λb o e=>(e0.bs b o e).1
 have lim:s.heap.NoLimit:=e0.mod.nolimit.keeps λb o e=>(e0.bs b o e).1
 have hkind:∀y∈ps.zip us,scope.names.lookup y.1=some .local\/(scope.names.lookup y.1=some .cell/\((cellsFrom (s.heap.objs.size+1) scope.names []).lookup y.1).isSome=true):=fun⟨n,v⟩ hy=>by
  rcases S.par n (Y2r hy).1 with q|q
  ·exact .inl q
  ·exact .inr ⟨q,Y33 _ _ _ (.inl q)⟩
 refine codeAny_call_function hr.depth (KX _ _ lk) rfl S.co S.gen rfl (PySem.W.codeRec_of KX hcd) (hb _ _ _ _ ?_)
 refine wpAny_newFunctionEnv_cells S.kind hkind λenv he s1 x=>?_
 subst he
 refine⟨lim.keeps x.toInCall.keep,codeAny_func ?_⟩
 obtain⟨t,ht,hq⟩:=hbody A outer s H vs Q E (hr.deeper _) hsp
 have I:Inv (cxOf CX P w K mg base N qual scope f cdv A outer s H E) [] (start N vs) H s1:=Zdr S hr.hd e0 hl r x
 refine wpAny_mono (ht [] s1 (start N vs) H _ I hq) (λfl s' hs=>?_) λe s' hs=>hs
 have fin:∀{σ':St} {H':Hp} {v:V} {u:Value},Inv (cxOf CX P w K mg base N qual scope f cdv A outer s H E) [] σ' H' s'->RelV v u->Q v H'->CE outer P w H s Q u s':=
  fun{σ' H' v u} J rv q=>⟨v,H',J.os,J.bare,J.base,J.hok,rv,q⟩
 cases fl with
 |ret u=>
  obtain⟨v,σ',H',J,rv,q⟩:=hs
  exact fin J rv q
 |next=>
  obtain⟨σ',H',J,q⟩:=hs
  exact fin (v:=V.non) (u:=Y0j) J rfl q
 |brk=>
  obtain⟨_,_,_,q⟩:=hs
  exact Y0G q
 |cont=>
  obtain⟨_,_,_,q⟩:=hs
  exact Y0G q
end L2
namespace L2
open PySem PySem.Spec PyProof.Rows
section
variable{X:Cx}{x:Str}{p pos:Pos}{e:Expr}{es:List Expr}{t:TA}{id T:String}{r:List V->Hp->VK->Prop}
noncomputable def tCB(r:List V->Hp->VK->Prop)(t:TA):TE:=λσ H Q=>t σ H λvs H1=>r vs H1 Q
theorem Z58(hc:CallR X (.builtin id) r)(hg:Gl X x)(hm:X.mg x=none)(hv:bootBuiltins x=some (.builtin id))(ha:PA X (e::es) t)(hn:x≠"__name__":=by decide)(hdb:(x==("__debug__":Str))=false:=by decide)
  (he:starEach (e::es) X.env=(false,eval e X.env)::starEach es X.env:=by rfl) (hpl:(backTo pos (starEach es X.env)).any (·.1)=false:=by rfl):PE X (.Call (.Name x p) (e::es) [] pos) (tCB r t):=by
 intro pins s σ H Q I h
 refine wpAny_Call_Name_kw (Z3b I hg hm hv ?_ hn hdb)
 exact Y2k (thn (ha pos pins s σ H _ I h) λus s1 ⟨vs,H1,I1,r1,q1⟩=>hc pins s1 σ H1 vs us Q I1 r1 q1) he hpl
theorem Zd4(hc:CallR X (.type T) r)(hg:Gl X x)(hm:X.mg x=none)(hv:bootBuiltins x=some (.type T))(ha:PA X (e::es) t)(hn:x≠"__name__":=by decide)(hdb:(x==("__debug__":Str))=false:=by decide)
  (he:starEach (e::es) X.env=(false,eval e X.env)::starEach es X.env:=by rfl) (hpl:(backTo pos (starEach es X.env)).any (·.1)=false:=by rfl):PE X (.Call (.Name x p) (e::es) [] pos) (tCB r t):=by
 intro pins s σ H Q I h
 refine wpAny_Call_Name_kw (Z3b I hg hm hv ?_ hn hdb)
 exact Y0O (thn (ha pos pins s σ H _ I h) λus s1 ⟨vs,H1,I1,r1,q1⟩=>hc pins s1 σ H1 vs us Q I1 r1 q1) he hpl
end
end L2
namespace HT
open PySem PyProof.Rows
section
open PySem.SeqAt
open PySem.AutoSeq1 (wpAny_loadPart')
open PySem.MeetsSeq PySem.MeetsSeq2 PySem.MeetsSeq3
end
section
variable{prog:Program}{w:World}{A:Around}{E:Value->Shared->Prop}{s:Shared}
theorem cat_tup{t b:Addr}{vs ws:List Value}{Q:Value->Shared->Prop}(ht:IsTup s.heap t vs.toArray)(hb:IsTup s.heap b ws.toArray)(hv:vs≠ [])
  (h1:ws=[]->Q (.ref t) s) (h2:ws≠ []->Q (.ref s.heap.objs.size) {s with heap:=s.heap.push {cls:=.type "tuple",data:=.seq (vs++ws).toArray} })
  (hsz:vs.length+ws.length≤sizeLine):wpAny (model prog w) A (binaryOp .Add (.ref t) (.ref b)) Q E s:=by
 obtain⟨⟨cls,dd,data,sl⟩,ho,hc,n,hd⟩:=id ht
 obtain⟨⟨cls2,dd2,data2,sl2⟩,ho2,hc2,n2,hd2⟩:=id hb
 simp only at hc hd hc2 hd2
 subst hc hd hc2 hd2
 have e:vs.toArray++ws.toArray=(vs++ws).toArray:=by simp
 by_cases hw:ws=[]
 ·exact concat_meets ⟨_,ho,rfl⟩ ⟨_,ho2,rfl⟩ noFill_tuple_add seq_tuple_add Y34 Y2X (Y2N _ _)
   (tuple_addW1 t b vs.toArray ws.toArray n n2 dd dd2 sl sl2 (by simpa using hv) (by simp[hw])) ⟨ho,ho2,h1 hw⟩
 ·refine concat_meets ⟨_,ho,rfl⟩ ⟨_,ho2,rfl⟩ noFill_tuple_add seq_tuple_add Y34 Y2X (Y2N _ _)
   (tuple_addW2 t b vs.toArray ws.toArray n n2 dd dd2 sl sl2 (by simpa using hv) (by simpa using hw) (by rw[Y0e,Y0e];exact hsz)) ⟨ho,ho2,?_⟩
  rw[e]
  exact h2 hw
noncomputable def sIx(n d:Nat):Option Int->Nat
 |none=>d
 |some v=>if v<0 then(v+(n:Int)).toNat else min v.toNat n
theorem sIx_none(n d:Nat):sIx n d none=d:=rfl
theorem sIx_nat(n d k:Nat):sIx n d (some (k:Int))=min k n:=by
 show(if(k:Int)<0 then((k:Int)+(n:Int)).toNat else min (k:Int).toNat n)=min k n
 rw[if_neg (by lia),Y1e]
theorem Ziv(n d:Nat)(hd:d≤n)(o:Option Int):sIx n d o≤n:=by
 cases o with
 |none=>exact hd
 |some v=>
  show(if v<0 then(v+(n:Int)).toNat else min v.toNat n)≤n
  by_cases hv:v<0
  ·rw[if_pos hv];lia
  ·rw[if_neg hv];exact Nat.min_le_right _ _
theorem ZdV(v:Int)(n d:Nat):(if v<0 then max (v+(n:Int)) 0 else min v (n:Int))=((sIx n d (some v):Nat):Int):=by
 show(if v<0 then max (v+(n:Int)) 0 else min v (n:Int))=(((if v<0 then(v+(n:Int)).toNat else min v.toNat n):Nat):Int)
 by_cases hv:v<0
 ·simp only[if_pos hv];lia
 ·simp only[if_neg hv];lia
theorem Zco(lo hi:Option Int)(n:Nat):Y1Z lo hi 1 (n:Int)=(((sIx n 0 lo:Nat):Int),((sIx n n hi:Nat):Int)):=by
 have h1:¬((1:Int)<0):=by lia
 unfold Y1Z
 simp only[h1,if_false]
 refine Prod.ext ?_ ?_
 ·cases lo with
  |none=>rfl
  |some v=>exact ZdV v n 0
 ·cases hi with
  |none=>rfl
  |some v=>exact ZdV v n n
theorem ZbT(i j:Nat):Y1y (i:Int) (j:Int) 1=j - i:=by
 unfold Y1y
 have h1:(1:Int)>0:=by lia
 simp only[h1,if_true,Int.ediv_one]
 split<;>lia
theorem Z8a{v:Value}{o:Option Int}{Q:Option Int->Shared->Prop}(p:IsPart v o)(h:Q o s):wpAny (model prog w) A (Builtin.Slice.slicePartIndex v) Q E s:=by
 cases p with
 |none=>exact slicePart_none h
 |int i t=>exact slicePart_int h
theorem Z38{sl:Addr}{vl vu:Value}{lo hi:Option Int}{n:Nat}{Q:Int×Int×Nat->Shared->Prop}(hs:s.heap.IsSliceOf sl vl vu .none)(pl:IsPart vl lo)(pu:IsPart vu hi)
  (h:Q (((sIx n 0 lo:Nat):Int),1,sIx n n hi - sIx n 0 lo) s):wpAny (model prog w) A (Y2w (.ref sl) (pure (n:Int))) Q E s:=by
 obtain⟨os,hos,hcs,hds⟩:=id hs
 unfold Y2w Builtin.Slice.sliceFields
 refine wpAny_bind (wpAny_bind (wpAny_field hos hds (x:=vl) rfl (wpAny_bind (wpAny_field hos hds (x:=vu) rfl (wpAny_bind (wpAny_field hos hds (x:=.none) rfl (wpAny_pure ?_)))))))
 refine wpAny_bind (slicePart_none ?_)
 show wpAny _ _ (if((1:Int)==0)=true then _ else _) _ _ s
 rw[if_neg (by decide)]
 refine wpAny_bind (Z8a pl (wpAny_bind (Z8a pu (wpAny_bind (wpAny_pure ?_)))))
 show wpAny _ _ (match Y1Z lo hi 1 (n:Int)with|(lo,hi)=>pure (lo,(1:Int),Y1y lo hi 1)) _ _ s
 rw[Zco lo hi n]
 show wpAny _ _ (pure (((sIx n 0 lo:Nat):Int),(1:Int),Y1y ((sIx n 0 lo:Nat):Int) ((sIx n n hi:Nat):Int) 1)) _ _ s
 rw[ZbT]
 exact wpAny_pure h
theorem ZeD(xs:Array Value)(i k:Nat):((Y0E k).filterMap fun(m:Nat)=>xs[((i:Int)+(m:Int)*1).toNat]?).toArray=((xs.toList.drop i).take k).toArray:=by
 have e:(fun(m:Nat)=>xs[((i:Int)+(m:Int)*1).toNat]?)=λm=>xs[i+m]?:=by
  funext m
  have:((i:Int)+(m:Int)*1).toNat=i+m:=by lia
  rw[this]
 rw[e]
 have:=pick_run xs i k
 rw[List.filterMap_map]at this
 have e2:((λx=>xs[x]?)∘ λx=>i+x)=λm=>xs[i+m]?:=rfl
 rw[e2]at this
 rw[this]
theorem getItem_tuple_cut{t sl:Addr}{items:Array Value}{vl vu:Value}{lo hi:Option Int}{Q:Value->Shared->Prop}(ht:IsTup s.heap t items)(hs:s.heap.IsSliceOf sl vl vu .none)(pl:IsPart vl lo)(pu:IsPart vu hi)
  (hw:¬(sIx items.size 0 lo=0/\sIx items.size items.size hi=items.size))
  (h:Q (.ref s.heap.objs.size) {s with heap:=s.heap.push {cls:=.type "tuple",data:=.seq ((items.toList.drop (sIx items.size 0 lo)).take (sIx items.size items.size hi - sIx items.size 0 lo)).toArray} })
  (hsz:items.size≤sizeLine):wpAny (model prog w) A (getItem (.ref t) (.ref sl)) Q E s:=by
 have htake:sizeOk (.seq ((items.toList.drop (sIx items.size 0 lo)).take (sIx items.size items.size hi - sIx items.size 0 lo)).toArray):=by
  show((items.toList.drop (sIx items.size 0 lo)).take (sIx items.size items.size hi - sIx items.size 0 lo)).toArray.size≤sizeLine
  rw[Y0e,Y0A,Y1l,Y0c]
  lia
 have hj:sIx items.size items.size hi≤items.size:=Ziv _ _ (Y07 _) hi
 obtain⟨os,hos,hcs,hds⟩:=id hs
 have hTs:s.TypeIs (.ref sl) "slice":=⟨os,hos,hcs⟩
 unfold getItem
 try with_reducible refine wpAny_holding ?_
 first|refine wpAny_bind (wpAny_pure ?_)|skip
 refine wpAny_bind (wpAny_sequenceKey ht.typeIs (by decide) ?_)
 refine wpAny_bind (wpAny_callSpecial?_slot (name:=Y0w "__getitem__") ht.typeIs Y0P
  (wpAny_call_entry Y0P ht.typeIs entry_tuple_getitem ?_ (args_tuple_getitem _ _)))
 show wpAny _ _ (Y2x (.ref t)>>= _) _ _ s
 refine wpAny_bind (tupleItemsOf_ ht ?_)
 refine wpAny_bind (wpAny_typeOf hTs ?_)
 rw[if_pos (by decide)]
 refine wpAny_bind (Z38 hs pl pu ?_)
 have hno:¬((((sIx items.size 0 lo:Nat):Int)==0&&(1:Int)==1&&(sIx items.size items.size hi - sIx items.size 0 lo)==items.size)=true):=by
  intro q
  rw[Y04,Y04]at q
  have q1:((sIx items.size 0 lo:Nat):Int)=0:=eq_of_beq q.1.1
  have q2:sIx items.size items.size hi - sIx items.size 0 lo=items.size:=eq_of_beq q.2
  exact hw ⟨by lia,by lia⟩
 show wpAny _ _ (if(((sIx items.size 0 lo:Nat):Int)==0&&(1:Int)==1&&(sIx items.size items.size hi - sIx items.size 0 lo)==items.size)=true then _ else _) _ _ s
 rw[if_neg hno,ZeD]
 first
  |exact wpAny_bind (m:=Y1E _) (wpAny_newObj_type (wpAny_pure ⟨_,rfl,wpAny_pure h⟩) htake)
  |exact wpAny_bind (m:=Y1E _) (wpAny_newObj_type (wpAny_bind (wpAny_pure (wpAny_pure ⟨_,rfl,wpAny_pure h⟩))) htake)
  |exact wpAny_bind (wpAny_bind (m:=Y1E _) (wpAny_newObj_type (wpAny_pure (wpAny_pure ⟨_,rfl,wpAny_pure h⟩)) htake))
  |exact wpAny_bind (wpAny_bind (m:=Y1E _) (wpAny_newObj_type (wpAny_pure ⟨_,rfl,wpAny_pure h⟩) htake))
end
end HT
namespace L2
open PySem PySem.Spec PyProof.Rows
noncomputable abbrev TO:=St->Hp->(Option Int->Hp->Prop)->Prop
noncomputable def PO(X:Cx)(e:Option Expr)(t:TO):Prop:=
 ∀(pins:List (Addr×Obj)) (s:Shared) (σ:St) (H:Hp) (Q:Option Int->Hp->Prop),Inv X pins σ H s->t σ H Q->
  wpAny (model X.prog X.w) X.A (evalPart e X.env) (λu s'=>∃o H',Inv X pins σ H' s'/\IsPart u o/\Q o H') X.xe s
noncomputable def Zgs:TO:=λ_ H Q=>Q none H
noncomputable def Zki(t:TE):TO:=λσ H Q=>t σ H λx H1=>∃i,x=.int i/\Q (some i) H1
theorem Z8q{ns:List Int}:∀{us:List Value},Vals (ns.map V.int) us->IntsAre us ns:=by
 induction ns with
 |nil=>intro us r;rw[Y0M]at r;cases r;exact .nil
 |cons n ns ih=>
  intro us r
  rw[Y0b]at r
  cases r with
  |cons r1 r2=>
   obtain⟨t,e⟩:=r1
   subst e
   exact .cons n t (ih r2)
section
variable{X:Cx}{e:Expr}{te:TE}{lo hi:Option Expr}{tl th:TO}{pos p2:Pos}
theorem ZgP:PO X none Zgs:=by
 intro pins s σ H Q I h
 rw[evalPart_none]
 exact wpAny_pure ⟨none,H,I,.none,h⟩
theorem ZgO(h:PE X e te):PO X (some e) (Zki te):=by
 intro pins s σ H Q I hw
 rw[evalPart_some]
 refine thn (h pins s σ H _ I hw) λu s1 ⟨x,H1,I1,r1,q1⟩=>?_
 obtain⟨i,rfl,q⟩:=q1
 obtain⟨t,rfl⟩:=r1
 exact⟨some i,H1,I1,.int i t,q⟩
noncomputable def SlR(X:Cx)(r:V->Option Int->Option Int->Hp->VK->Prop):Prop:=
 ∀(pins:List (Addr×Obj)) (s:Shared) (σ:St) (H:Hp) (x:V) (v vl vu:Value) (lo hi:Option Int) (sl:Addr) (Q:VK),Inv X pins σ H s->RelV x v->s.heap.IsSliceOf sl vl vu .none->IsPart vl lo->IsPart vu hi->r x lo hi H Q->
  ∃T id,typeLookup (.type T) "__getitem__"=pure (some (.builtin id))/\s.TypeIs v T/\wpAny (model X.prog X.w) X.A (getItem v (.ref sl)) (EP X pins σ Q) X.xe s
theorem SlR.or{r r':V->Option Int->Option Int->Hp->VK->Prop}(h:SlR X r)(h':SlR X r'):SlR X (λx lo hi H Q=>r x lo hi H Q\/r' x lo hi H Q):=by
 intro pins s σ H x v vl vu lo hi sl Q I rx hs pl pu q
 rcases q with q|q
 ·exact h pins s σ H x v vl vu lo hi sl Q I rx hs pl pu q
 ·exact h' pins s σ H x v vl vu lo hi sl Q I rx hs pl pu q
noncomputable def tSl(r:V->Option Int->Option Int->Hp->VK->Prop)(te:TE)(tl th:TO):TE:=λσ H Q=>te σ H λx H1=>tl σ H1 λl H2=>th σ H2 λu H3=>r x l u H3 Q
theorem ZeG{r:V->Option Int->Option Int->Hp->VK->Prop}(hr:SlR X r)(he:PE X e te)(hl:PO X lo tl)(hu:PO X hi th):PE X (.Subscript e (.Slice lo hi none p2) pos) (tSl r te tl th):=by
 intro pins s σ H Q I h
 refine Subscript_ (thn (he pins s σ H _ I h) λv s1 ⟨x,H1,I1,r1,q1⟩=>?_)
 refine wpAny_Slice (thn (hl pins s1 σ H1 _ I1 q1) λvl s2 ⟨l,H2,I2,pl,q2⟩=>thn (hu pins s2 σ H2 _ I2 q2) λvu s3 ⟨u,H3,I3,pu,q3⟩=>?_)
 rw[evalPart_none]
 refine wpAny_pure ?_
 have I4:Inv X pins σ H3 {s3 with heap:=s3.heap.push {cls:=.type "slice",data:=.fields #[vl,vu,.none]} }:=I3.kept (t':=s3.toks) fun b ob q=>Y02 _ q
 obtain⟨T,id,hT,ht,hg⟩:=hr pins {s3 with heap:=s3.heap.push {cls:=.type "slice",data:=.fields #[vl,vu,.none]} } σ H3 x v vl vu l u s3.heap.objs.size Q I4 r1 (Heap.IsSliceOf.new ..) pl pu q3
 show wpAny (model X.prog X.w) X.A (subscriptTail e (.Slice lo hi none p2) v (.ref s3.heap.objs.size)) (EP X pins σ Q) X.xe {s3 with heap:=s3.heap.push {cls:=.type "slice",data:=.fields #[vl,vu,.none]} }
 exact tail_any (ops:=[.ref s3.heap.objs.size,v]) ht hT hg (by with_unfolding_all rfl)
noncomputable def cutV(xs:List V)(lo hi:Option Int):List V:=(xs.drop (HT.sIx xs.length 0 lo)).take (HT.sIx xs.length xs.length hi - HT.sIx xs.length 0 lo)
theorem Z7y(xs:List V)(lo hi:Option Int):(cutV xs lo hi).length≤xs.length:=by
 unfold cutV
 rw[Y0A,Y1l]
 lia
noncomputable def rSlT(K:Y00):V->Option Int->Option Int->Hp->VK->Prop:=λx lo hi H Q=>∃a xs,x=.ref a/\SqT K H a xs/\
 ¬(HT.sIx xs.length 0 lo=0/\HT.sIx xs.length xs.length hi=xs.length)/\∀p,H p=none->Q (.ref p) (upd H p (.tup (cutV xs lo hi)))
theorem Zin:SlR X (rSlT X.K):=by
 intro pins s σ H x v vl vu lo hi sl Q I rx hs pl pu h
 obtain⟨a,xs,rfl,hx,hw,q⟩:=h
 cases rx
 obtain⟨its,r,ht,hz⟩:=I.tuple hx
 have hlen:its.toArray.size=xs.length:=by rw[Y0e];exact r.length.symm
 refine⟨"tuple",_,Y0P.lookup,ht.typeIs,?_⟩
 refine HT.getItem_tuple_cut ht hs pl pu (by rw[hlen];exact hw) ?_ (by rw[hlen];exact hz)
 rw[hlen]
 refine⟨.ref s.heap.objs.size,_,I.laid (t':=s.toks) (o:=.tup (cutV xs lo hi)) (λb ob q=>Y02 _ q) (Y07 _) ?_,rfl,q _ (I.hok.fresh (Y07 _))⟩
 exact⟨Y0N (Z7y xs lo hi) hz,_,(r.drop (HT.sIx xs.length 0 lo)).take (HT.sIx xs.length xs.length hi - HT.sIx xs.length 0 lo),IsTup.new _ _,_,Y0a _ rfl,rfl⟩
noncomputable def Zkz(K:Y00):R2:=λx y H Q=>∃a b xs ys,x=.ref a/\y=.ref b/\SqT K H a xs/\SqT K H b ys/\xs≠ []/\xs.length+ys.length≤sizeLine/\
 (ys=[]->Q (.ref a) H)/\(ys≠ []->∀p,H p=none->Q (.ref p) (upd H p (.tup (xs++ys))))
theorem Vals.nil_iff{xs:List V}{us:List Value}(r:Vals xs us):us=[]↔xs=[]:=by
 cases r with
 |nil=>simp
 |cons _ _=>simp
theorem Zh1:OpR X (binaryOp .Add) (Zkz X.K):=by
 intro pins s σ H x y v u Q I rx ry h
 obtain⟨a,b,xs,ys,rfl,rfl,ha,hb,hx,hz,q1,q2⟩:=h
 cases rx
 cases ry
 obtain⟨its,r1,p1,_⟩:=I.tuple ha
 obtain⟨its2,r2,p2,_⟩:=I.tuple hb
 refine HT.cat_tup p1 p2 (λz=>hx (r1.nil_iff.mp z)) (λz=>⟨.ref a,H,I,rfl,q1 (r2.nil_iff.mp z)⟩) (λz=>?_) (by rw[<- r1.length,<- r2.length];exact hz)
 refine⟨.ref s.heap.objs.size,_,I.laid (t':=s.toks) (o:=.tup (xs++ys)) (λb ob q=>Y02 _ q) (Y07 _) ?_,rfl,q2 (λw=>z (r2.nil_iff.mpr w)) _ (I.hok.fresh (Y07 _))⟩
 exact⟨by rw[Y0t];exact hz,_,r1.append r2,IsTup.new _ _,_,Y0a _ rfl,rfl⟩
end
end L2
namespace L2
open PySem PySem.Spec PyProof.Rows
noncomputable def ixN(n:Nat)(i:Int):Option Nat:=if 0≤i then(if i<n then some i.toNat else none)else if -(n:Int)≤i then some (i+n).toNat else none
noncomputable def atI{α:Type}(xs:List α)(i:Int):Option α:=(ixN xs.length i).bind λj=>xs[j]?
theorem Zhp{n:Nat}{i:Int}{j:Nat}(h:ixN n i=some j):seqIndex? i n=some j/\j<n/\ -(n:Int)≤i/\i<n:=by
 unfold ixN at h
 by_cases h0:0≤i
 ·rw[if_pos h0]at h
  by_cases h1:i<n
  ·rw[if_pos h1]at h
   have e:i.toNat=j:=Y0C h
   exact⟨by rw[seqIndex_of h0 h1,e],by lia,by lia,h1⟩
  ·rw[if_neg h1]at h;cases h
 ·rw[if_neg h0]at h
  by_cases h1:-(n:Int)≤i
  ·rw[if_pos h1]at h
   have e:(i+n).toNat=j:=Y0C h
   exact⟨by rw[seqIndex_neg (by lia) h1,e],by lia,h1,by lia⟩
  ·rw[if_neg h1]at h;cases h
theorem Zb4{α:Type}{xs:List α}{i:Int}{v:α}(h:atI xs i=some v):∃j,seqIndex? i xs.length=some j/\xs[j]?=some v/\j<xs.length/\ -(xs.length:Int)≤i/\i<xs.length:=by
 unfold atI at h
 cases e:ixN xs.length i with
 |none=>rw[e]at h;cases h
 |some j=>
  rw[e]at h
  obtain⟨h1,h2,h3,h4⟩:=Zhp e
  exact⟨j,h1,h,h2,h3,h4⟩
theorem Z0c{α:Type}{xs:List α}{j:Nat}{v:α}(h:xs[j]?=some v):atI xs (j:Int)=some v:=by
 have hj:j<xs.length:=(Y08.mp h).1
 have e:ixN xs.length (j:Int)=some j:=by
  unfold ixN
  rw[if_pos (by lia),if_pos (by lia)];simp
 unfold atI;rw[e];exact h
noncomputable def Zen(b:Expr):Prop:=∀o i,subscripted b false o i=operate [o,i] (getItem o i)
noncomputable def IxR(X:Cx)(r:R2):Prop:=
 ∀(value slice:Expr) (pins:List (Addr×Obj)) (s:Shared) (σ:St) (H:Hp) (x y:V) (v u:Value) (Q:VK),Inv X pins σ H s->RelV x v->RelV y u->r x y H Q->
  subscripted slice false v u=operate [v,u] (getItem v u)->wpAny (model X.prog X.w) X.A (subscriptTail value slice v u) (EP X pins σ Q) X.xe s
noncomputable def MtR(X:Cx)(id:String)(r:V->List V->Hp->VK->Prop):Prop:=
 ∀(pins:List (Addr×Obj)) (s:Shared) (σ:St) (H:Hp) (x:V) (xs:List V) (v:Value) (us:List Value) (Q:VK),Inv X pins σ H s->RelV x v->Vals xs us->r x xs H Q->
  wpAny (model X.prog X.w) X.A (call (.builtin id) (v::us)) (EP X pins σ Q) X.xe s
section
variable{X:Cx}{a b:Expr}{ta tb:TE}{pos:Pos}
theorem IxR.or{r r':R2}(h:IxR X r)(h':IxR X r'):IxR X (λx y H Q=>r x y H Q\/r' x y H Q):=by
 intro value slice pins s σ H x y v u Q I rx ry q hs
 rcases q with q|q
 ·exact h value slice pins s σ H x y v u Q I rx ry q hs
 ·exact h' value slice pins s σ H x y v u Q I rx ry q hs
theorem MtR.or{id:String}{r r':V->List V->Hp->VK->Prop}(h:MtR X id r)(h':MtR X id r'):MtR X id (λx xs H Q=>r x xs H Q\/r' x xs H Q):=by
 intro pins s σ H x xs v us Q I rx rs q
 rcases q with q|q
 ·exact h pins s σ H x xs v us Q I rx rs q
 ·exact h' pins s σ H x xs v us Q I rx rs q
theorem Zly{r:R2}(hr:IxR X r)(ha:PE X a ta)(hb:PE X b tb)(hs:Zen b):PE X (.Subscript a b pos) (tOp r ta tb):=by
 intro pins s σ H Q I h
 exact Subscript_ (binT ha hb I h λv u s2 x y H2 I2 rx ry q=>hr a b pins s2 σ H2 x y v u Q I2 rx ry q (hs _ _))
noncomputable def rIxL(K:Y00):R2:=λx y H Q=>∃p xs i v,x=.ref p/\y=.int i/\SqL K H p xs/\atI xs i=some v/\Q v H
noncomputable def rIxT(K:Y00):R2:=λx y H Q=>∃p xs i v,x=.ref p/\y=.int i/\SqT K H p xs/\atI xs i=some v/\Q v H
noncomputable def rIxS:R2:=λx y H Q=>∃z i c,x=.str z/\y=.int i/\z.length≤sizeLine/\atI z.cps.toList i=some c/\Q (.str ⟨#[c]⟩) H
theorem Zdm:IxR X (rIxL X.K):=by
 intro value slice pins s σ H x y v u Q I rx ry h hs
 obtain⟨p,xs,i,z,rfl,rfl,hq,he,q⟩:=h
 cases rx
 obtain⟨t,rfl⟩:=ry
 obtain⟨its,r,pl,hz⟩:=I.list hq
 obtain⟨j,h1,h2,h3,h4,h5⟩:=Zb4 he
 obtain⟨w,ew,rw'⟩:=r.get h2
 have hl:=r.length
 have hn:=Z9G
 have fin:EP X pins σ Q w s:=⟨z,H,I,rw',q⟩
 by_cases h0:0≤i
 ·have hj:i.toNat=j:=by
   rw[seqIndex_of h0 h5]at h1
   exact Y0C h1
  exact item_listR pl.isList h0 (by lia) (by rw[hj];simpa using ew) fin hs
 ·have hj:(i+(its.toArray.size:Int)).toNat=j:=by
   rw[seqIndex_neg (by lia) h4]at h1
   rw[Y0e,<- hl]
   exact Y0C h1
  exact subscriptTail_builtinR (x:=w) pl.isList.typeIs slot_list_getitem.lookup
   (wpAny_getItem_list_neg (Q:=λr s'=>r=w/\EP X pins σ Q r s') pl.isList (by lia) (by rw[Y0e]<;>lia) (by lia) (by rw[hj];simpa using ew) ⟨rfl,fin⟩) hs
theorem ZjJ:IxR X (rIxT X.K):=by
 intro value slice pins s σ H x y v u Q I rx ry h hs
 obtain⟨p,xs,i,z,rfl,rfl,hq,he,q⟩:=h
 cases rx
 obtain⟨t,rfl⟩:=ry
 obtain⟨its,r,pl,hz⟩:=I.tuple hq
 obtain⟨j,h1,h2,h3,h4,h5⟩:=Zb4 he
 obtain⟨w,ew,rw'⟩:=r.get h2
 have hl:=r.length
 have hn:=Z9G
 have fin:EP X pins σ Q w s:=⟨z,H,I,rw',q⟩
 exact subscriptTail_builtinR (x:=w) pl.typeIs slot_tuple_getitem.lookup
  (getItem_tuple (j:=j) (Q:=λr s'=>r=w/\EP X pins σ Q r s') pl (by lia) (by lia) (by rw[Y0e,<- hl];exact h1) (by simpa using ew) ⟨rfl,fin⟩) hs
theorem ZjK:IxR X rIxS:=by
 intro value slice pins s σ H x y v u Q I rx ry h hs
 obtain⟨z,i,c,rfl,rfl,hz,he,q⟩:=h
 obtain⟨t,rfl⟩:=rx
 obtain⟨t',rfl⟩:=ry
 obtain⟨j,h1,h2,h3,h4,h5⟩:=Zb4 he
 have hl:z.cps.toList.length=z.length:=by simp[Y3L]
 rw[hl]at h1 h4 h5
 have hn:=Z9G
 exact tail_any (typeIs_str s z t) slot_str_getitem.lookup (getItem_str (c:=c) (by
  have e1:decide (i< -(2^63:Int))=false:=decide_eq_false (by lia)
  have e2:decide (i ≥ 2^63)=false:=decide_eq_false (by lia)
  rw[e1,e2,Y3G]) (by rw[h1];simpa using h2) ⟨.str ⟨#[c]⟩,H,I.tok _,⟨_,rfl⟩,q⟩) hs
theorem Inv.lst{pins:List (Addr×Obj)}{σ:St}{H:Hp}{s:Shared}{p:Addr}{xs:List V}(I:Inv X pins σ H s)(h:H p=some (.lst xs)):
  ∃(its:List Value) (n:Nat),Vals xs its/\s.heap.get? p=some {cls:=.type "list",data:=.seq its.toArray n}/\xs.length≤sizeLine:=by
 obtain⟨z,its,n,r,e⟩:=I.hok p _ h
 exact⟨its,n,r,e,z⟩
theorem Z3m(lo hi:Option Int)(n:Nat):(sliceBounds lo hi none n).1=((HT.sIx n 0 lo:Nat):Int)/\(sliceBounds lo hi none n).2.1=((HT.sIx n n hi:Nat):Int)/\(sliceBounds lo hi none n).2.2=1:=by
 refine⟨?_,?_,rfl⟩
 ·cases lo with
  |none=>simp[sliceBounds,HT.sIx]
  |some i=>
   simp only[sliceBounds,HT.sIx,Option.getD_none,show(1:Int)>0 by decide,if_true]
   by_cases h:i<0
   ·simp only[h,if_true]<;>lia
   ·simp only[h,if_false]<;>lia
 ·cases hi with
  |none=>simp[sliceBounds,HT.sIx]
  |some i=>
   simp only[sliceBounds,HT.sIx,Option.getD_none,show(1:Int)>0 by decide,if_true]
   by_cases h:i<0
   ·simp only[h,if_true]<;>lia
   ·simp only[h,if_false]<;>lia
theorem Z8I(its:List Value)(lo hi:Option Int):slicePick its.toArray lo hi none=((its.drop (HT.sIx its.length 0 lo)).take (HT.sIx its.length its.length hi - HT.sIx its.length 0 lo)).toArray:=by
 obtain⟨h1,h2,h3⟩:=Z3m lo hi its.toArray.size
 unfold slicePick
 rw[h1,h2,h3]
 simp only[sliceRange_one,pick_run,Y0e]<;>rfl
noncomputable def rSlL(K:Y00):V->Option Int->Option Int->Hp->VK->Prop:=λx lo hi H Q=>∃a xs,x=.ref a/\SqL K H a xs/\∀p,H p=none->Q (.ref p) (upd H p (.lst (cutV xs lo hi)))
theorem ZcI:SlR X (rSlL X.K):=by
 intro pins s σ H x v vl vu lo hi sl Q I rx hs pl pu h
 obtain⟨a,xs,rfl,hx,q⟩:=h
 cases rx
 obtain⟨its,r,ht,hz⟩:=I.list hx
 have hlen:=r.length
 refine⟨"list",_,slot_list_getitem.lookup,ht.isList.typeIs,?_⟩
 refine wpAny_getItem_list_slice ht.isList hs pl pu .none (by simp) ?_ (by rw[Y0e]<;>lia)
 rw[Z8I,<- hlen]
 refine⟨.ref s.heap.objs.size,_,I.laid (t':=s.toks) (o:=.lst (cutV xs lo hi)) (λb ob q=>Y02 _ q) (Y07 _) ?_,rfl,q _ (I.hok.fresh (Y07 _))⟩
 exact⟨Y0N (Z7y xs lo hi) hz,_,0,(r.drop (HT.sIx xs.length 0 lo)).take (HT.sIx xs.length xs.length hi - HT.sIx xs.length 0 lo),Y0a _ rfl⟩
noncomputable def Z82:V->Bool
 |.non=>true
 |.bl _=>true
 |.int _=>true
 |.str _=>true
 |_=>false
noncomputable def eqV:V->V->Bool
 |.non,.non=>true
 |.bl a,.bl b=>a==b
 |.bl a,.int b=>(if a then 1 else 0)==b
 |.int a,.bl b=>a==(if b then 1 else 0)
 |.int a,.int b=>a==b
 |.str a,.str b=>a==b
 |_,_=>false
theorem Zgg{A:Around}{s:Shared}{y x:V}{u v:Value}(ry:RelV y u)(rx:RelV x v)(fy:Z82 y=true)(fx:Z82 x=true):SeqAt.EqAt A s u v (eqV y x):=by
 cases y with
 |non=>
  cases ry
  cases x with
  |non=>cases rx;exact SeqAt.EqAt.same _
  |bl b=>cases rx;exact SeqAt.EqAt.none_bool b
  |int b=>obtain⟨t,rfl⟩:=rx;exact SeqAt.EqAt.none_int b t
  |str b=>obtain⟨t,rfl⟩:=rx;exact SeqAt.EqAt.none_str b t
  |_=>exact absurd (show false=true from fx) Y05
 |bl a=>
  cases ry
  cases x with
  |non=>cases rx;exact SeqAt.EqAt.bool_none a
  |bl b=>cases rx;exact SeqAt.EqAt.bool_bool a b
  |int b=>obtain⟨t,rfl⟩:=rx;exact SeqAt.EqAt.bool_int a b t
  |str b=>obtain⟨t,rfl⟩:=rx;exact SeqAt.EqAt.bool_str a b t
  |_=>exact absurd (show false=true from fx) Y05
 |int a=>
  obtain⟨t',rfl⟩:=ry
  cases x with
  |non=>cases rx;exact SeqAt.EqAt.int_none a t'
  |bl b=>cases rx;exact SeqAt.EqAt.int_bool a t' b
  |int b=>obtain⟨t,rfl⟩:=rx;exact SeqAt.EqAt.int_int a t' b t
  |str b=>obtain⟨t,rfl⟩:=rx;exact Y3D a t' b t
  |_=>exact absurd (show false=true from fx) Y05
 |str a=>
  obtain⟨t',rfl⟩:=ry
  cases x with
  |non=>cases rx;exact SeqAt.EqAt.str_none a t'
  |bl b=>cases rx;exact SeqAt.EqAt.str_bool a t' b
  |int b=>obtain⟨t,rfl⟩:=rx;exact Y3E a t' b t
  |str b=>obtain⟨t,rfl⟩:=rx;exact SeqAt.EqAt.str_str a t' b t
  |_=>exact absurd (show false=true from fx) Y05
 |_=>exact absurd (show false=true from fy) Y05
noncomputable def eqU(x:V)(u:Value):Bool:=match u with
 |.none=>eqV .non x
 |.bool b=>eqV (.bl b) x
 |.int i _=>eqV (.int i) x
 |.str z _=>eqV (.str z) x
 |_=>false
theorem Zge{x y:V}{u:Value}(r:RelV y u)(f:Z82 y=true):eqU x u=eqV y x:=by
 cases y with
 |non=>cases r;rfl
 |bl b=>cases r;rfl
 |int i=>obtain⟨t,rfl⟩:=r;rfl
 |str z=>obtain⟨t,rfl⟩:=r;rfl
 |_=>exact absurd (show false=true from f) Y05
theorem Z7E{x:V}:∀{xs:List V} {us:List Value},Vals xs us->xs.all Z82=true->us.any (eqU x)=xs.any λy=>eqV y x
 |_,_,.nil,_=>rfl
 |y::xs,u::us,.cons r t,f=>by
  rw[Y13,Y04]at f
  rw[Y1o,Y1o,Zge r f.1,Z7E t f.2]
theorem Z5c{A:Around}{s:Shared}{x:V}{v:Value}(rx:RelV x v)(fx:Z82 x=true):∀{xs:List V} {us:List Value},Vals xs us->xs.all Z82=true->∀u∈us,SeqAt.EqAt A s u v (eqU x u)
 |_,_,.nil,_=>λu hu=>by cases hu
 |y::xs,u::us,.cons r t,f=>λu' hu=>by
  rw[Y13,Y04]at f
  rcases Y0d.mp hu with rfl|hu
  ·rw[Zge r f.1];exact Zgg r rx f.1 fx
  ·exact Z5c rx fx t f.2 u' hu
noncomputable def inV(x:V)(xs:List V):Bool:=xs.any λy=>eqV y x
noncomputable def rIn(K:Y00)(neg:Bool):R2:=λx y H Q=>∃p xs,y=.ref p/\(SqL K H p xs\/SqT K H p xs)/\Z82 x=true/\xs.all Z82=true/\Q (.bl (if neg then !inV x xs else inV x xs)) H
theorem Z77:OpR X (compareOp .In) (rIn X.K false):=by
 intro pins s σ H x y v u Q I rx ry h
 obtain⟨p,xs,rfl,hq,fx,fs,q⟩:=h
 cases ry
 rcases hq with hq|hq
 ·obtain⟨its,r,pl,hz⟩:=I.list hq
  refine SeqAt.in_listAt (eqU x) pl.isList (λw hw=>Z5c rx fx r fs w (by simpa using hw)) ⟨.bl _,H,I,rfl,?_⟩
  rw[show its.toArray.any (eqU x)=its.any (eqU x) by simp,Z7E r fs]
  exact q
 ·obtain⟨its,r,pl,hz⟩:=I.tuple hq
  refine SeqAt.in_tupleAt (eqU x) pl (λw hw=>Z5c rx fx r fs w (by simpa using hw)) ⟨.bl _,H,I,rfl,?_⟩
  rw[show its.toArray.any (eqU x)=its.any (eqU x) by simp,Z7E r fs]
  exact q
theorem Z3r:OpR X (compareOp .NotIn) (rIn X.K true):=by
 intro pins s σ H x y v u Q I rx ry h
 obtain⟨p,xs,rfl,hq,fx,fs,q⟩:=h
 cases ry
 rcases hq with hq|hq
 ·obtain⟨its,r,pl,hz⟩:=I.list hq
  refine SeqAt.notIn_listAt (eqU x) pl.isList (λw hw=>Z5c rx fx r fs w (by simpa using hw)) ⟨.bl _,H,I,rfl,?_⟩
  rw[show its.toArray.any (eqU x)=its.any (eqU x) by simp,Z7E r fs]
  exact q
 ·obtain⟨its,r,pl,hz⟩:=I.tuple hq
  refine SeqAt.notIn_tupleAt (eqU x) pl (λw hw=>Z5c rx fx r fs w (by simpa using hw)) ⟨.bl _,H,I,rfl,?_⟩
  rw[show its.toArray.any (eqU x)=its.any (eqU x) by simp,Z7E r fs]
  exact q
theorem Z43:CallR X (.builtin "len") (fun xs H Q=>∃p ys,xs=[.ref p]/\(SqL X.K H p ys\/SqT X.K H p ys)/\Q (.int ys.length) H):=by
 intro pins s σ H xs us Q I r h
 obtain⟨p,ys,rfl,hq,q⟩:=h
 obtain⟨u,rfl,rx⟩:=Z4M r
 cases rx
 have hn:=Z9G
 rcases hq with hq|hq
 ·obtain⟨its,r',pl,hz⟩:=I.list hq
  have hlen:=r'.length
  exact Calls.call_len_list pl.isList (by simp only[Y0e]<;>lia) ⟨.int ys.length,H,I.tok _,⟨s.toks+1,by rw[Y0e,hlen]⟩,q⟩
 ·obtain⟨its,r',pl,hz⟩:=I.tuple hq
  have hlen:=r'.length
  exact len_tuple pl (by simp only[Y0e]<;>lia) ⟨.int ys.length,H,I.tok _,⟨s.toks+1,by rw[Y0e,hlen]⟩,q⟩
theorem Za3:CallR X (.builtin "len") (fun xs H Q=>∃z,xs=[.str z]/\z.length≤sizeLine/\Q (.int z.length) H):=by
 intro pins s σ H xs us Q I r h
 obtain⟨z,rfl,hz,q⟩:=h
 obtain⟨u,rfl,t,rfl⟩:=Z4M r
 have hn:=Z9G
 exact len_str (by lia) ⟨.int z.length,H,I.tok _,⟨_,rfl⟩,q⟩
theorem CallR.or{f:Value}{r r':List V->Hp->VK->Prop}(h:CallR X f r)(h':CallR X f r'):CallR X f (λxs H Q=>r xs H Q\/r' xs H Q):=by
 intro pins s σ H xs us Q I rs q
 rcases q with q|q
 ·exact h pins s σ H xs us Q I rs q
 ·exact h' pins s σ H xs us Q I rs q
theorem Z42:CallR X (.type "list") (fun xs H Q=>∃p ys,xs=[.ref p]/\(SqL X.K H p ys\/SqT X.K H p ys)/\∀l,H l=none->Q (.ref l) (upd H l (.lst ys))):=by
 intro pins s σ H xs us Q I r h
 obtain⟨p,ys,rfl,hq,q⟩:=h
 obtain⟨u,rfl,rx⟩:=Z4M r
 cases rx
 have fin:∀(its:List Value),Vals ys its->ys.length≤sizeLine->∀(h':Heap) (c':Nat),(∀b o',s.heap.get? b=some o'->h'.get? b=some o')->
   h'.get? s.heap.objs.size=some {cls:=.type "list",dict:=none,data:=.seq its.toArray c',slots:=#[]}->EP X pins σ Q (.ref s.heap.objs.size) {s with heap:=h'}:=fun its r' hz h' c' kp e=>
  ⟨.ref s.heap.objs.size,_,I.laid (t':=s.toks) kp (Y07 _) (show ObjOk X.prog X.w _ h' _ (.lst ys)from⟨hz,its,c',r',e⟩),rfl,q _ (I.hok.fresh (Y07 _))⟩
 rcases hq with hq|hq
 ·obtain⟨its,r',pl,hz⟩:=I.list hq
  have hlen:=r'.length
  obtain⟨o,ho,hc,n,hd⟩:=pl.isList
  exact call_list_seq p (.inl rfl) ho hc hd (λh' c' kp e=>fin its r' hz h' c' kp e) (by simp only[Y0e]<;>lia)
 ·obtain⟨its,r',pl,hz⟩:=I.tuple hq
  have hlen:=r'.length
  obtain⟨o,ho,hc,n,hd⟩:=pl
  exact call_list_seq p (.inr rfl) ho hc hd (λh' c' kp e=>fin its r' hz h' c' kp e) (by simp only[Y0e]<;>lia)
theorem Z35:CallR X (.type "tuple") (fun xs H Q=>∃p ys,xs=[.ref p]/\((SqL X.K H p ys/\∀l,H l=none->Q (.ref l) (upd H l (.tup ys)))\/(SqT X.K H p ys/\Q (.ref p) H))):=by
 intro pins s σ H xs us Q I r h
 obtain⟨p,ys,rfl,h⟩:=h
 obtain⟨u,rfl,rx⟩:=Z4M r
 cases rx
 rcases h with⟨hq,q⟩|⟨hq,q⟩
 ·obtain⟨its,r',pl,hz⟩:=I.list hq
  have hlen:=r'.length
  refine call_tuple_list pl.isList (λh' kp=>?_) (by simp only[Y0e]<;>lia)
  have I1:Inv X pins σ H {s with heap:=h'}:=I.kept (t':=s.toks) kp
  have I2:Inv X pins σ (upd H h'.objs.size (.tup ys)) {s with heap:=h'.push {cls:=.type "tuple",data:=.seq its.toArray} }:=
   I1.laid (t':=s.toks) (λb o e=>Y02 _ e) (Y07 _) (show ObjOk X.prog X.w _ _ _ (.tup ys)from⟨hz,its,r',IsTup.new _ _,_,Y0a _ rfl,rfl⟩)
  exact⟨.ref h'.objs.size,_,I2,rfl,q _ (I1.hok.fresh (Y07 _))⟩
 ·obtain⟨its,r',pl,hz⟩:=I.tuple hq
  exact call_tuple_same pl ⟨.ref p,H,I,rfl,q⟩
noncomputable def tyV(K:Y00)(T:String)(x:V)(H:Hp):Prop:=match x with
 |.str _=>T="str"
 |.int _=>T="int"
 |.ref p=>(T="list"/\∃xs,SqL K H p xs)\/(T="tuple"/\∃o,K.lookup p=some o/\o.cls=.type "tuple"/\o.dict=none)\/
   (T="dict"/\((∃kvs,H p=some (.dK kvs))\/∃kvs,H p=some (.dT kvs)))\/(T="set"/\∃S n,H p=some (.set S n))
 |_=>False
theorem ZfC{pins:List (Addr×Obj)}{σ:St}{H:Hp}{s:Shared}{T:String}{x:V}{v:Value}(I:Inv X pins σ H s)(r:RelV x v)(ty:tyV X.K T x H):
  s.TypeIs v T/\∀a,v=.ref a->∃ob,s.heap.get? a=some ob/\ob.dict=none:=by
 cases x with
 |str z=>
  obtain⟨t,rfl⟩:=r
  cases(show T="str" from ty)
  exact⟨typeIs_str s z t,λ_ e=>nomatch e⟩
 |int i=>
  obtain⟨t,rfl⟩:=r
  cases(show T="int" from ty)
  exact⟨typeIs_int s i t,λ_ e=>nomatch e⟩
 |ref p=>
  cases r
  rcases ty with⟨rfl,xs,hq⟩|⟨rfl,o,hk,hc,hd⟩|⟨rfl,hk⟩|⟨rfl,S,n,hk⟩
  ·obtain⟨its,_,pl,_⟩:=I.list hq
   refine⟨pl.isList.typeIs,λa e=>?_⟩
   cases e
   obtain⟨o,n,e,c,hd,_⟩:=pl
   exact⟨o,e,hd⟩
  ·refine⟨⟨o,I.kIn p o hk,hc⟩,λa e=>?_⟩
   cases e
   exact⟨o,I.kIn _ o hk,hd⟩
  ·have z:∃o,s.heap.get? p=some o/\o.ExactDict:=by
    rcases hk with⟨kvs,hk⟩|⟨kvs,hk⟩
    ·obtain⟨_,_,_,_,o,_,_,e,ex,_⟩:=I.hok p _ hk
     exact⟨o,e,ex⟩
    ·obtain⟨_,_,_,_,o,_,_,e,ex,_⟩:=I.hok p _ hk
     exact⟨o,e,ex⟩
   obtain⟨o,e,ex⟩:=z
   refine⟨⟨o,e,ex.1⟩,λa e2=>?_⟩
   cases e2
   exact⟨o,e,ex.2.1⟩
  ·obtain⟨o,_,_,_,e,ex,_⟩:=I.hok p _ hk
   refine⟨⟨o,e,ex.1⟩,λa e2=>?_⟩
   cases e2
   exact⟨o,e,ex.2.1⟩
 |_=>exact Y0G ty
noncomputable def tBM0(K:Y00)(T:String)(r:V->List V->Hp->VK->Prop)(to:TE):TE:=λσ H Q=>to σ H λx H1=>tyV K T x H1/\r x [] H1 Q
noncomputable def tBM(K:Y00)(T:String)(r:V->List V->Hp->VK->Prop)(to:TE)(t:TA):TE:=λσ H Q=>to σ H λx H1=>tyV K T x H1/\t σ H1 λxs H2=>r x xs H2 Q
variable{o e:Expr}{es:List Expr}{to:TE}{t:TA}{name:Str}{apos cpos:Pos}{T id:String}{r:V->List V->Hp->VK->Prop}
theorem Zjh(pa:PlainAttrs T)(slot:Slot T name id)(hty:typeOf (.builtin id)=pure (.type "method_descriptor"))(hm:MtR X id r)(ho:PE X o to)
  (hbase:attributeBase o name X.env (eval o X.env)=eval o X.env:=by rfl) (hline:(apos.endLine==cpos.line)=true:=by rfl):PE X (.Call (.Attribute o name apos) [] [] cpos) (tBM0 X.K T r to):=by
 intro pins s σ H Q I h
 refine wpAny_Call_method0_late hbase hline (thn (ho pins s σ H _ I h) λv s1 ⟨x,H1,I1,r1,ty,q1⟩=>?_)
 obtain⟨h1,h2⟩:=ZfC I1 r1 ty
 exact⟨T,id,pa,slot,hty,h1,h2,Y35 rfl (PySem.evalArgs_none (hm pins s1 σ H1 x [] v [] Q I1 r1 .nil q1))⟩
theorem ZlA(pa:PlainAttrs T)(slot:Slot T name id)(hty:typeOf (.builtin id)=pure (.type "method_descriptor"))(hm:MtR X id r)(ho:PE X o to)(ha:PA X (e::es) t)
  (hbase:attributeBase o name X.env (eval o X.env)=eval o X.env:=by rfl)
  (hfew:((backTo cpos (starEach (e::es) X.env)).all (λx=>!x.1)&&(backToKw cpos (keywordEach [] X.env)).all (λx=>x.1.isSome)
   &&decide ((e::es).length+([]:List Keyword).length+(if([]:List Keyword).isEmpty then 0 else 1)<30))=true:=by rfl)
  (hline:(apos.endLine==cpos.line)=true:=by rfl) (hs:starEach (e::es) X.env=(false,eval e X.env)::starEach es X.env:=by rfl) (hplain:(backTo cpos (starEach es X.env)).any (·.1)=false:=by rfl):
  PE X (.Call (.Attribute o name apos) (e::es) [] cpos) (tBM X.K T r to t):=by
 intro pins s σ H Q I h
 refine wpAny_Call_method_late hbase hfew hline rfl (thn (ho pins s σ H _ I h) λv s1 ⟨x,H1,I1,r1,ty,q1⟩=>?_)
 obtain⟨h1,h2⟩:=ZfC I1 r1 ty
 refine⟨T,id,pa,slot,hty,h1,h2,?_⟩
 have hA:=ha cpos pins s1 σ H1 _ I1 q1
 rw[hs]at hA ⊢
 refine Y35 (by show(false||(backTo cpos (starEach es X.env)).any (·.1))=false;rw[hplain]<;>rfl) (Calls.evalArgs_plain ?_)
 exact thn hA λus s2 ⟨vs,H2,I2,r2,q2⟩=>hm pins s2 σ H2 x vs v us Q I2 r1 r2 q2
/- xs.append(e),list.index on a module's tuple .. are MtR facts of 06m -/
end
end L2
namespace L2
open PySem PySem.Spec PyProof.Rows
noncomputable def MtM(X:Cx)(id:String)(r:V->List V->Hp->VK->Prop):Prop:=
 ∀(pins:List (Addr×Obj)) (s:Shared) (σ:St) (H:Hp) (x:V) (xs:List V) (v:Value) (us:List Value) (Q:VK),Inv X pins σ H s->RelV x v->Vals xs us->r x xs H Q->
  wpAny (model X.prog X.w) X.A (call (.builtin id) (v::us)) (EP X pins σ Q) X.xe s
theorem Vals.one:∀{x:V} {us:List Value},Vals [x] us->∃u,us=[u]/\RelV x u
 |_,_,.cons r .nil=>⟨_,rfl,r⟩
theorem Vals.zero:∀{us:List Value},Vals [] us->us=[]
 |_,.nil=>rfl
section
variable{X:Cx}{pins:List (Addr×Obj)}{σ:St}{H:Hp}{s:Shared}{l b:Addr}{xs ys zs:List V}
theorem Inv.lset{its its':List Value}{n:Nat}{f:Array Value->Array Value}{t':Nat}(I:Inv X pins σ H s)(hH:H l=some (.lst xs))
  (e:s.heap.get? l=some {cls:=.type "list",data:=.seq its.toArray n}) (hf:f its.toArray=its'.toArray) (hv:Vals ys its') (hz:ys.length≤sizeLine):
  Inv X pins σ (upd H l (.lst ys)) {s with heap:=s.heap.update l (Y2O f),toks:=t'}:=by
 have q:=PySem.IsL.update e f
 rw[hf]at q
 refine I.write (x:=l) (e:=l) (by rw[hH];exact trivial) (.inl rfl) (λb' u hb hu=>(Y1v s.heap (Y2O f) (Y2F hb)).trans hu) ⟨_,q⟩ ?_
 exact⟨hz,its',_,hv,q⟩
theorem Inv.lnew{its:List Value}{t':Nat}(I:Inv X pins σ H s)(hv:Vals ys its)(hz:ys.length≤sizeLine):
  Inv X pins σ (upd H s.heap.objs.size (.lst ys)) {s with heap:=s.heap.push {cls:=.type "list",data:=.seq its.toArray},toks:=t'}:=
 I.laid (λ_ _ q=>Y02 _ q) (Y07 _) ⟨hz,its,0,hv,Y0a _ rfl⟩
theorem Inv.fresh(I:Inv X pins σ H s):H s.heap.objs.size=none:=I.hok.fresh (Y07 _)
theorem Inv.lstM(I:Inv X pins σ H s)(hH:H l=some (.lst xs)):xs.length≤sizeLine/\∃(its:List Value) (n:Nat),Vals xs its/\xs.length=its.length/\s.heap.get? l=some {cls:=.type "list",data:=.seq its.toArray n}:=by
 obtain⟨z,its,n,r,e⟩:=I.hok l _ hH
 exact⟨z,its,n,r,r.length,e⟩
theorem ZeO{n:Nat}(h:n≤sizeLine):Y24 n=false:=by
 unfold Y24
 exact decide_eq_false (by lia)
end
section
variable{X:Cx}
noncomputable def ZgB:V->List V->Hp->VK->Prop:=λx vs H Q=>∃l xs y,x=.ref l/\vs=[y]/\H l=some (.lst xs)/\xs.length<sizeLine/\Q .non (upd H l (.lst (xs++[y])))
theorem Z9C:MtM X "list.append" ZgB:=by
 intro pins s σ H x vs v us Q I rx rv h
 obtain⟨l,xs,y,rfl,rfl,hH,hz,q⟩:=h
 cases rx
 obtain⟨u,rfl,ru⟩:=rv.one
 obtain⟨z,its,n,r,hl,e⟩:=I.lstM hH
 refine call_meets F.slot_list_append ⟨_,e,rfl⟩ F.entry_list_append (F.args_list_append_2 _ _) (PySem.list_append l its.toArray n u (by rw[Y0e];lia)) ⟨e,?_⟩
 refine⟨.non,_,I.lset (its':=its++[u]) hH e (by simp) (r.append (.cons ru .nil)) ?_,rfl,q⟩
 rw[Y0t,Y1x]
 lia
noncomputable def ZgA:V->List V->Hp->VK->Prop:=λx vs H Q=>∃l b xs zs,x=.ref l/\vs=[.ref b]/\H l=some (.lst xs)/\H b=some (.lst zs)/\xs.length+zs.length≤sizeLine/\Q .non (upd H l (.lst (xs++zs)))
theorem Zdb:MtM X "list.extend" ZgA:=by
 intro pins s σ H x vs v us Q I rx rv h
 obtain⟨l,b,xs,zs,rfl,rfl,hH,hB,hz,q⟩:=h
 cases rx
 obtain⟨u,rfl,ru⟩:=rv.one
 cases ru
 obtain⟨z,its,n,r,hl,e⟩:=I.lstM hH
 obtain⟨z2,its2,n2,r2,hl2,e2⟩:=I.lstM hB
 have hsz:its.toArray.size+its2.toArray.size≤sizeLine:=by rw[Y0e,Y0e];lia
 have hlong:¬(!its.toArray.isEmpty&&Y24 (its.toArray.size+its2.toArray.size))=true:=by
  rw[ZeO hsz,Y3t]
  exact Y05
 refine call_meets F.slot_list_extend ⟨_,e,rfl⟩ F.entry_list_extend (F.args_list_extend_2 _ _)
  (AutoSeq1.list_extend_list_list_0 l its.toArray n b its2.toArray n2 hlong (by rw[Y0e];lia) (by lia)) ⟨e,e2,?_⟩
 refine⟨.non,_,I.lset (its':=its++its2) hH e (by simp) (r.append r2) ?_,rfl,q⟩
 rw[Y0t]
 lia
noncomputable def ZiC:V->List V->Hp->VK->Prop:=λx vs H Q=>∃l xs,x=.ref l/\vs=[]/\H l=some (.lst xs)/\Q .non (upd H l (.lst []))
theorem ZeT:MtM X "list.clear" ZiC:=by
 intro pins s σ H x vs v us Q I rx rv h
 obtain⟨l,xs,rfl,rfl,hH,q⟩:=h
 cases rx
 have hus:=rv.zero
 subst hus
 obtain⟨z,its,n,r,hl,e⟩:=I.lstM hH
 refine call_meets F.slot_list_clear ⟨_,e,rfl⟩ F.entry_list_clear (F.args_list_clear_1 _) (AutoSeq1.list_clear_list_0 l its.toArray n (by rw[Y0e];lia)) ⟨e,?_⟩
 exact⟨.non,_,I.lset (its':=[]) (ys:=[]) hH e rfl .nil (Y1t _),rfl,q⟩
noncomputable def rCat:R2:=λx y H Q=>∃l b xs zs,x=.ref l/\y=.ref b/\H l=some (.lst xs)/\H b=some (.lst zs)/\xs.length+zs.length≤sizeLine/\∀p,H p=none->Q (.ref p) (upd H p (.lst (xs++zs)))
theorem Zjn:OpR X (binaryOp .Add) rCat:=by
 intro pins s σ H x y v u Q I rx ry h
 obtain⟨l,b,xs,zs,rfl,rfl,hH,hB,hz,q⟩:=h
 cases rx
 cases ry
 obtain⟨z,its,n,r,hl,e⟩:=I.lstM hH
 obtain⟨z2,its2,n2,r2,hl2,e2⟩:=I.lstM hB
 refine PySem.P.add_list e e2 ?_ (by rw[Y0e,Y0e];lia)
 have ea:its.toArray++its2.toArray=(its++its2).toArray:=by simp
 rw[ea]
 exact⟨.ref _,_,I.lnew (t':=s.toks) (r.append r2) (by rw[Y0t];lia),rfl,q _ I.fresh⟩
end
section
variable{prog:Program}{w:World}{A:Around}{E:Value->Shared->Prop}{s:Shared}
set_option maxRecDepth 100000 in
end
section
variable{X:Cx}
end
end L2
namespace L2
open PySem PySem.Spec PyProof.Rows
section
variable{κ:Type} [DecidableEq κ]
noncomputable def valV(kvs:List (κ×V))(k:κ):Option V:=(kvs.find? λkv=>decide (kv.1=k)).map (·.2)
noncomputable def putK(kvs:List (κ×V))(k:κ)(v:V):List (κ×V):=
 if(kvs.any λkv=>decide (kv.1=k))=true then kvs.map (λkv=>if kv.1=k then(kv.1,v)else kv)else kvs++[(k,v)]
theorem Z6Q{p:κ×V}{r:List (κ×V)}{k:κ}(e:p.1=k):valV (p::r) k=some p.2:=by simp[valV,Y1R,e]
theorem Z6R{p:κ×V}{r:List (κ×V)}{k:κ}(e:¬p.1=k):valV (p::r) k=valV r k:=by simp[valV,Y1R,e]
theorem Zb7(k:κ):∀kvs:List (κ×V),(kvs.any λkv=>decide (kv.1=k))=(valV kvs k).isSome
 |[]=>rfl
 |p::r=>by
  rw[Y1o]
  by_cases e:p.1=k
  ·simp only[Z6Q e,decide_eq_true e,Y3c,Option.isSome_some]
  ·rw[Z6R e,decide_eq_false e,Y2o];exact Zb7 k r
theorem RelO.isSome_eq{o:Option V}{u:Option Value}(r:RelO o u):o.isSome=u.isSome:=by
 cases o with
 |none=>cases u with
  |none=>rfl
  |some _=>exact(show False from r).elim
 |some _=>cases u with
  |none=>exact(show False from r).elim
  |some _=>rfl
theorem KV.val{kvs:List (κ×V)}{vs:List (κ×Value)}(r:KV kvs vs)(k:κ):RelO (valV kvs k) (valueAt vs k):=by
 unfold KV at r
 induction r with
 |nil=>exact Y1C
 | @cons p q ps qs h t ih=>
  obtain⟨h1,h2⟩:=h
  by_cases e:p.1=k
  ·have e':q.1=k:=h1.symm.trans e
   have b:valueAt (q::qs) k=some q.2:=by simp[valueAt,Y1R,e']
   rw[Z6Q e,b];exact h2
  ·have e':¬q.1=k:=λz=>e (h1.trans z)
   have b:valueAt (q::qs) k=valueAt qs k:=by simp[valueAt,Y1R,e']
   rw[Z6R e,b];exact ih
theorem KV.any{kvs:List (κ×V)}{vs:List (κ×Value)}(r:KV kvs vs)(k:κ):(kvs.any λkv=>decide (kv.1=k))=vs.any λkv=>decide (kv.1=k):=by
 unfold KV at r
 induction r with
 |nil=>rfl
 |cons h t ih=>rw[Y1o,Y1o,ih,h.1]
theorem KV.repl{kvs:List (κ×V)}{vs:List (κ×Value)}(r:KV kvs vs)(k:κ){y:V}{u:Value}(ry:RelV y u):
  KV (kvs.map λkv=>if kv.1=k then(kv.1,y)else kv) (vs.map λkv=>if kv.1=k then(kv.1,u)else kv):=by
 unfold KV at r ⊢
 induction r with
 |nil=>exact .nil
 | @cons p q ps qs h t ih=>
  rw[Y0b,Y0b]
  refine .cons ?_ ih
  obtain⟨h1,h2⟩:=h
  by_cases e:p.1=k
  ·rw[if_pos e,if_pos (h1.symm.trans e)];exact⟨h1,ry⟩
  ·rw[if_neg e,if_neg (λz=>e (h1.trans z))];exact⟨h1,h2⟩
theorem KV.put{kvs:List (κ×V)}{vs:List (κ×Value)}(r:KV kvs vs)(k:κ){y:V}{u:Value}(ry:RelV y u):KV (putK kvs k y) (stored vs k u):=by
 unfold putK stored
 rw[r.any k]
 by_cases e:(vs.any λkv=>decide (kv.1=k))=true
 ·rw[if_pos e,if_pos e];exact r.repl k ry
 ·rw[if_neg e,if_neg e];exact Paired.snoc r ⟨rfl,ry⟩
theorem KV.length{kvs:List (κ×V)}{vs:List (κ×Value)}(r:KV kvs vs):kvs.length=vs.length:=Paired.length r
end
theorem Zc2{P:Program}{w:World}{k:Key}{u:Value}(r:RelV (kV k) u):(Z0Q P w).is k u=true:=by
 cases k with
 |inl i=>obtain⟨t,e⟩:=(show∃t,u=Y3C i t from r);subst e;exact ZaD P w i t
 |inr x=>obtain⟨t,e⟩:=(show∃t,u=Y0v x t from r);subst e;exact ZaC P w x t
theorem Z9L{P:Program}{w:World}:∀{ks:List Key} {us:List Value},Vals (ks.map kV) us->ItemsAre (Z0Q P w) ks us
 |[],_,r=>by rw[Y0M]at r;cases r;exact .nil
 |k::ks,_,r=>by
  rw[Y0b]at r
  cases r with
  |cons h t=>exact .cons (Zc2 h) (Z9L t)
noncomputable abbrev KT(H:Hp):List (List Key×V)->List (List Key×Addr×Value)->Prop:=Paired λp q=>p.1=q.1/\H q.2.1=some (.tup (p.1.map kV))/\RelV p.2 q.2.2
theorem KT.val{H:Hp}{kvs:List (List Key×V)}{xs:List (List Key×Addr×Value)}(r:KT H kvs xs)(k:List Key):RelO (valV kvs k) ((atKey xs k).map (·.2)):=by
 induction r with
 |nil=>exact Y1C
 | @cons p q ps qs h t ih=>
  obtain⟨h1,_,h2⟩:=h
  by_cases e:p.1=k
  ·have e':q.1=k:=h1.symm.trans e
   have b:atKey (q::qs) k=some q.2:=by simp[atKey,Y1R,e']
   rw[Z6Q e,b];exact h2
  ·have e':¬q.1=k:=λz=>e (h1.trans z)
   have b:atKey (q::qs) k=atKey qs k:=by simp[atKey,Y1R,e']
   rw[Z6R e,b];exact ih
theorem KT.repl{H:Hp}{kvs:List (List Key×V)}{xs:List (List Key×Addr×Value)}(r:KT H kvs xs)(k:List Key){y:V}{u:Value}(ry:RelV y u):
  KT H (kvs.map λkv=>if kv.1=k then(kv.1,y)else kv) (xs.map (putAt k u)):=by
 induction r with
 |nil=>exact .nil
 | @cons p q ps qs h t ih=>
  rw[Y0b,Y0b]
  refine .cons ?_ ih
  obtain⟨h1,h2,h3⟩:=h
  unfold putAt
  by_cases e:p.1=k
  ·rw[if_pos e,if_pos (h1.symm.trans e)];exact⟨h1,h2,ry⟩
  ·rw[if_neg e,if_neg (λz=>e (h1.trans z))];exact⟨h1,h2,h3⟩
theorem KT.put{H:Hp}{kvs:List (List Key×V)}{xs:List (List Key×Addr×Value)}(r:KT H kvs xs)(k:List Key){b:Addr}{y:V}{u:Value}(hb:H b=some (.tup (k.map kV)))(ry:RelV y u):
  KT H (putK kvs k y) (storedH xs k b u):=by
 have e:(kvs.any λkv=>decide (kv.1=k))=(atKey xs k).isSome:=by
  rw[Zb7,(r.val k).isSome_eq,Y2P]
 unfold putK storedH
 rw[e]
 by_cases q:(atKey xs k).isSome=true
 ·rw[if_pos q,if_pos q];exact r.repl k ry
 ·rw[if_neg q,if_neg q];exact Paired.snoc r ⟨rfl,hb,ry⟩
section
variable{P:Program}{w:World}{H:Hp}{h:Heap}{a:Addr}
theorem Zix{u:HO}(ok:HOk P w H h)(e:Rd H a u):ObjOk P w H h a u:=e.ok ok
theorem ZaU{kvs:List (Key×V)}(ok:HOk P w H h)(e:Rd H a (.dK kvs)):kvs.length≤sizeLine/\(a==sysModules)=false/\∃vs,KV kvs vs/\h.DictOf (Z0Q P w) a vs:=
 show ObjOk P w H h a (.dK kvs)from Zix ok e
theorem Zk4{kvs:List (Key×V)}(ok:HOk P w H h)(e:H a=some (.dK kvs)):kvs.length≤sizeLine/\(a==sysModules)=false/\∃vs,KV kvs vs/\h.DictOf (Z0Q P w) a vs:=ZaU ok (.inl e)
theorem Zbj{ks:List Key}(ok:HOk P w H h)(e:H a=some (.tup (ks.map kV))):(tupleKind (Z0Q P w)).is h ks a:=by
 obtain⟨_,its,r,⟨o,h1,h2,n,h3⟩,_⟩:=(show ObjOk P w H h a (.tup (ks.map kV))from ok a _ e)
 exact⟨o,its.toArray,n,h1,h2,h3,by simpa using Z9L r⟩
theorem Zfg{kvs:List (List Key×V)}(ok:HOk P w H h)(e:Rd H a (.dT kvs)):kvs.length≤sizeLine/\(a==sysModules)=false/\
  ∃xs,KT H kvs xs/\h.DictOfH (tupleKind (Z0Q P w)) a xs:=by
 obtain⟨z,y,xs,r,o,es,ep,h1,h2,h3,h4,h5⟩:=(show ObjOk P w H h a (.dT kvs)from Zix ok e)
 refine⟨z,y,xs,r,o,es,ep,h1,h2,h3,h4,λx hx=>?_,h5⟩
 have all:∀{l:List (List Key×V)} {m:List (List Key×Addr×Value)},KT H l m->∀x∈m,(tupleKind (Z0Q P w)).is h x.1 x.2.1:=by
  intro l m q
  induction q with
  |nil=>intro x hx;exact nomatch hx
  | @cons p q ps qs hq t ih=>
   intro x hx
   rcases Y0d.mp hx with e|hx
   ·subst e
    exact Zbj ok (by rw[<- hq.1];exact hq.2.1)
   ·exact ih x hx
 exact all r x hx
end
noncomputable def DGet(H:Hp)(a:Addr)(y:V)(r:Option V):Prop:=
 (∃kvs k,Rd H a (.dK kvs)/\y=kV k/\r=valV kvs k)\/∃kvs k b,Rd H a (.dT kvs)/\y=.ref b/\H b=some (.tup (k.map kV))/\r=valV kvs k
noncomputable def DPut(H:Hp)(a:Addr)(y v:V)(H':Hp):Prop:=
 (∃kvs k,H a=some (.dK kvs)/\y=kV k/\kvs.length<sizeLine/\H'=upd H a (.dK (putK kvs k v)))\/
 ∃kvs k b,H a=some (.dT kvs)/\y=.ref b/\H b=some (.tup (k.map kV))/\kvs.length<sizeLine/\H'=upd H a (.dT (putK kvs k v))
theorem DGet.k{H:Hp}{a:Addr}{kvs:List (Key×V)}{k:Key}(e:H a=some (.dK kvs)):DGet H a (kV k) (valV kvs k):=.inl ⟨kvs,k,.inl e,rfl,rfl⟩
theorem DGet.t{H:Hp}{a b:Addr}{kvs:List (List Key×V)}{k:List Key}(e:H a=some (.dT kvs))(eb:H b=some (.tup (k.map kV))):DGet H a (.ref b) (valV kvs k):=.inr ⟨kvs,k,b,.inl e,rfl,eb,rfl⟩
theorem DPut.k{H:Hp}{a:Addr}{kvs:List (Key×V)}{k:Key}{v:V}(e:H a=some (.dK kvs))(hl:kvs.length<sizeLine):DPut H a (kV k) v (upd H a (.dK (putK kvs k v))):=.inl ⟨kvs,k,e,rfl,hl,rfl⟩
theorem DPut.t{H:Hp}{a b:Addr}{kvs:List (List Key×V)}{k:List Key}{v:V}(e:H a=some (.dT kvs))(eb:H b=some (.tup (k.map kV)))(hl:kvs.length<sizeLine):
  DPut H a (.ref b) v (upd H a (.dT (putK kvs k v))):=.inr ⟨kvs,k,b,e,rfl,eb,hl,rfl⟩
section
variable{X:Cx}{pins:List (Addr×Obj)}{σ:St}{H:Hp}{s:Shared}{a:Addr}{y v:V}{u r:Value}{o:Option V}{A:Around}{E:Value->Shared->Prop}
theorem Inv.big(I:Inv X pins σ H s):sysModules<s.heap.objs.size:=by
 have h:mainGlobals<s.heap.objs.size:=(I.mod.glob.keeps I.bk).lt
 exact Y25 (by decide) h
theorem ZdT{Q:Value->Shared->Prop}(hu:A.units+1<cLine)(I:Inv X pins σ H s)(g:DGet H a y (some v))(ry:RelV y u)(h:∀w' s',Inv X pins σ H s'->RelV v w'->Q w' s'):
  wpAny (model X.prog X.w) A (getItem (.ref a) u) Q E s:=by
 rcases g with⟨kvs,k,e,ey,l⟩|⟨kvs,k,b,e,ey,eb,l⟩
 ·subst ey
  obtain⟨z,hd,vs,rel,dd⟩:=ZaU I.hok e
  obtain⟨w',hw,rw'⟩:=RelO.some_of (v:=v) (o:=valueAt vs k) (by rw[l];exact rel.val k)
  exact wpAny_getItem_of (Zc2 ry) dd.mapOf hw (h w' _ (I.tok _) rw')
 ·subst ey
  cases(show u=Y0k b from ry)
  obtain⟨z,hd,xs,rel,dd⟩:=Zfg I.hok e
  obtain⟨w',hw,rw'⟩:=RelO.some_of (v:=v) (o:=(atKey xs k).map (·.2)) (by rw[l];exact rel.val k)
  obtain⟨p,hp,hp2⟩:=Y2d.mp hw
  refine wpAny_getItem_heap (tupleKind_room_in1 hu) (Zbj I.hok eb) dd hp ?_
  rw[hp2]
  exact h w' _ (I.tok _) rw'
theorem d_in{Q:Value->Shared->Prop}(hu:A.units+1<cLine)(I:Inv X pins σ H s)(g:DGet H a y o)(ry:RelV y u)(h:∀s',Inv X pins σ H s'->Q (.bool o.isSome) s'):
  wpAny (model X.prog X.w) A (compareOp .In u (.ref a)) Q E s:=by
 rcases g with⟨kvs,k,e,ey,l⟩|⟨kvs,k,b,e,ey,eb,l⟩
 ·subst ey
  obtain⟨z,hd,vs,rel,dd⟩:=ZaU I.hok e
  refine wpAny_in_of (Zc2 ry) hd dd.mapOf ?_
  rw[<- (rel.val k).isSome_eq,<- l]
  exact h _ (I.tok _)
 ·subst ey
  cases(show u=Y0k b from ry)
  obtain⟨z,hd,xs,rel,dd⟩:=Zfg I.hok e
  refine wpAny_in_heap (tupleKind_room_in1 hu) (Zbj I.hok eb) hd dd ?_
  have q:=(rel.val k).isSome_eq
  rw[Y2P]at q
  rw[<- q,<- l]
  exact h _ (I.tok _)
theorem ZhO{Q:Value->Shared->Prop}(hu:A.units+1<cLine)(I:Inv X pins σ H s)(g:DGet H a y o)(ry:RelV y u)(h:∀s',Inv X pins σ H s'->Q (.bool (!o.isSome)) s'):
  wpAny (model X.prog X.w) A (compareOp .NotIn u (.ref a)) Q E s:=by
 rcases g with⟨kvs,k,e,ey,l⟩|⟨kvs,k,b,e,ey,eb,l⟩
 ·subst ey
  obtain⟨z,hd,vs,rel,dd⟩:=ZaU I.hok e
  refine wpAny_notIn_of (Zc2 ry) hd dd.mapOf ?_
  rw[<- (rel.val k).isSome_eq,<- l]
  exact h _ (I.tok _)
 ·subst ey
  cases(show u=Y0k b from ry)
  obtain⟨z,hd,xs,rel,dd⟩:=Zfg I.hok e
  refine wpAny_notIn_heap (tupleKind_room_in1 hu) (Zbj I.hok eb) hd dd ?_
  have q:=(rel.val k).isSome_eq
  rw[Y2P]at q
  rw[<- q,<- l]
  exact h _ (I.tok _)
theorem ZdP{P:Program}{w:World}{H':Hp}{h':Heap}{kvs:List (Key×V)}{vs:List (Key×Value)}(z:kvs.length≤sizeLine)(hd:(a==sysModules)=false)(rel:KV kvs vs)(dd:h'.DictOf (Z0Q P w) a vs):
  ObjOk P w H' h' a (.dK kvs):=⟨z,hd,vs,rel,dd⟩
end
section
variable{X:Cx}{pins:List (Addr×Obj)}{σ:St}{H:Hp}{s:Shared}{a:Addr}{kvs:List (Key×V)}{k:Key}{u:Value}{A:Around}{E:Value->Shared->Prop}
theorem Zm1{Q:Value->Shared->Prop}(I:Inv X pins σ H s)(e:Rd H a (.dK kvs))(h:∀t s',Inv X pins σ H s'->Q (.int kvs.length t) s'):wpAny (model X.prog X.w) A (call (.builtin "len") [.ref a]) Q E s:=by
 obtain⟨z,hd,vs,rel,dd⟩:=ZaU I.hok e
 refine call_len_dict hd dd (by rw[<- rel.length];rw[sizeLine_eq]at z;lia) ?_
 rw[<- rel.length]
 exact h _ _ (I.tok _)
end
theorem ZaV{X:Cx}{pins:List (Addr×Obj)}{σ:St}{H:Hp}{s:Shared}{a:Addr}{y:V}{o:Option V}(I:Inv X pins σ H s)(g:DGet H a y o):s.TypeIs (.ref a) "dict":=by
 rcases g with⟨kvs,k,e,_,_⟩|⟨kvs,k,b,e,_,_,_⟩
 ·obtain⟨_,_,vs,_,dd⟩:=ZaU I.hok e
  exact dd.typeIs
 ·obtain⟨_,_,xs,_,dd⟩:=Zfg I.hok e
  exact dd.typeIs
section
variable{X:Cx}{o i e value:Expr}{pos pos' tpos:Pos}{td ty tv:TE}
end
section
variable{X:Cx}{pos:Pos}
end
noncomputable def ZfE:List (TE×TE)->St->Hp->(List (V×V)->Hp->Prop)->Prop
 |[],_,H,Q=>Q [] H
 |(tk,tv)::r,σ,H,Q=>tk σ H λx H1=>tv σ H1 λy H2=>ZfE r σ H2 λps H3=>Q ((x,y)::ps) H3
noncomputable abbrev VV:List (V×V)->List (Value×Value)->Prop:=Paired λp q=>RelV p.1 q.1/\RelV p.2 q.2
noncomputable def PPs(X:Cx)(pos:Pos)(keys:List (Option Expr))(values:List Expr)(trs:List (TE×TE)):Prop:=
 ∀(pins:List (Addr×Obj)) (s:Shared) (σ:St) (H:Hp) (Q:List (V×V)->Hp->Prop),Inv X pins σ H s->ZfE trs σ H Q->
  wpAny (model X.prog X.w) X.A (evalPairs (pairTrees keys values X.env pos)) (λvs s'=>∃ps H',Inv X pins σ H' s'/\VV ps vs/\Q ps H') X.xe s
theorem ZgN{X:Cx}{pos:Pos}:PPs X pos [] [] []:=λpins s σ H Q I h=>pairTrees_nil_walk ⟨[],H,I,.nil,h⟩
theorem ZeB{X:Cx}{pos:Pos}{k v:Expr}{ks:List (Option Expr)}{vs:List Expr}{tk tv:TE}{trs:List (TE×TE)}(hk:PE X k tk)(hv:PE X v tv)(hr:PPs X pos ks vs trs):
  PPs X pos (some k::ks) (v::vs) ((tk,tv)::trs):=λpins s σ H Q I h=>
 pairTrees_cons_walk (thn (hk pins s σ H _ I h) λu s1 ⟨x,H1,I1,rx,q1⟩=>thn (hv pins s1 σ H1 _ I1 q1) λw2 s2 ⟨y,H2,I2,ry,q2⟩=>
  thn (hr pins s2 σ H2 _ I2 q2) λws s3 ⟨ps,H3,I3,rel,q3⟩=>⟨(x,y)::ps,H3,I3,.cons ⟨rx,ry⟩ rel,q3⟩)
structure M1 (X:Cx) (o:Expr) (m:Str) (apos:Pos) (e:Expr) (cpos:Pos):Prop where
 base:attributeBase o m X.env (eval o X.env)=eval o X.env
 few:((backTo cpos (starEach [e] X.env)).all (λx=>!x.1)&&(backToKw cpos (keywordEach [] X.env)).all (λx=>x.1.isSome)
  &&decide (([e]:List Expr).length+([]:List Keyword).length+(if([]:List Keyword).isEmpty then 0 else 1)<30))=true
 line:(apos.endLine==cpos.line)=true
 trees:backTo cpos (starEach [e] X.env)=[(false,eval e X.env)]
structure M2 (X:Cx) (o:Expr) (m:Str) (apos:Pos) (e f:Expr) (cpos:Pos):Prop where
 base:attributeBase o m X.env (eval o X.env)=eval o X.env
 few:((backTo cpos (starEach [e,f] X.env)).all (λx=>!x.1)&&(backToKw cpos (keywordEach [] X.env)).all (λx=>x.1.isSome)
  &&decide (([e,f]:List Expr).length+([]:List Keyword).length+(if([]:List Keyword).isEmpty then 0 else 1)<30))=true
 line:(apos.endLine==cpos.line)=true
 trees:backTo cpos (starEach [e,f] X.env)=[(false,eval e X.env),(false,eval f X.env)]
section
variable{X:Cx}{pins:List (Addr×Obj)}{σ:St}{H:Hp}{s:Shared}{a:Addr}{y d:V}{u r:Value}{o:Option V}{A:Around}{E:Value->Shared->Prop}
end
section
variable{X:Cx}{o e f:Expr}{apos cpos:Pos}{td ty tx:TE}
end
section
variable{X:Cx}{pins:List (Addr×Obj)}{σ:St}{H:Hp}{s:Shared}{a:Addr}{kvs:List (Key×V)}{A:Around}{E:Value->Shared->Prop}
theorem Zfi{Q:Value->Shared->Prop}(I:Inv X pins σ H s)(e:Rd H a (.dK kvs))(h:∀p s',H p=none->Inv X pins σ (upd H p (.dK kvs)) s'->Q (.ref p) s'):wpAny (model X.prog X.w) A (call (.type "dict") [.ref a]) Q E s:=by
 obtain⟨z,hd,vs,rel,dd⟩:=ZaU I.hok e
 refine kt_call_dict hd dd (by rw[<- rel.length];exact z) λh' dd' hs=>?_
 refine h _ _ (I.hok.fresh (Y07 _)) (I.laid (a:=s.heap.objs.size) (o:=.dK kvs) (t':=s.toks) (λb q hq=>?_) (Y07 _) (ZdP z (beq_eq_false_iff_ne.mpr (Y2F (Y0f I.big))) rel dd'))
 exact(hs.2 b (Y0f (Y09 hq))).trans (Y02 _ hq)
end
section
variable{X:Cx}{pins:List (Addr×Obj)}{σ:St}{H:Hp}{s:Shared}{a:Addr}{y:V}{u:Value}{A:Around}{E:Value->Shared->Prop}
end
end L2
namespace Att
open PySem PySem.W PySem.Calls PyProof.Rows
theorem Z7p{P:Params}{h:Heap}:∀(ns:List Int) (vs:List Value),WellAll P h vs (ns.map WData.int)->IntsAre vs ns:=by
 intro ns
 induction ns with
 |nil=>
  intro vs w
  rw[Y0M]at w
  cases w
  exact .nil
 |cons n ns ih=>
  intro vs w
  rw[Y0b]at w
  cases w with
  |cons a b=>
   cases a
   exact .cons _ _ (ih _ b)
theorem ZcL{l:OpenLaw}{n:Nat}(hn:l.most=some n){P:Params}{h:Heap}{args:List WData}{vals:List Value}
  (hpre:l.row.toRowW.claim.pre args=true) (hwl:WellAll P h vals args):
  ∃a vs ns,vals=[Y0k a]/\args=[WData.list (ns.map WData.int)]/\h.get? a=some {cls:=.type "list",data:=.seq vs.toArray}/\IntsAre vs ns/\ns.length≤n:=by
 have hsh:WShape.hasAll [] args [.list .int]=true:=(pre_splitW hpre).1
 have hc:l.pre.holds [] {args:=args}=true:=(pre_splitW hpre).2
 obtain⟨d,r,rfl,h1,h2⟩:=hasAllW_cons hsh
 obtain rfl:=hasAllW_nil h2
 obtain⟨xs,rfl,h3⟩:=hasW_list h1
 obtain⟨ns,rfl⟩:=items_int h3
 have hlen:ns.length≤n:=by
  unfold OpenLaw.pre at hc
  have h4:(WTm.not (.lt (.lit (.int (n:Int))) (.len (.arg 0)))).holds [] {args:=[.list (ns.map .int)]}=true:=by
   have h4:=(holds_andW hc).1
   rw[hn]at h4
   exact h4
  have h5:=condW_of h4 (w_not (w_lt w_lit (w_len_list (w_arg rfl))))
  rw[Y03]at h5
  refine Nat.le_of_not_lt λq=>?_
  have q':(n:Int)<((ns.length:Nat):Int):=by lia
  first
   |(rw[decide_eq_true q']at h5;exact absurd h5 (by decide))
   |(simp at h5;lia)
 cases hwl with
 |cons w1 w2=>
  cases w2
  cases w1 with
  |list ho hall=>exact⟨_,_,ns,rfl,rfl,ho,Z7p ns _ hall,hlen⟩
theorem ZcW(l:OpenLaw)(args:List WData):l.row.toRowW.claim.post args (.bool true) args=true:=
 postW_of (r:=l.row.toRowW) (X:=(true==true))
  (show WShape.has [] (.bool true) .bool=true by first|rfl|decide|simp[WShape.has,WShape.arms,WShape.armsAll])
  (show(WTm.eq .res (.lit (.bool true))).value [] {args:=args,res:=some (.bool true),after:=args}=some (.bool (true==true))from w_eq_bool (w_res rfl) w_lit) rfl
theorem attach_call{l:OpenLaw}{n:Nat}{q:Program}{loose:List Str}{XP:(Str->Option Value)->Heap->Prop}{YP:World->Heap->Prop}{d:DefRec}
  (hn:l.most=some n) (hdf:d.params.defaults=[])
  (call:∀(w:World) (s₀ s₁:Shared) (mg mb:Str->Option Value) (fa:Addr) (o:Obj) (pm cd doc:Value) (a:Addr) (vs:List Value) (ns:List Int),
   Ground q loose [] XP w s₀ mg mb s₁.heap->YP w s₁.heap->
   s₁.heap.get? fa=some o->o.data=.func (docDef d.name d.params d.body d.scope pm cd doc)->s₁.heap.CodeRec cd d.name->mg d.name=some (.ref fa)->
   s₁.heap.get? a=some {cls:=.type "list",data:=.seq vs.toArray}->IntsAre vs ns->ns.length≤n->s₁.gens=#[]->
   codeAny (model l.prog w) callerA (.call (.ref fa) ⟨[.ref a],[]⟩) (λr s'=>r=.ok (.ret (.bool true))/\OldK s₁.heap s'.heap/\s'.os=s₁.os/\AllBare s'.gens) s₁):
  WalkO q loose XP YP l.row.toRowW d [] (λf vs=>PySem.call f vs):=by
 intro w s₀ s₁ mg mb G Y fa o pm cd doc dV kV ho hd hcd hD hmg hg args vals as hpre hlay hrd hwl hlo
 obtain rfl:dV=.none:=Dflts.none hD hdf
 obtain rfl:kV=.none:=Dflts.noKw hD
 obtain⟨a,vs,ns,rfl,rfl,hobj,hints,hlen⟩:=ZcL hn hpre hwl
 refine enter_call (codeAny_mono (call w s₀ s₁ mg mb fa o pm cd doc a vs ns G Y ho (fd_plain hd) hcd hmg hobj hints hlen hg) λr s' hq=>?_)
 obtain⟨rfl,h2,h3,h4⟩:=hq
 exact⟨.inl ⟨.bool true,.bool true,[],rfl,λ_=>rfl,.bool true,ZcW l _,λ_=>⟨List.Pairwise.nil,λ_ hm=>(nomatch hm)⟩⟩,h2,h3,h4⟩
section
variable{prog:Program}{w:World}{A:Around}{E:Value->Shared->Prop}{s:Shared}{K:Frag}
noncomputable def ledger(h:Heap)(L d:Addr):List (Addr×Obj):=(Y0E h.objs.size).filterMap λa=>if a=L\/a=d then none else(h.get? a).map λo=>(a,o)
end
end Att
namespace L2
open PySem PySem.Spec PyProof.Rows
theorem Z9g:∀{vs:List Value} {ns:List Int},IntsAre vs ns->Vals (ns.map V.int) vs
 |_,_,.nil=>.nil
 |_,_,.cons n t h=>.cons ⟨t,rfl⟩ (Z9g h)
noncomputable def Only(H:Hp):Prop:=∀b,H b=none\/∃o xs,H b=some (.frz o (.lst xs))
theorem ZeX{P:Program}{w:World}{K:Y00}{mg mb:Str->Option Value}{CX:CXT}{k:Nat}{fa a:Addr}{fd:FuncData}{x:Str}{sp:Sp}{s₁:Shared}{vs:List Value}{ns:List Int}
  (KX:K.In s₁.heap) (hns:s₁.heap.Ns mainGlobals mg) (hb:s₁.heap.Ns builtinsNs mb) (hbb:∀x:Str,x≠"__name__"->mb x=bootBuiltins x) (hlim:s₁.heap.NoLimit) (hg:s₁.gens=#[])
  (ha:s₁.heap.get? a=some {cls:=.type "list",data:=.seq vs.toArray}) (hi:IntsAre vs ns) (hl:ns.length≤sizeLine) (hr:Room k callerA)
  (F:∀base:Heap,K.In base->base.Ns mainGlobals mg->FnOk P w K mg base CX k fa fd [x] sp) (hbind:∀(s:Shared) (u:Value),BindsTo s fd ⟨[u],[]⟩ [(x,u)])
  (hsp:∀H:Hp,Only H->SqL K H a (ns.map V.int)->sp [.ref a] H (λv _=>v=.bl true) λ_ _ _=>False)
  (hCX:∀H e s',CX [] H s₁ (λ_ _ _=>False) e s'->False):
  codeAny (model P w) callerA (.call (.ref fa) ⟨[.ref a],[]⟩) (λr s'=>r=.ok (.ret (.bool true))/\OldK s₁.heap s'.heap/\s'.os=s₁.os/\AllBare s'.gens) s₁:=by
 have rv:=Z9g hi
 have lenV:=hi.length
 have core:∀H:Hp,Only H->SqL K H a (ns.map V.int)->HOk P w H s₁.heap->(∀b,H b≠none->b=a)->(H a≠none->K.lookup a=none)->
   codeAny (model P w) callerA (.call (.ref fa) ⟨[.ref a],[]⟩) (λr s'=>r=.ok (.ret (.bool true))/\OldK s₁.heap s'.heap/\s'.os=s₁.os/\AllBare s'.gens) s₁:=by
  intro H hO hS hok hA hK
  have base_of:∀{b:Addr} {o:Obj},s₁.heap.get? b=some o->H b=none->(hidT s₁.heap H).get? b=some o:=λe n=>Zfb e n
  have noA:∀{b:Addr} {o:Obj} {es:Array DictEntry} {ep:Nat},s₁.heap.get? b=some o->o.data=.dict es ep->H b=none:=fun{b o es ep} e d=>by
   cases q:H b with
   |none=>rfl
   |some u=>
    have e':b=a:=hA b (by rw[q];simp)
    subst e'
    rw[ha]at e;cases e
    have d':Y21 vs.toArray _=Data.dict es ep:=d
    cases d'
  have nsK:∀{b:Addr} {m:Str->Option Value},s₁.heap.Ns b m->(hidT s₁.heap H).Ns b m:=fun{b m} ⟨o,es,ep,e,d,r⟩=>⟨o,es,ep,base_of e (noA e d),d,r⟩
  have hKb:K.In (hidT s₁.heap H):=λb o e=>base_of (KX b o e) (by
   cases q:H b with
   |none=>rfl
   |some u=>
    have e':b=a:=hA b (by rw[q];simp)
    subst e'
    rw[hK (by rw[q];simp)]at e;cases e)
  have hM:Mod K mg (hidT s₁.heap H):=⟨hKb,nsK hns,⟨mb,nsK hb,hbb⟩,let⟨mc,h1,h2⟩:=hlim;⟨mc,nsK h1,h2⟩⟩
  have e0:Env0 P w K mg (hidT s₁.heap H) callerA [] s₁ H:=⟨rfl,hM,λb o e=>Zh4 e,Y26 (ZdM _ _),trivial,λb hb=>absurd (show b∈([]:List Addr)from hb) (by simp),hok,.of_eq hg⟩
  refine codeAny_mono ((F _ hKb (nsK hns)).run callerA [] s₁ H ⟨[.ref a],[]⟩ [.ref a] [.ref a] _ _ hr e0 (hbind s₁ (.ref a)) (.cons rfl .nil) (hsp H hO hS)) λr s' h=>?_
  cases r with
  |error e=>exact(hCX H e s' h).elim
  |ok fl=>
   cases fl with
   |next=>exact Y0G h
   |brk=>exact Y0G h
   |cont=>exact Y0G h
   |ret u=>
    obtain⟨v,H',os,bare,un,hok',r',q⟩:=h
    have q':v=.bl true:=q
    subst q'
    obtain rfl:u=Y0Y true:=r'
    refine⟨rfl,OldK.of_keep λb o e=>?_,os,bare⟩
    cases q:H b with
    |none=>exact un.keep b o e q (by intro z;exact absurd (show b∈([]:List Addr)from z) (by simp)) (by simp)
    |some u=>
     rcases hO b with z|⟨ob,xs,z⟩
     ·rw[q]at z;cases z
     ·have z2:=un.frzs b ob _ z
      obtain⟨e1,_⟩:=hok b _ z
      obtain⟨e2,_⟩:=hok' b _ z2
      rw[e]at e1;cases e1
      exact e2
 cases hk:K.lookup a with
 |some o=>
  have e:=KX a o hk
  rw[ha]at e
  cases e
  refine core (λ_=>none) (λ_=>.inl rfl) (.inr ⟨_,vs.toArray,_,hk,rfl,rfl,rfl,by rw[Y0e,lenV];exact hl,by simpa using rv⟩) (λb u z=>by have z':(none:Option HO)=some u:=z;cases z') (λb z=>absurd rfl z) λz=>absurd rfl z
 |none=>
  refine core (fun b=>if b=a then some (.frz {cls:=.type "list",data:=.seq vs.toArray} (.lst (ns.map V.int)))else none) (fun b=>?_) (.inl (.inr ⟨{cls:=.type "list",data:=.seq vs.toArray},if_pos rfl⟩)) (fun b u z=>?_) (fun b z=>?_) fun _=>hk
  ·by_cases hb:b=a
   ·exact .inr ⟨_,_,if_pos hb⟩
   ·exact .inl (if_neg hb)
  ·by_cases hb:b=a
   ·have z':=(if_pos hb).symm.trans z
    cases z'
    subst hb
    exact⟨ha,by rw[Y03];exact hl,vs,_,rv,ha⟩
   ·have z':=(if_neg hb).symm.trans z
    cases z'
  ·by_cases hb:b=a
   ·exact hb
   ·exact absurd (if_neg hb) z
end L2
namespace L2
open PySem PySem.Spec PyProof.Rows
noncomputable abbrev KOf{K:Y00}{h:Heap}(_:K.In h):Y00:=K
theorem walk_of{l:Y3d}{n k:Nat}{q:Program}{loose:List Str}{XP:(Str->Option Value)->Heap->Prop}{YP:World->Heap->Prop}{d:DefRec}{K:Params->Y00}{CX:World->CXT}{sp:World->Sp}{x:Str}
  (hn:l.most=some n) (hn2:n≤sizeLine) (hdf:d.params.defaults=[]) (hr:Room k callerA)
  (hY:∀(w:World) (h:Heap),YP w h->(K w.params).In h)
  (F:∀(w:World) (mg:Str->Option Value) (fa:Addr) (h:Heap),(K w.params).In h->h.Ns mainGlobals mg->mg d.name=some (.ref fa)->
   ∃fd:FuncData,(∀(s:Shared) (u:Value),BindsTo s fd ⟨[u],[]⟩ [(x,u)])/\
    ∀base:Heap,(K w.params).In base->base.Ns mainGlobals mg->FnOk l.prog w (K w.params) mg base (CX w) k fa fd [x] (sp w))
  (hsp:∀(w:World) (H:Hp) (a:Addr) (ns:List Int),ns.length≤n->Only H->SqL (K w.params) H a (ns.map V.int)->sp w [.ref a] H (λv _=>v=.bl true) λ_ _ _=>False)
  (hCX:∀(w:World) (H:Hp) (s:Shared) (e:Value) (s':Shared),CX w [] H s (λ_ _ _=>False) e s'->False):
  PySem.W.WalkO q loose XP YP l.row.toRowW d [] (λf vs=>PySem.call f vs):=by
 refine Att.attach_call hn hdf λw s₀ s₁ mg mb fa o pm cd doc a vs ns G Y ho hd hcd hmg hobj hints hlen hg=>?_
 have KX:=hY w _ Y
 obtain⟨fd,hb,hF⟩:=F w mg fa _ KX G.T.g hmg
 exact ZeX KX G.T.g G.T.b G.T.builtins G.T.nolimit hg hobj hints (Y0N hlen hn2) hr hF hb (λH hO hS=>hsp w H a ns hlen hO hS) λH e s'=>hCX w H s₁ e s'
end L2
/- THE LAST THEOREM (shape;LID,My.*are yours):
  My.Adr:a structure of the addresses that your layer names (classes,functions);My.Txt K t:a structure(Prop) of the equations over K;
  My.txt_mk:{K} {implicit addresses ..} (e1:nsIn K mainGlobals "law"=some (some (.ref f))) (e2:K.lookup f=some ⟨oc,od,.func (fnOf "law" "law" params body scope dV kV doc pm an cdv ct),sl⟩) (e3:codeIn K cdv "law"=true) ..:∃t,My.Txt K t
set_option maxRecDepth 100000 in
set_option maxHeartbeats 0 in
theorem PySem.Challenge.cw_LID_holds : PySem.Challenge.rw_LID.Holds := by
 w_on;o_law;k_head;(case hw=>w_witness2)
 k_fill
 refine L2.walk_of (l:=PySem.Challenge.rw_LID) (n:=63) (k:=40) (x:="script") (CX:=fun w=>..) (sp:=fun _=>My.sp_law) rfl (by decide) rfl ⟨rfl,by decide,by decide⟩ (fun w h Y=>PySem.W.kIn_of Y) ?F ?S ?C
 case F=>
  intro w mg fa h KX G hmg
  have T:∃t,My.Txt (L2.KOf KX) t:=by
   dsimp only[L2.KOf] -- K must stand as «<heap const> w.params» for k_is
   refine' My.txt_mk ?e1 ?e2 ?e3 ..
   (case e1=>PySem.W.k_is) -- in the order:a name->its address->its object->its parts
   (case e2=>PySem.W.k_is)
   ..
  obtain⟨t,T⟩:=T
  have e0:=hmg.symm.trans (Y0T KX G T.law)
  cases e0 -- fa is the law's own address
  exact⟨_,λs u=>.of_eq rfl,λbase kb nb=>My.law_fn T kb nb⟩ -- if «.of_eq rfl» comes too early:refine' ⟨_,?b,λbase kb nb=>My.law_fn T kb nb⟩;exact λs u=>.of_eq rfl
 case S=>exact λw H a ns hl hO hS=>..
 case C=>exact ..
(the tactic k_is has no namespace:write k_is) -/
namespace L2
open PySem PySem.Spec PyProof.Rows
noncomputable def Z64(s:Stmt):Arguments:=match s with
 |.FunctionDef _ a _ _ _ _ _ _ _ _=>a
 |_=>{posonlyargs:=[],args:=[],vararg:=none,kwonlyargs:=[],kw_defaults:=[],kwarg:=none,defaults:=[]}
noncomputable def Z07(s:Stmt):List Stmt:=match s with
 |.FunctionDef _ _ b _ _ _ _ _ _ _=>b
 |_=>[]
noncomputable def Z00(s:Stmt):Scope:=match s with
 |.FunctionDef _ _ _ _ _ _ sc _ _ _=>sc
 |_=>{kind:=.function,names:=[],isGenerator:=false,isCoroutine:=false}
noncomputable abbrev CX0:CXT:=λ_ _ _ _ _ _=>False
noncomputable abbrev E0:XK:=λ_ _ _=>False
theorem ZlC{X:Cx}:Zag CX0 X E0:=λ_ _ _ _ _ _ _ h=>h.elim
structure Fun (K:Y00) (x qual:Str) (st:Stmt) (f:Addr) (fd:FuncData):Prop where
 ex:∃(oc:Value) (od:Option Addr) (kV doc pm:Value) (an:Option Addr) (cdv ct:Value) (osl:Array (Option Value)),
  fd=Y1Q x qual (Z64 st) (Z07 st) (Z00 st) .none kV doc pm an cdv ct/\K.lookup f=some ⟨oc,od,.func fd,osl⟩/\Y3s K cdv qual=true
 kp:Y0V K (.ref f)=true
section
variable{P:Program}{w:World}{K:Y00}{mg:Str->Option Value}{base:Heap}
theorem Fun.ok{x qual:Str}{st:Stmt}{f:Addr}{fd:FuncData}{N ps:List Str}{k:Nat}{sp:Sp}(F:Fun K x qual st f fd)(S:FnScope N ps (Z00 st))(len:∀vs H Q E,sp vs H Q E->vs.length=ps.length)
  (hbody:∀(cdv:Value) (A:Around) (outer:List Env) (s:Shared) (H:Hp) (vs:List V) (Q:VK) (E:XK),Room k (A.deeper (envOfC qual (Z00 st) s.heap.objs.size f cdv))->sp vs H Q E->
   ∃t,PSs (cxOf CX0 P w K mg base N qual (Z00 st) f cdv A outer s H E).nox (Z07 st) t/\t {nx:=λ_ H'=>Q .non H',rt:=Q} (start N vs) H):FnOk P w K mg base CX0 (k+1) f fd ps sp:=by
 obtain⟨oc,od,kV,doc,pm,an,cdv,ct,osl,rfl,lk,hcd⟩:=F.ex
 refine Zk0 lk hcd S len λA outer s H vs Q E hr hsp=>?_
 obtain⟨t,h,q⟩:=hbody cdv A outer s H vs Q E hr hsp
 exact⟨t,h.nox,q⟩
theorem Fun.binds{x qual:Str}{st:Stmt}{f:Addr}{fd:FuncData}{ps:List Str}(F:Fun K x qual st f fd)
  (h:∀(kV doc pm:Value) (an:Option Addr) (cdv ct:Value) (us:List Value),us.length=ps.length->bindArgs (Y1Q x qual (Z64 st) (Z07 st) (Z00 st) .none kV doc pm an cdv ct) ⟨us,[]⟩=pure (ps.zip us)):Binds K fd ps []:=by
 obtain⟨oc,od,kV,doc,pm,an,cdv,ct,osl,rfl,lk,hcd⟩:=F.ex
 exact .all (h kV doc pm an cdv ct)
theorem fun_mk{x qual:Str}{st:Stmt}{f:Addr}{oc:Value}{od an:Option Addr}{osl:Array (Option Value)}{kV doc pm cdv ct:Value}(l:K.lookup f=some ⟨oc,od,.func (Y1Q x qual (Z64 st) (Z07 st) (Z00 st) .none kV doc pm an cdv ct),osl⟩)
  (c:Y3s K cdv qual=true) (k:Y0V K (.ref f)=true):Fun K x qual st f (Y1Q x qual (Z64 st) (Z07 st) (Z00 st) .none kV doc pm an cdv ct):=⟨⟨oc,od,kV,doc,pm,an,cdv,ct,osl,rfl,l,c⟩,k⟩
end
section
variable{X:Cx}
theorem pv(i:Nat){x:Str}{pos:Pos}(hN:X.N[i]?=some x:=by rfl) (hv:Vis X.env.scope x:=by first|exact Or.inl rfl|exact Or.inr (Or.inl rfl)|exact Or.inr (Or.inr rfl)) (hd:(x==("__debug__":Str))=false:=by decide)
  (hcd:(x==("__classdict__":Str))=false:=by decide):PE X (.Name x pos) (tVar i):=Z9v hN hv hd hcd
end
noncomputable def Same(H H':Hp):Prop:=∀b o,H b=some o->H' b=some o
theorem Same.trans{H H1 H2:Hp}(a:Same H H1)(b:Same H1 H2):Same H H2:=λc o h=>b c o (a c o h)
theorem Same.free{H H':Hp}(e:Same H H'){l:Addr}(h:H' l=Option.none):H l=Option.none:=by
 cases q:H l with
 |none=>rfl
 |some o=>
  rw[e l o q]at h
  cases h
end L2
namespace L2
open PySem PySem.Spec PyProof.Rows
section
variable{X:Cx}
theorem Zeb:CallR X (.builtin "len") (fun xs H Q=>∃a kvs,xs=[V.ref a]/\H a=some (.dK kvs)/\Q (.int kvs.length) H):=by
 intro pins s σ H xs us Q I r h
 obtain⟨a,kvs,rfl,ha,q⟩:=h
 obtain⟨u,rfl,ru⟩:=Z4M r
 cases ru
 exact Zm1 I (.inl ha) λt s' I'=>⟨.int kvs.length,H,I',⟨t,rfl⟩,q⟩
end
section
variable{κ:Type} [DecidableEq κ]
theorem Zda:∀{l:List κ} {k:κ},l.Nodup->¬k∈l->(l++[k]).Nodup
 |[],k,_,_=>by simp
 |a::r,k,h,hk=>by
  obtain⟨h1,h2⟩:=Y1j.mp h
  show(a::(r++[k])).Nodup
  refine Y1j.mpr ⟨λm=>?_,Zda h2 λm=>hk (Y0d.mpr (Or.inr m))⟩
  rcases Y1a.mp m with q|q
  ·exact h1 q
  ·exact hk (Y0d.mpr (Or.inl (Y1c.mp q).symm))
end
end L2
namespace L2
open PySem PySem.Spec PyProof.Rows
theorem Z1U:bootBuiltins "isinstance"=some (.builtin "isinstance"):=by decide+kernel
section
variable{X:Cx}
noncomputable def Zer(i j:Int):Prop:=0<j/\j<2^256
theorem ZbY{j:Int}(h:Zer i j):j.natAbs.log2<9000:=by
 have h1:(0:Int)<j:=h.1
 have h2:j<2^256:=h.2
 have h0:j.natAbs≠0:=by lia
 have:j.natAbs<2^256:=by lia
 have:=(Nat.log2_lt h0).mpr this
 lia
theorem ZeM:OpR X (binaryOp .FloorDiv) (rI Zer λi j=>.int (i/j)):=opI λi j _ _ _ _ _ hc q=>by
 have h1:(0:Int)<j:=hc.1
 exact floordiv_int (by lia) (by rw[Int.fdiv_eq_ediv_of_nonneg i (by lia)];exact q) (.inl (PyProof.noPylong_of_log2 (ZbY hc)))
theorem Zb1:CallR X (.builtin "isinstance") (fun xs H Q=>∃x c t b,xs=[x,.ty c]/\TyOf X.K H x t/\Y17 X.K t (.type c)=some b/\Q (.bl b) H):=by
 intro pins s σ H xs us Q I r h
 obtain⟨x,c,t,b,rfl,ty,e,q⟩:=h
 obtain⟨u,w',rfl,ru,rw'⟩:=Zak r
 cases rw'
 exact Zdo I ru ty e λtk=>⟨.bl b,H,I.tok tk,rfl,q⟩
end
mutual
inductive Dp (K:Y00) (H:Hp):V->PyData->Prop
 |non:Dp K H .non .none
 |bl (b:Bool):Dp K H (.bl b) (.bool b)
 |int (i:Int):Dp K H (.int i) (.int i)
 |str (x:Str):Dp K H (.str x) (.str x)
 |lst {a:Addr} {xs:List V} {ds:List PyData}:SqL K H a xs->DpAll K H xs ds->Dp K H (.ref a) (.list ds)
 |tup {a:Addr} {xs:List V} {ds:List PyData}:SqT K H a xs->DpAll K H xs ds->Dp K H (.ref a) (.tuple ds)
inductive DpAll (K:Y00) (H:Hp):List V->List PyData->Prop
 |nil:DpAll K H [] []
 |cons {x:V} {xs:List V} {d:PyData} {ds:List PyData}:Dp K H x d->DpAll K H xs ds->DpAll K H (x::xs) (d::ds)
end
section
variable{X:Cx}{pins:List (Addr×Obj)}{σ:St}{H:Hp}{s:Shared}
mutual
theorem Dp.reads(I:Inv X pins σ H s):∀{x:V} {d:PyData} {u:Value},Dp X.K H x d->RelV x u->∃as,Reads s.heap u d as
 |_,_,_,.non,r=>by cases r;exact⟨_,.none⟩
 |_,_,_,.bl b,r=>by cases r;exact⟨_,.bool b⟩
 |_,_,_,.int i,r=>by obtain⟨t,rfl⟩:=r;exact⟨_,.int i t⟩
 |_,_,_,.str x,r=>by obtain⟨t,rfl⟩:=r;exact⟨_,.str x t⟩
 |_,_,_,.lst hq ha,r=>by
  cases r
  obtain⟨its,rv,pl,hz⟩:=I.list hq
  obtain⟨as,rs⟩:=DpAll.reads I ha rv
  obtain⟨o,ho,hc,n,hd⟩:=pl.isList
  exact⟨_,.list ho hc hd (by simpa using rs)⟩
 |_,_,_,.tup hq ha,r=>by
  cases r
  obtain⟨its,rv,pl,hz⟩:=I.tuple hq
  obtain⟨as,rs⟩:=DpAll.reads I ha rv
  obtain⟨o,ho,hc,n,hd⟩:=pl
  exact⟨_,.tuple ho hc hd (by simpa using rs)⟩
theorem DpAll.reads(I:Inv X pins σ H s):∀{xs:List V} {ds:List PyData} {us:List Value},DpAll X.K H xs ds->Vals xs us->∃as,ReadsAll s.heap us ds as
 |_,_,_,.nil,r=>by cases r;exact⟨_,.nil⟩
 |_,_,_,.cons h t,r=>by
  cases r with
  |cons r1 r2=>
   obtain⟨as,a⟩:=Dp.reads I h r1
   obtain⟨bs,b⟩:=DpAll.reads I t r2
   exact⟨_,.cons a b⟩
end
end
section
variable{X:Cx}
end
end L2
namespace L2
end L2
namespace L2
open PySem PySem.Spec PyProof.Rows
noncomputable def clOf(cells:List (Str×Addr)):List (Str×NameKind)->List (Str×Addr)->List (Str×Addr)
 |[],acc=>acc
 |(n,k)::r,acc=>if k=.free then(match cells.lookup n with|some a=>clOf cells r ((n,a)::acc)|none=>clOf cells r acc)else clOf cells r acc
theorem Z40(cells:List (Str×Addr)):∀(names:List (Str×NameKind)) (acc:List (Str×Addr)) (x:Str) (c:Addr),(clOf cells names acc).lookup x=some c->acc.lookup x=some c\/cells.lookup x=some c
 |[],acc,x,c,h=>.inl h
 |(n,k)::r,acc,x,c,h=>by
  unfold clOf at h
  by_cases hk:k=.free
  ·rw[if_pos hk]at h
   cases hc:cells.lookup n with
   |none=>rw[hc]at h;exact Z40 cells r acc x c h
   |some a=>
    rw[hc]at h
    rcases Z40 cells r _ x c h with q|q
    ·by_cases hx:x=n
     ·subst hx
      simp at q
      subst q
      exact .inr hc
     ·have hb:(x==n)=false:=beq_eq_false_iff_ne.mpr hx
      simp only[Y18,hb]at q
      exact .inl q
    ·exact .inr q
  ·rw[if_neg hk]at h
   exact Z40 cells r acc x c h
theorem Z5N(cells:List (Str×Addr)):∀(names:List (Str×NameKind)) (acc:List (Str×Addr)) (x:Str) (c:Addr),cells.lookup x=some c->acc.lookup x=some c->(clOf cells names acc).lookup x=some c
 |[],acc,x,c,_,h=>h
 |(n,k)::r,acc,x,c,h,ha=>by
  unfold clOf
  by_cases hk:k=.free
  ·rw[if_pos hk]
   cases hc:cells.lookup n with
   |none=>exact Z5N cells r acc x c h ha
   |some a=>
    refine Z5N cells r _ x c h ?_
    by_cases hx:x=n
    ·subst hx
     rw[h]at hc;cases hc
     simp
    ·have hb:(x==n)=false:=beq_eq_false_iff_ne.mpr hx
     simp only[Y18,hb]
     exact ha
  ·rw[if_neg hk]
   exact Z5N cells r acc x c h ha
theorem Z5O(cells:List (Str×Addr)):∀(names:List (Str×NameKind)) (acc:List (Str×Addr)) (x:Str) (c:Addr),(x,Y0J)∈names->cells.lookup x=some c->(clOf cells names acc).lookup x=some c
 |[],acc,x,c,h,_=>by cases h
 |(n,k)::r,acc,x,c,h,ha=>by
  unfold clOf
  rcases Y0d.mp h with e|h
  ·cases e
   rw[if_pos rfl,ha]
   exact Z5N cells r _ _ c ha (by simp)
  ·by_cases hk:k=.free
   ·rw[if_pos hk]
    cases hc:cells.lookup n with
    |none=>exact Z5O cells r acc x c h ha
    |some a=>exact Z5O cells r _ x c h ha
   ·rw[if_neg hk]
    exact Z5O cells r acc x c h ha
theorem Z3Z{env:Env}(f:Str×NameKind->List (Str×Addr)->Sem (ForInStep (List (Str×Addr))))
  (hf:∀n k r,f (n,k) r=if(k==Y0J)=true then(cellOf env n >>= λa=>pure (Y2s ((n,a)::r)))else pure (Y2s r)):
  ∀(names:List (Str×NameKind)) (acc:List (Str×Addr)),(∀y∈names,y.2=.free->∃c,env.cells.lookup y.1=some c)->(forIn names acc f:Sem (List (Str×Addr)))=pure (clOf env.cells names acc)
 |[],acc,_=>by rw[List.forIn_nil];rfl
 |(n,k)::r,acc,h=>by
  rw[List.forIn_cons,hf]
  have hr:∀y∈r,y.2=.free->∃c,env.cells.lookup y.1=some c:=λy hy=>h y (Y0g _ hy)
  by_cases hk:k=.free
  ·subst hk
   obtain⟨c,hc⟩:=h (n,.free) Y0l rfl
   have hc':env.cells.lookup n=some c:=hc
   have e:cellOf env n=pure c:=by unfold cellOf;rw[hc']
   rw[if_pos (by decide),e,pure_bind,pure_bind]
   show forIn r ((n,c)::acc) f=_
   rw[Z3Z f hf r _ hr]
   simp only[clOf,if_pos,hc']
  ·have hb:(k==Y0J)=false:=by simpa using hk
   rw[hb,if_neg Y05,pure_bind]
   show forIn r acc f=_
   rw[Z3Z f hf r _ hr]
   simp only[clOf,if_neg hk]
theorem Z8v{scope:Scope}{env:Env}(h:∀y∈scope.names,y.2=.free->∃c,env.cells.lookup y.1=some c):closureFor scope env=pure (clOf env.cells scope.names []):=by
 unfold closureFor
 simp only[bind_pure]
 exact Z3Z _ (λn k r=>by
  by_cases hk:(k==Y0J)=true
  ·simp only[hk,if_true]
  ·simp only[hk,if_false]) scope.names [] h
noncomputable def Z8u(osc scope:Scope)(N own:List Str)(fr:List Nat):Bool:=
 decide (scope.kind=.function)&&scope.names.all (λy=>decide (y.2≠.cell))&&scope.names.all (λy=>decide (y.2=.local->scope.names.lookup y.1=some .local))&&
 scope.names.all (λy=>decide (y.2=.free->osc.names.lookup y.1=some .cell\/osc.names.lookup y.1=some .free))&&
 fr.all (λi=>match N[i]? with|some x=>decide ((x,Y0J)∈scope.names/\scope.names.lookup x=some .free/\(osc.names.lookup x=some .cell\/osc.names.lookup x=some .free))|none=>false)
structure CompOk (osc scope:Scope) (N:List Str) (fr:List Nat):Prop where
 kind:scope.kind=.function
 nocell:∀y∈scope.names,y.2≠.cell
 names:∀y∈scope.names,y.2=.local->scope.names.lookup y.1=some .local
 has:∀y∈scope.names,y.2=.free->osc.names.lookup y.1=some .cell\/osc.names.lookup y.1=some .free
 frees:∀i∈fr,∃x,N[i]?=some x/\(x,Y0J)∈scope.names/\scope.names.lookup x=some .free/\(osc.names.lookup x=some .cell\/osc.names.lookup x=some .free)
theorem Z2Q{osc scope:Scope}{N own:List Str}{fr:List Nat}(h:Z8u osc scope N own fr=true):CompOk osc scope N fr:=by
 unfold Z8u at h
 simp only[Y04,Y2Y,decide_eq_true_eq]at h
 obtain⟨⟨⟨⟨h1,h2⟩,h3⟩,h4⟩,h5⟩:=h
 refine⟨h1,h2,h3,h4,λi hi=>?_⟩
 have q:=h5 i hi
 cases e:N[i]? with
 |none=>rw[e]at q;simp at q
 |some x=>rw[e]at q;simp only[decide_eq_true_eq]at q;exact⟨x,rfl,q⟩
noncomputable def sC(own:List Str)(fr:List Nat)(σ:St):St:=own.map (λ_=>none)++fr.map (λi=>σ.getD i none)
noncomputable def nC(own:List Str)(fr:List Nat)(N:List Str):List Str:=own++fr.map (λi=>N.getD i Y3b)
noncomputable def cxC(X:Cx)(scope:Scope)(own:List Str)(fr:List Nat)(C:Addr)(fp:List Addr)(s₃:Shared)(H₃:Hp):Cx:=
 {X with N:=nC own fr X.N,s₀:=s₃,H₀:=H₃,env:=compEnvC scope (clOf X.env.cells scope.names []) C X.env,outer:=X.stack,ex:=fp,fn:=λ_=>false,xe:=λ_ _=>False}
noncomputable def Keep(σ σ':St):Prop:=σ.length=σ'.length/\∀(i:Nat) (v:V),σ[i]?=some (some v)->σ'[i]?=some (some v)
noncomputable def tAll:TT:=λ_ H Q=>Q true H
noncomputable def PTs(X:Cx)(ifs:List Expr)(t:TT):Prop:=(ifs=[]/\t=tAll)\/∃c,ifs=[c]/\PT X c t
section
variable{prog:Program}{w:World}{A:Around}{R:Result->Shared->Prop}{s:Shared}
theorem Z9U{elt target iter:Expr}{ifs:List Expr}{scope:Scope}{pos:Pos}{it acc:Value}{env:Env}(I:Nat->Shared->Prop)
  (turn:∀n s,I n s->wpAny (model prog w) A (pyNext it) (λr s₁=>match r with
   |none=>R (.ok .next) s₁
   |some v=>wpAny (model prog w) A (letOwnedTupleGo target it v) (λ_ s₁'=>wpAny (model prog w) A (assign target env v) (λ_ s₂=>
     wpAny (model prog w) A (forIn ifs true λc r=>if r=true then do let ok<- isTrue c env (eval c env);pure (Y2s ok)else pure (Y2s r)) (λok s₃=>
      if ok=true then wpAny (model prog w) A (eval elt env) (λx s₄=>
       wpAny (model prog w) A (call (.builtin "list.append") [acc,x]) (fun _ s₅=>∃m,m<n/\I m s₅) (fun _ _=>False) s₄) (fun _ _=>False) s₃
      else∃m,m<n/\I m s₃) (λ_ _=>False) s₂) (λ_ _=>False) s₁') (λ_ _=>False) s₁) (λ_ _=>False) s)
  (n:Nat) (h:I n s):
  codeAny (model prog w) A (.compLoop (.ListComp elt [⟨target,iter,ifs,0⟩] scope pos) 0 it acc env) R s:=by
 refine codeAny_loop rfl I (λn s hI=>?_) n h
 show wpAny _ A ((compTurn (.ListComp elt [⟨target,iter,ifs,0⟩] scope pos) 0 it acc env).onRaise (λx=>do noteFrame x env;theTreesLotGoes x)) _ _ s
 refine wpAny_noted ?_
 rw[compTurn_list]
 refine wpAny_bind (wpAny_standAt (wpAny_bind (wpAny_mono (turn n s hI) (λr s₁ h₁=>?_) λ_ _ h'=>h'.elim)))
 cases r with
 |none=>exact wpAny_pure h₁
 |some v=>
  refine wpAny_bind (wpAny_mono h₁ (λ_ s₁' h₁'=>?_) λ_ _ h'=>h'.elim)
  refine wpAny_bind (wpAny_mono h₁' (λ_ s₂ h₂=>wpAny_bind (wpAny_mono h₂ (λok s₃ h₃=>?_) λ_ _ h'=>h'.elim)) λ_ _ h'=>h'.elim)
  cases ok with
  |false=>exact wpAny_pure ⟨rfl,h₃⟩
  |true=>
   exact wpAny_bind (wpAny_bind (wpAny_mono h₃ (λx s₄ h₄=>wpAny_bind (wpAny_mono h₄ (λ_ s₅ h₅=>wpAny_pure (wpAny_pure ⟨rfl,h₅⟩)) λ_ _ h'=>h'.elim)) λ_ _ h'=>h'.elim))
end
theorem Zkb{σ:St}{H:Hp}{Q:Bool->Hp->Prop}(h:Q true H):tAll σ H Q:=h
section
variable{X:Cx}{pins:List (Addr×Obj)}{σ:St}{H1:Hp}{s2:Shared}{tg elt iter:Expr}{ifs:List Expr}{scope:Scope}{pos:Pos}{own:List Str}{fr:List Nat}{g:TG}{tt:TT}{te:TE}
theorem Z6c{scope:Scope}{env:Env}{x:Str}:∀{names:List (Str×NameKind)},names.lookup x=some .free->
  (names.map fun(n,k)=>if(k==Y0J&&env.scope.kind==.function&&env.kindOf n==some .cell)then(n,Y29)else(n,k)).lookup x=some .cell\/
  (names.map fun(n,k)=>if(k==Y0J&&env.scope.kind==.function&&env.kindOf n==some .cell)then(n,Y29)else(n,k)).lookup x=some .free
 |[],h=>by simp at h
 |(n,k)::r,h=>by
  have ih:=@Z6c scope env x r
  show List.lookup x ((if(k==Y0J&&env.scope.kind==.function&&env.kindOf n==some .cell)=true then(n,Y29)else(n,k))::_)=_\/List.lookup x ((if(k==Y0J&&env.scope.kind==.function&&env.kindOf n==some .cell)=true then(n,Y29)else(n,k))::_)=_
  cases hx:x==n with
  |true=>
   simp only[Y18,hx]at h
   cases h
   by_cases hc:(Y0J==Y0J&&env.scope.kind==.function&&env.kindOf n==some .cell)=true
   ·rw[if_pos hc];simp only[Y18,hx];exact .inl trivial
   ·rw[if_neg hc];simp only[Y18,hx];exact .inr trivial
  |false=>
   simp only[Y18,hx]at h
   by_cases hc:(k==Y0J&&env.scope.kind==.function&&env.kindOf n==some .cell)=true
   ·rw[if_pos hc];simp only[Y18,hx];exact ih h
   ·rw[if_neg hc];simp only[Y18,hx];exact ih h
theorem Z6b{scope:Scope}{env:Env}(hn:∀y∈scope.names,y.2≠.cell){x:Str}:∀{names:List (Str×NameKind)},(∀y∈names,y.2≠.cell)->
  ((names.map fun(n,k)=>if(k==Y0J&&env.scope.kind==.function&&env.kindOf n==some .cell)then(n,Y29)else(n,k)).lookup x=some .cell\/
  (names.map fun(n,k)=>if(k==Y0J&&env.scope.kind==.function&&env.kindOf n==some .cell)then(n,Y29)else(n,k)).lookup x=some .free)->(x,Y0J)∈names
 |[],_,h=>by simp at h
 |(n,k)::r,hnc,h=>by
  have ih:=@Z6b scope env hn x r (λy hy=>hnc y (Y0g _ hy))
  have hk:k≠.cell:=hnc (n,k) Y0l
  simp only[Y0b]at h
  cases hx:x==n with
  |true=>
   have e:x=n:=eq_of_beq hx
   subst e
   by_cases hc:(k==Y0J&&env.scope.kind==.function&&env.kindOf x==some .cell)=true
   ·have:k=.free:=by
     simp only[Y04,beq_iff_eq]at hc
     exact hc.1.1
    subst this
    exact Y0l
   ·rw[if_neg hc]at h
    simp at h
    rcases h with h|h
    ·exact absurd h hk
    ·subst h;exact Y0l
  |false=>
   by_cases hc:(k==Y0J&&env.scope.kind==.function&&env.kindOf n==some .cell)=true
   ·rw[if_pos hc]at h
    simp only[Y18,hx]at h
    exact Y0g _ (ih h)
   ·rw[if_neg hc]at h
    simp only[Y18,hx]at h
    exact Y0g _ (ih h)
theorem Zcd{C:Addr}{fp:List Addr}{s3:Shared}{H3:Hp}{h4:Heap}{tk:Nat}{m:Str->Option Value}(ok:CompOk X.env.scope scope X.N fr)(I3:Inv X pins σ H3 s3)(hC:C=s3.heap.objs.size)(hf:∀b∈fp,FpOk X pins H3 b)(hfo:∀b∈fp,∃o,s3.heap.get? b=some o)
  (ns:h4.Ns C m) (kp:∀b o,s3.heap.get? b=some o->h4.get? b=some o):
  Inv (cxC X scope own fr C fp s3 H3) pins (sC own fr σ) H3 {s3 with heap:=h4,toks:=tk}:=by
 have cellsub:∀x c,(clOf X.env.cells scope.names []).lookup x=some c->X.env.cells.lookup x=some c:=λx c h=>(Z40 _ _ _ _ _ h).elim (λz=>by simp at z) id
 have cellt:∀x c,X.env.cells.lookup x=some c->c<s3.heap.objs.size:=λx c e=>let⟨v,q⟩:=I3.cell x c e;q.lt
 have fplt:∀b∈fp,b<s3.heap.objs.size:=λb hb=>let⟨o,e⟩:=hfo b hb;Y09 e
 have kindOf_of:∀x,(X.env.scope.names.lookup x=some .cell\/X.env.scope.names.lookup x=some .free)->∃c,X.env.cells.lookup x=some c:=λx h=>I3.ok.has x h
 refine⟨⟨I3.ok.mod,ok.kind,I3.ok.glob,I3.ok.blt,Y26 hC.symm,λx y c h1 h2=>I3.ok.inj x y c (cellsub x c h1) (cellsub y c h2),λx hx=>?_,λx c z=>?_,I3.ok.hd,I3.ok.frames,.inl rfl,λb hb=>⟨?_,λx c e=>?_⟩,λb o e=>I3.bs b o e,Y0N I3.ok.bsz I3.sz,λb o e hb=>?_,λb hb hz=>?_,I3.stack,λb hb=>I3.stkFree b hb⟩,
  rfl,I3.bare,Un.kept kp,⟨m,ns,λi x v e1 e2 e3=>?_⟩,λx c e=>?_,?_,λx c e=>I3.freeC x c (cellsub x c e),λp hp=>?_,I3.hok.kept kp,?_⟩
 · -- has
  have hm:(x,Y0J)∈scope.names:=Z6b (scope:=scope) (env:=X.env) ok.nocell ok.nocell hx
  obtain⟨c,hc⟩:=kindOf_of x (ok.has _ hm rfl)
  exact⟨c,Z5O _ _ _ _ _ hm hc⟩
 ·exact absurd z Y05
 ·exact Y0f (by rw[hC];exact fplt b hb)
 ·exact(hf b hb).2.2.2.2.1 x c (cellsub x c e)
 ·rcases(hf b hb).2.2.2.1 with z|z
  ·exact I3.ok.noex b o e z
  ·exact absurd (Y0y (Y09 e) (Y0N I3.ok.bsz z)) (Y1H _)
 ·rcases Y0d.mp (I3.stkSub b hz)with z|z
  ·exact(hf b hb).2.1 z
  ·exact(hf b hb).2.2.1 z
 · -- a free name's value
  have e2':(own.map (λ_=>(none:Option V))++fr.map (λi=>σ.getD i none))[i]?=some (some v):=e2
  have e1':(own++fr.map (λi=>X.N.getD i Y3b))[i]?=some x:=e1
  by_cases hi:i<own.length
  ·rw[Y0H (by simpa using hi),Y06]at e2'
   cases q:own[i]? with
   |none=>rw[q]at e2';cases e2'
   |some z=>rw[q]at e2';cases e2'
  ·rw[Y0S (by simpa using hi)]at e2'
   rw[Y0S (by simpa using hi)]at e1'
   simp only[Y03]at e2'
   rw[Y06]at e1' e2'
   cases q:fr[i - own.length]? with
   |none=>rw[q]at e2';cases e2'
   |some j=>
    rw[q]at e1' e2'
    obtain⟨y,hy,hm,hl,ho⟩:=ok.frees j (Y0i q)
    have ex:x=y:=by
     have:X.N.getD j Y3b=y:=by rw[Y0x,hy];rfl
     simp only[Option.map_some,this,Y2h]at e1'
     exact e1'.symm
    subst ex
    have ev:σ[j]?=some (some v):=by
     simp only[Option.map_some,Y2h]at e2'
     rw[Y0x]at e2'
     cases z:σ[j]? with
     |none=>rw[z]at e2';cases e2'
     |some o=>rw[z]at e2';cases e2';rfl
    obtain⟨m0,hn0,hl0⟩:=I3.loc
    obtain⟨u,ru,lk⟩:=hl0 j x v hy ev (.inr ho)
    refine⟨u,ru,.inr ⟨Z6c (scope:=scope) hl,?_⟩⟩
    rcases lk with⟨k1,_⟩|⟨_,c,hc,z⟩
    ·have k1':X.env.scope.names.lookup x=some .local:=k1
     rw[k1']at ho
     rcases ho with z|z<;>cases z
    ·exact⟨c,Z5O _ _ _ _ _ hm hc,z.keeps kp⟩
 ·obtain⟨v,z⟩:=I3.cell x c (cellsub x c e)
  exact⟨v,z.keeps kp⟩
 ·show H3 C=none
  exact I3.hok.fresh (Y26 hC.symm)
 ·obtain⟨e,n,ne,nf,d⟩:=I3.pin p hp
  refine⟨kp _ _ e,n,Y0f (by rw[hC];exact Y09 e),λz=>?_,d⟩
  rcases Y0d.mp (I3.stkSub p.1 z)with z|z
  ·exact ne z
  ·exact nf z
 ·show(own.map (λ_=>(none:Option V))++fr.map (λi=>σ.getD i none)).length=(own++fr.map (λi=>X.N.getD i Y3b)).length
  simp
end
end L2
namespace L2
open PySem PySem.Spec PyProof.Rows
section
variable{X:Cx}
theorem Ze6(hc:X.calm=true):CallR X (.builtin "min") (fun xs H Q=>∃(p:Addr) (ns:List Int),xs=[.ref p]/\SqL X.K H p (ns.map V.int)/\0<ns.length/\∀M,M∈ns->(∀a∈ns,M≤a)->Q (.int M) H):=by
 intro pins s σ H xs us Q I r h
 obtain⟨p,ns,rfl,hq,hne,q⟩:=h
 obtain⟨u,rfl,ru⟩:=Z4M r
 cases ru
 obtain⟨its,rv,pl,hz⟩:=I.list hq
 have hi:IntsAre its ns:=Z8q rv
 obtain⟨xs,e⟩:=hi.allInts.items
 have hns:ns=xs.toList.map (·.1):=by rw[<- hi.numsOf,<- nums_intItems,<- e]
 have hsz:0<xs.size:=by
  have h3:=hne;rw[hns,Y03,Y0c]at h3;exact h3
 have hl:=pl.isList
 rw[e]at hl
 refine min_intList (I.ok.hd hc) hl hsz λv h' tk hv hk=>?_
 obtain⟨t,rfl⟩:=intItems_at hv
 obtain⟨h1,h2⟩:=argBest_lt (numAt xs) (xs.size - 1)
 refine⟨.int _,H,I.kept hk,⟨t,rfl⟩,q _ ?_ λa ha=>?_⟩
 ·rw[hns,numAt_eq];exact getD_mem (by rw[Y03,Y0c];lia)
 ·rw[hns]at ha
  obtain⟨j,hj,rfl⟩:=mem_getD ha
  rw[Y03,Y0c]at hj
  rw[<- numAt_eq];exact h2 j (by lia)
theorem Ze8(hc:X.calm=true):CallR X (.builtin "max") (fun xs H Q=>∃(p:Addr) (ns:List Int),xs=[.ref p]/\SqL X.K H p (ns.map V.int)/\0<ns.length/\∀M,M∈ns->(∀a∈ns,a≤M)->Q (.int M) H):=by
 intro pins s σ H xs us Q I r h
 obtain⟨p,ns,rfl,hq,hne,q⟩:=h
 obtain⟨u,rfl,ru⟩:=Z4M r
 cases ru
 obtain⟨its,rv,pl,hz⟩:=I.list hq
 have hi:IntsAre its ns:=Z8q rv
 obtain⟨xs,e⟩:=hi.allInts.items
 have hns:ns=xs.toList.map (·.1):=by rw[<- hi.numsOf,<- nums_intItems,<- e]
 have hsz:0<xs.size:=by
  have h3:=hne;rw[hns,Y03,Y0c]at h3;exact h3
 have hl:=pl.isList
 rw[e]at hl
 refine max_intList (I.ok.hd hc) hl hsz λv h' tk hv hk=>?_
 obtain⟨t,rfl⟩:=intItems_at hv
 obtain⟨h1,h2⟩:=argBest_gt (numAt xs) (xs.size - 1)
 refine⟨.int _,H,I.kept hk,⟨t,rfl⟩,q _ ?_ λa ha=>?_⟩
 ·rw[hns,numAt_eq];exact getD_mem (by rw[Y03,Y0c];lia)
 ·rw[hns]at ha
  obtain⟨j,hj,rfl⟩:=mem_getD ha
  rw[Y03,Y0c]at hj
  rw[<- numAt_eq];exact h2 j (by lia)
end
section
variable{X:Cx}
end
end L2
namespace L2
open PySem PySem.Spec PyProof.Rows
section
variable{X:Cx}
end
end L2
namespace L2
open PySem PySem.Spec PyProof.Rows
section
variable{X:Cx}
theorem ZaA{z:Str}{i:Int}(hz:z.length≤16)(h0:-1000≤i)(h1:i≤1000):MulOk z i:=by
 refine⟨?_,λh2 _=>?_,λh2 _=>?_⟩
 ·rw[decide_eq_false (by lia),decide_eq_false (by lia)];rfl
 ·have hi:1≤i:=by lia
  have:(16:Int)≤(2^63 - 1)/i:=by
   rw[Int.le_ediv_iff_mul_le (by lia)]
   lia
  lia
 ·have:z.length*i.toNat≤16*1000:=Nat.mul_le_mul hz (by lia)
  have h3:z.length*i.toNat<2^20:=by lia
  generalize z.length*i.toNat=n at h3
  revert n
  intro n hn
  have hs:sizeLine=16777216:=by decide
  show decide (n>sizeLine)=false
  rw[hs]
  exact decide_eq_false (by lia)
theorem ZgZ:OpR X (binaryOp .Mult) (λx y H Q=>∃z i,x=.str z/\y=.int i/\z.length≤16/\ -1000≤i/\i≤1000/\Q (.str (Txt.mul z i)) H):=by
 intro pins s σ H x y v u Q I rx ry h
 obtain⟨z,i,rfl,rfl,hz,h0,h1,q⟩:=h
 obtain⟨t,rfl⟩:=rx
 obtain⟨t',rfl⟩:=ry
 exact SB.mul (ZaA hz h0 h1) (λt' k=>⟨.str (Txt.mul z i),H,I.tok _,⟨_,rfl⟩,q⟩)
theorem ZeN(hu:X.A.units<cLine):OpR X (compareOp .Eq) (λx y H Q=>∃a b xs,x=.ref a/\y=.ref b/\SqL X.K H a xs/\SqL X.K H b []/\Q (.bl xs.isEmpty) H):=by
 intro pins s σ H x y v u Q I rx ry h
 obtain⟨a,b,xs,rfl,rfl,ha,hb,q⟩:=h
 cases rx
 cases ry
 obtain⟨its,rv,pl,hz⟩:=I.list ha
 obtain⟨jts,rw',pl',_⟩:=I.list hb
 have hj:jts=[]:=Y1m rw'.length.symm
 subst hj
 cases xs with
 |nil=>
  have hi:its=[]:=Y1m rv.length.symm
  subst hi
  exact SeqAt.eq_listAt (e:=λ_=>true) pl.isList pl'.isList rfl hu (λj h1 _=>absurd h1 (Y3e j)) (Z0f I q rfl)
 |cons x r=>
  have hl:its.length=r.length+1:=by rw[<- rv.length];rfl
  exact SeqAt.eq_list_lengthsAt pl.isList pl'.isList (by simp;intro e;rw[e]at hl;simp at hl) hu (Z0f I q rfl)
theorem ZeL(hu:X.A.units<cLine):OpR X (compareOp .NotEq) (λx y H Q=>∃a b xs,x=.ref a/\y=.ref b/\SqL X.K H a xs/\SqL X.K H b []/\Q (.bl (!xs.isEmpty)) H):=by
 intro pins s σ H x y v u Q I rx ry h
 obtain⟨a,b,xs,rfl,rfl,ha,hb,q⟩:=h
 cases rx
 cases ry
 obtain⟨its,rv,pl,hz⟩:=I.list ha
 obtain⟨jts,rw',pl',_⟩:=I.list hb
 have hj:jts=[]:=Y1m rw'.length.symm
 subst hj
 cases xs with
 |nil=>
  have hi:its=[]:=Y1m rv.length.symm
  subst hi
  exact SeqAt.RcNeAt.lists (e:=λ_=>true) pl.isList pl'.isList rfl hu (λj h1 _=>absurd h1 (Y3e j)) X.prog X.w _ _ (Z0f I q rfl)
 |cons x r=>
  have hl:its.length=r.length+1:=by rw[<- rv.length];rfl
  exact SeqAt.RcNeAt.lists_lengths pl.isList pl'.isList (by simp;intro e;rw[e]at hl;simp at hl) hu X.prog X.w _ _ (Z0f I q rfl)
end
end L2
namespace L2
open PySem PySem.Spec PyProof.Rows
end L2
namespace L2
open PySem PySem.Spec PyProof.Rows
open AutoSeq1 (wpAny_loadPart')
open MeetsSeq MeetsSeq2 MeetsSeq3 SeqRoads2
noncomputable def AliP(P:Program)(w:World)(A:Around)(s:Shared)(y x:Value):Prop:=∀(E:Value->Shared->Prop) (Q:Bool->Shared->Prop),Q true s->wpAny (model P w) A (eqBool y x) Q E s
noncomputable def RcP(P:Program)(w:World)(A:Around)(s:Shared)(y x:Value):Prop:=∀(E Q:Value->Shared->Prop),Q (.bool true) s->wpAny (model P w) A (richCompare .Eq y x) Q E s
noncomputable def RnP(P:Program)(w:World)(A:Around)(s:Shared)(y x:Value):Prop:=∀(E Q:Value->Shared->Prop),Q (.bool false) s->wpAny (model P w) A (richCompare .NotEq y x) Q E s
section
variable{P:Program}{w:World}{A:Around}{s:Shared}{a b:Addr}{xs ys:Array Value}
theorem AliP.of_at{y x:Value}(h:SeqAt.EqAt A s y x true):AliP P w A s y x:=λE Q q=>h P w E Q q
theorem AliP.refs(h:RcP P w A s (.ref a) (.ref b)):AliP P w A s (.ref a) (.ref b):=by
 intro E Q q
 by_cases e:a=b
 ·subst e;exact SeqAt.EqAt.same _ P w E Q q
 ·unfold eqBool
  refine wpAny_holding (wpAny_ite_split (λz=>absurd (by injection (eq_of_beq z)) e) λ_=>?_)
  exact wpAny_bind (h E _ (wpAny_truthy_bool q))
theorem Ziy(ha:s.heap.IsTuple a xs)(hb:s.heap.IsTuple b ys)(hz:xs.size=ys.size)(hu:A.units<cLine)(he:∀p∈xs.toList.zip ys.toList,AliP P w A.in1 s p.1 p.2):RcP P w A s (.ref a) (.ref b):=by
 intro E Q q
 obtain⟨⟨c1,d1,t1,l1⟩,o1,k1,n1,e1⟩:=id ha
 obtain⟨⟨c2,d2,t2,l2⟩,o2,k2,n2,e2⟩:=id hb
 dsimp only at k1 e1 k2 e2
 subst k1 e1 k2 e2
 refine wpAny_richCompare_same_room (op:=.Eq) ⟨_,o1,rfl⟩ ⟨_,o2,rfl⟩ F.slot_tuple_eq (wpAny_call_entry F.slot_tuple_eq ⟨_,o1,rfl⟩ F.entry_tuple_eq ?_ (F.args_tuple_eq_2 _ _)) hu
 obtain⟨h0,g0,dd,tk,os⟩:=s
 have f2:=Y2Q
 wp_walk using wpAny_loadPart' o1,wpAny_loadPart' o2,wpAny_forIn_list _ (λrest r s'=>r.1=none/\s'=⟨h0,g0,dd,tk,os⟩/\∀p∈rest,AliP P w A.in1 ⟨h0,g0,dd,tk,os⟩ p.1 p.2) _
 case turn=>
  rintro⟨y,x⟩ rest r s' ⟨z1,rfl,m⟩
  refine wpAny_bind (m (y,x) Y0l _ _ ?_)
  wp_walk
  exact⟨rfl,rfl,λp hp=>m p (Y0g _ hp)⟩
 case fin=>
  rintro⟨r1,r2⟩ s' ⟨z1,rfl,-⟩
  dsimp only at z1
  subst z1
  wp_walk
  have tc:Y1f .Eq xs.size ys.size=.bool true:=by simp[Y1f,hz]
  rw[tc]
  exact⟨_,rfl,(λz=>nomatch z),q⟩
 case h=>exact⟨rfl,rfl,he⟩
theorem Zff{n1 n2:Nat}{d1 d2:Option Addr}{l1 l2:Array (Option Value)}(hz:xs.size=ys.size){R:Result->Shared->Prop}
  (o1:s.heap.get? a=some {cls:=.type "list",dict:=d1,data:=.seq xs n1,slots:=l1}) (o2:s.heap.get? b=some {cls:=.type "list",dict:=d2,data:=.seq ys n2,slots:=l2})
  (he:∀j (h1:j<xs.size) (h2:j<ys.size),AliP P w A.in1 s xs[j] ys[j]) (q:R (.ok (.ret (.bool true))) s):∀k i:Nat,xs.size - i=k->
  wpAny (model P w) A.in1 (Builtin.«list.__eq__.loop» ⟨[.ref a,.ref b,rawInt i,rawInt 2],[]⟩) (λfin s'=>match fin with|.done f=>R (.ok f) s'|.again c'=>c'.quiet=true/\codeAny (model P w) A c' R s') (λe s'=>R (.error e) s') s:=by
 obtain⟨h0,g0,dd,tk,os⟩:=s
 intro k
 induction k with
 |zero=>
  intro i hk
  wp_walk using wpAny_loadPart' o1,wpAny_loadPart' o2
  rw[show xs[((i:Nat):Int).toNat]?=none by simp;lia,show ys[((i:Nat):Int).toNat]?=none by simp;lia]
  wp_walk using wpAny_loadPart' o1,wpAny_loadPart' o2
  show R (.ok (.ret (.bool (xs.size==ys.size)))) _
  simpa [hz]using q
 |succ k ih=>
  intro i hk
  have h1:i<xs.size:=by lia
  have h2:i<ys.size:=by lia
  wp_walk using wpAny_loadPart' o1,wpAny_loadPart' o2
  rw[show xs[((i:Nat):Int).toNat]?=some xs[i] by simp[h1],show ys[((i:Nat):Int).toNat]?=some ys[i] by simp[h2]]
  refine wpAny_bind (he i h1 h2 _ _ ?_)
  wp_walk
  rw[show((i:Int)+1)=((i+1:Nat):Int) by push_cast;rfl]
  refine⟨plainId_quiet plain_eq_loop _,codeAny_builtin entry_eq_loop ?_⟩
  rw[Y0K plain_eq_loop _]
  exact ih (i+1) (by lia)
theorem Ziz(ha:s.heap.IsList a xs)(hb:s.heap.IsList b ys)(hz:xs.size=ys.size)(hu:A.units<cLine)(he:∀j (h1:j<xs.size) (h2:j<ys.size),AliP P w A.in1 s xs[j] ys[j]):RcP P w A s (.ref a) (.ref b):=by
 intro E Q q
 obtain⟨⟨c1,d1,t1,l1⟩,o1,k1,n1,e1⟩:=id ha
 obtain⟨⟨c2,d2,t2,l2⟩,o2,k2,n2,e2⟩:=id hb
 dsimp only at k1 e1 k2 e2
 subst k1 e1 k2 e2
 have t1:s.TypeIs (.ref a) "list":=⟨_,o1,rfl⟩
 refine wpAny_richCompare_same_room (op:=.Eq) t1 ⟨_,o2,rfl⟩ Y3u (wpAny_call (codeAny_call_builtin Y3u.plain F.entry_list_eq (Y3u.check _ _ _ _ _ _ _ _ t1 (F.args_list_eq_2 _ _) ?_))) hu
 obtain⟨h0,g0,dd,tk,os⟩:=s
 have f3:=Y36
 have nz:¬(xs.size != ys.size)=true:=by simp[hz]
 wp_walk using wpAny_loadPart' o1,wpAny_loadPart' o2
 refine⟨plainId_quiet plain_eq_loop _,codeAny_builtin entry_eq_loop ?_⟩
 rw[Y0K plain_eq_loop _]
 exact Zff (R:=wants (λv s'=>v≠.notImplemented/\Q v s') E) hz o1 o2 he (show Y0Y true≠.notImplemented/\Q (.bool true) _ from⟨(λz=>nomatch z),q⟩) _ 0 rfl
theorem Zh5(ha:s.heap.IsTuple a xs)(hb:s.heap.IsTuple b ys)(hz:xs.size=ys.size)(hu:A.units<cLine)(he:∀p∈xs.toList.zip ys.toList,AliP P w A.in1 s p.1 p.2):RnP P w A s (.ref a) (.ref b):=by
 intro E Q q
 obtain⟨⟨c1,d1,t1,l1⟩,o1,k1,n1,e1⟩:=id ha
 obtain⟨⟨c2,d2,t2,l2⟩,o2,k2,n2,e2⟩:=id hb
 dsimp only at k1 e1 k2 e2
 subst k1 e1 k2 e2
 refine wpAny_richCompare_same_room (op:=.NotEq) ⟨_,o1,rfl⟩ ⟨_,o2,rfl⟩ F.slot_tuple_ne (wpAny_call_entry F.slot_tuple_ne ⟨_,o1,rfl⟩ F.entry_tuple_ne ?_ (F.args_tuple_ne_2 _ _)) hu
 obtain⟨h0,g0,dd,tk,os⟩:=s
 have f2:=Y2Q
 wp_walk using wpAny_loadPart' o1,wpAny_loadPart' o2,wpAny_forIn_list _ (λrest r s'=>r.1=none/\s'=⟨h0,g0,dd,tk,os⟩/\∀p∈rest,AliP P w A.in1 ⟨h0,g0,dd,tk,os⟩ p.1 p.2) _
 case turn=>
  rintro⟨y,x⟩ rest r s' ⟨z1,rfl,m⟩
  refine wpAny_bind (m (y,x) Y0l _ _ ?_)
  wp_walk
  exact⟨rfl,rfl,λp hp=>m p (Y0g _ hp)⟩
 case fin=>
  rintro⟨r1,r2⟩ s' ⟨z1,rfl,-⟩
  dsimp only at z1
  subst z1
  wp_walk
  have tc:Y1f .NotEq xs.size ys.size=.bool false:=by simp[Y1f,hz]
  rw[tc]
  exact⟨_,rfl,(λz=>nomatch z),q⟩
 case h=>exact⟨rfl,rfl,he⟩
theorem ZeR{n1 n2:Nat}{d1 d2:Option Addr}{l1 l2:Array (Option Value)}(hz:xs.size=ys.size){R:Result->Shared->Prop}
  (o1:s.heap.get? a=some {cls:=.type "list",dict:=d1,data:=.seq xs n1,slots:=l1}) (o2:s.heap.get? b=some {cls:=.type "list",dict:=d2,data:=.seq ys n2,slots:=l2})
  (he:∀j (h1:j<xs.size) (h2:j<ys.size),AliP P w A.in1 s xs[j] ys[j]) (q:R (.ok (.ret (.bool false))) s):∀k i:Nat,xs.size - i=k->
  wpAny (model P w) A.in1 (Builtin.«list.__eq__.loop» ⟨[.ref a,.ref b,rawInt i,rawInt 3],[]⟩) (λfin s'=>match fin with|.done f=>R (.ok f) s'|.again c'=>c'.quiet=true/\codeAny (model P w) A c' R s') (λe s'=>R (.error e) s') s:=by
 obtain⟨h0,g0,dd,tk,os⟩:=s
 intro k
 induction k with
 |zero=>
  intro i hk
  wp_walk using wpAny_loadPart' o1,wpAny_loadPart' o2
  rw[show xs[((i:Nat):Int).toNat]?=none by simp;lia,show ys[((i:Nat):Int).toNat]?=none by simp;lia]
  wp_walk using wpAny_loadPart' o1,wpAny_loadPart' o2
  show R (.ok (.ret (.bool (xs.size != ys.size)))) _
  simpa [hz]using q
 |succ k ih=>
  intro i hk
  have h1:i<xs.size:=by lia
  have h2:i<ys.size:=by lia
  wp_walk using wpAny_loadPart' o1,wpAny_loadPart' o2
  rw[show xs[((i:Nat):Int).toNat]?=some xs[i] by simp[h1],show ys[((i:Nat):Int).toNat]?=some ys[i] by simp[h2]]
  refine wpAny_bind (he i h1 h2 _ _ ?_)
  wp_walk
  rw[show((i:Int)+1)=((i+1:Nat):Int) by push_cast;rfl]
  refine⟨plainId_quiet plain_eq_loop _,codeAny_builtin entry_eq_loop ?_⟩
  rw[Y0K plain_eq_loop _]
  exact ih (i+1) (by lia)
theorem Zh6(ha:s.heap.IsList a xs)(hb:s.heap.IsList b ys)(hz:xs.size=ys.size)(hu:A.units<cLine)(he:∀j (h1:j<xs.size) (h2:j<ys.size),AliP P w A.in1 s xs[j] ys[j]):RnP P w A s (.ref a) (.ref b):=by
 intro E Q q
 obtain⟨⟨c1,d1,t1,l1⟩,o1,k1,n1,e1⟩:=id ha
 obtain⟨⟨c2,d2,t2,l2⟩,o2,k2,n2,e2⟩:=id hb
 dsimp only at k1 e1 k2 e2
 subst k1 e1 k2 e2
 have t1:s.TypeIs (.ref a) "list":=⟨_,o1,rfl⟩
 refine wpAny_richCompare_same_room (op:=.NotEq) t1 ⟨_,o2,rfl⟩ Y3v (wpAny_call (codeAny_call_builtin Y3v.plain F.entry_list_ne (Y3v.check _ _ _ _ _ _ _ _ t1 (F.args_list_ne_2 _ _) ?_))) hu
 obtain⟨h0,g0,dd,tk,os⟩:=s
 have f3:=Y36
 have nz:¬(xs.size != ys.size)=true:=by simp[hz]
 wp_walk using wpAny_loadPart' o1,wpAny_loadPart' o2
 refine⟨plainId_quiet plain_eq_loop _,codeAny_builtin entry_eq_loop ?_⟩
 rw[Y0K plain_eq_loop _]
 exact ZeR (R:=wants (λv s'=>v≠.notImplemented/\Q v s') E) hz o1 o2 he (show Y0Y false≠.notImplemented/\Q (.bool false) _ from⟨(λz=>nomatch z),q⟩) _ 0 rfl
theorem Z76{K:Type} [DecidableEq K] {knd:KeyKind P w K}{nm:String}{ka kb:List (K×Value)}{E:Value->Shared->Prop}{Q:Bool->Shared->Prop}(na:(a==sysModules)=false)(nb:(b==sysModules)=false)
  (da:s.heap.DictOf knd a ka) (db:s.heap.DictOf knd b kb) (hz:ka.length=kb.length) (he:∀p∈ka,∃y,valueAt kb p.1=some y/\AliP P w A s p.2 y) (q:Q true s):
  wpAny (model P w) A (Y37 nm a b) Q E s:=by
 obtain⟨oa,ea,pa,o1,_,t1,k1,v1,_⟩:=da
 obtain⟨ob,eb,pb,o2,_,t2,k2,v2,_⟩:=db
 have za:ka.length=ea.size:=v1.length.symm.trans Y0c
 have zb:kb.length=eb.size:=v2.length.symm.trans Y0c
 have fd:∀k,findBy knd.is eb k=valueAt kb k:=by
  intro k
  rw[<- v2.find k]
  clear zb v2 k2 t2 o2
  obtain⟨l⟩:=eb
  simp[findBy]
 have zz:ea.size=eb.size:=by lia
 unfold Y37 Builtin.Dict.showsAll
 rw[na,nb]
 refine wpAny_bind (wpAny_pure (wpAny_bind (wpAny_pure (wpAny_bind (wpAny_dictEntries o1 t1 ?_)))))
 dsimp only
 refine wpAny_bind (wpAny_dictEntries o2 t2 ?_)
 rw[if_neg (by simp[zz])]
 refine wpAny_bind (wpAny_dictEpoch o1 t1 (wpAny_bind ?_))
 rw[Std.Legacy.Range.forIn_eq_forIn_range']
 simp only[Std.Legacy.Range.size,Nat.sub_zero,Nat.add_sub_cancel,Nat.div_one]
 refine wpAny_forIn_list _ (λrest r s'=>s'=s/\r=(none,())/\∀i∈rest,i<ea.size) _ ?_ ?_ _ _ ⟨rfl,rfl,λi hi=>by simpa using hi⟩
 ·rintro i rest r s' ⟨rfl,rfl,m⟩
  have lt:i<ea.size:=m i Y0l
  have lt':i<ka.length:=by lia
  refine wpAny_bind (wpAny_dictEntries o1 t1 ?_)
  rw[Y0W lt]
  obtain⟨key,val⟩:=v1.get? (i:=i) (e:=ea[i]) (k:=ka[i].1) (v:=ka[i].2) (by rw[Y3f];exact Y0W lt) (Y01 lt')
  obtain⟨k',i',hh⟩:=k1 ea[i] (Array.getElem_mem lt)
  obtain rfl:k'=ka[i].1:=knd.inj _ _ _ i' key
  obtain⟨y,fy,al⟩:=he ka[i] (Y0p lt')
  show wpAny _ _ (holding [ea[i].key,ea[i].val] _ >>= _) _ _ _
  rw[hh]
  refine wpAny_bind (wpAny_holding (wpAny_bind (wpAny_dictFind_of key o2 t2 k2 ?_)))
  have fy':=fy
  rw[<- fd,findBy_of_findIdx?]at fy'
  cases hj:eb.findIdx? λe=>knd.is ka[i].1 e.key with
  |none=>rw[hj]at fy';cases fy'
  |some j=>
   rw[hj]at fy'
   obtain⟨jl,_,_⟩:=Array.findIdx?_eq_some_iff_getElem.mp hj
   refine wpAny_bind (wpAny_dictEntries o2 t2 ?_)
   rw[Y0W jl]
   have ey:eb[j].val=y:=by simpa [Y0W jl]using fy'
   rw[<- ey,<- val]at al
   refine wpAny_holding (al _ _ ?_)
   show wpAny _ _ (if(!true)=true then _ else _) _ _ _
   rw[if_neg (show¬(!true)=true from Y05)]
   refine wpAny_bind (wpAny_dictEpoch o1 t1 ?_)
   rw[if_neg (by simp)]
   exact wpAny_pure ⟨rfl,rfl,λz hz=>m z (Y0g _ hz)⟩
 ·rintro r s' ⟨rfl,rfl,-⟩
  exact wpAny_pure q
theorem ZiA{K:Type} [DecidableEq K] {knd:KeyKind P w K}{ka kb:List (K×Value)}(na:(a==sysModules)=false)(nb:(b==sysModules)=false)
  (da:s.heap.DictOf knd a ka) (db:s.heap.DictOf knd b kb) (hu:A.units<cLine) (hz:ka.length=kb.length) (he:∀p∈ka,∃y,valueAt kb p.1=some y/\AliP P w A.in1 s p.2 y):RcP P w A s (.ref a) (.ref b):=by
 intro E Q q
 refine wpAny_richCompare_same_room (op:=.Eq) da.typeIs db.typeIs Y3p (wpAny_call_entry Y3p da.typeIs PySem.F.entry_dict_eq ?_ (PySem.F.args_dict_eq_2 _ _)) hu
 show wpAny _ _ (Y1z "__eq__" ⟨[.ref a,.ref b],[]⟩>>= _) _ _ s
 refine wpAny_bind ?_
 unfold Y1z
 refine wpAny_bind (wpAny_notOrdered_dict da.typeIs (wpAny_pure (wpAny_bind (wpAny_isInstance (T:="dict") db.typeIs Y3g ?_))))
 rw[if_neg (by decide)]
 refine wpAny_bind (wpAny_pure (wpAny_bind (wpAny_pure (wpAny_bind (Z76 na nb da db hz he ?_)))))
 exact wpAny_pure ⟨_,rfl,(λz=>nomatch z),q⟩
theorem Zh7{K:Type} [DecidableEq K] {knd:KeyKind P w K}{ka kb:List (K×Value)}(na:(a==sysModules)=false)(nb:(b==sysModules)=false)
  (da:s.heap.DictOf knd a ka) (db:s.heap.DictOf knd b kb) (hu:A.units<cLine) (hz:ka.length=kb.length) (he:∀p∈ka,∃y,valueAt kb p.1=some y/\AliP P w A.in1 s p.2 y):RnP P w A s (.ref a) (.ref b):=by
 intro E Q q
 refine wpAny_richCompare_same_room (op:=.NotEq) da.typeIs db.typeIs Y3q (wpAny_call_entry Y3q da.typeIs PySem.F.entry_dict_ne ?_ (PySem.F.args_dict_ne_2 _ _)) hu
 show wpAny _ _ (Y1z "__ne__" ⟨[.ref a,.ref b],[]⟩>>= _) _ _ s
 refine wpAny_bind ?_
 unfold Y1z
 refine wpAny_bind (wpAny_notOrdered_dict da.typeIs (wpAny_pure (wpAny_bind (wpAny_isInstance (T:="dict") db.typeIs Y3g ?_))))
 rw[if_neg (by decide)]
 refine wpAny_bind (wpAny_pure (wpAny_bind (wpAny_pure (wpAny_bind (Z76 na nb da db hz he ?_)))))
 exact wpAny_pure ⟨_,rfl,(λz=>nomatch z),q⟩
end
section
variable{X:Cx}
theorem Z9j:∀{ss:List Str} {us:List Value},Vals (ss.map V.str) us->∃l:List (Str×Tok),us=strValues l/\l.map (·.1)=ss
 |[],_,.nil=>⟨[],rfl,rfl⟩
 |x::ss,_,.cons q r=>by
  obtain⟨l,e,e'⟩:=Z9j r
  obtain⟨t,rfl⟩:=(show∃t,_=Y0v x t from q)
  exact⟨(x,t)::l,by rw[e];rfl,by rw[Y0b,e']⟩
theorem ZeS:MtR X "str.join" (fun x xs H Q=>∃sep b ss,x=.str sep/\xs=[.ref b]/\SqL X.K H b (ss.map V.str)/\ss.toArray.foldl (fun n z=>n+z.length+sep.length) 0≤sizeLine/\(Y14 sep ss).length≤sizeLine/\Q (.str (Y14 sep ss)) H):=by
 intro pins s σ H x xs v us Q I rx rs h
 obtain⟨sep,b,ss,rfl,rfl,g,z,z2,q⟩:=h
 obtain⟨t,rfl⟩:=rx
 obtain⟨u,rfl,ru⟩:=Z4M rs
 obtain rfl:u=Y0k b:=ru
 obtain⟨its,r,⟨o,n,o1,o2,_,o3⟩,_⟩:=I.list g
 obtain⟨l,rfl,e⟩:=Z9j r
 have tl:Y3y ((l.map (·.1)).toArray.foldl (λn z=>n+z.length+sep.length) 0)=false:=by
  rw[e];unfold Y3y;exact decide_eq_false (by lia)
 refine call_meets Y3h (typeIs_str s sep t) PySem.F.entry_str_join (PySem.F.args_str_join_2 _ _) (meets_str_join_list sep t b l tl) ⟨⟨o,o1,o2,n,o3⟩,?_⟩
 have fin:(Made.str (Y14 sep (l.map (·.1)))).post (λv s'=>EP X pins σ Q v s') s:=by
  rw[e]
  exact⟨z2,.str _,H,I.tok _,⟨_,rfl⟩,q⟩
 match l,e,fin with
 |[],_,fin=>exact fin
 |[p],e,fin=>
  refine⟨.str p.1,H,I,⟨_,rfl⟩,?_⟩
  have e2:ss=[p.1]:=e.symm
  rw[e2]at q
  exact q
 |_::_::_,_,fin=>exact fin
end
end L2
namespace L2
open PySem PySem.Spec PyProof.Rows
section
variable{X:Cx}
end
end L2
namespace L2
open PySem PySem.Spec PyProof.Rows
section
variable{X:Cx}{pins:List (Addr×Obj)}{σ:St}{H:Hp}{s:Shared}
theorem Z9B{H:Hp}{a b:Addr}{u v:HO}(e:H a=some u)(mu:Mut (some u))(q:H b=some v)(nv:¬Mut (some v)):b≠a:=by
 intro z;subst z;rw[e]at q;cases q;exact nv mu
theorem Inv.freeze(I:Inv X pins σ H s){a:Addr}{u:HO}{o:Obj}(e:H a=some u)(mu:Mut (some u))(ho:s.heap.get? a=some o):Inv X pins σ (upd H a (.frz o u)) s:=by
 have nn:∀b,H b=none->b≠a:=λb n z=>by subst z;rw[e]at n;cases n
 refine I.step (h':=s.heap) (g':=s.gens) (t':=s.toks) (d':=s.drawn) (ch:=[]) (λ_ z=>nomatch z) (λb o _ _ _ q _=>q) (λb o _ _ _ q _=>⟨o.slots,q⟩) (λb o _ _ n=>by rw[Z0g (nn b n)];exact n) (λb o _ q=>⟨o,q⟩)
  (λb xs q=>by rw[Z0g (Z9B e mu q λz=>z)];exact q) (λb o u q=>by rw[Z0g (Z9B e mu q λz=>z)];exact q) (λb ps q=>⟨#[],by rw[Z0g (Z9B e mu q λz=>z),q];simp⟩) (λm h=>h) (λb v q=>?_) I.bare
 have st:∀{c:Addr} {y:HO},ObjOk X.prog X.w H s.heap c y->ObjOk X.prog X.w (upd H a (.frz o u)) s.heap c y:=λx=>
  x.stay (λc v _ q=>q) (λc q=>by rw[Z0g (Z9B e mu q λz=>z)];exact q) λc xs q=>by rw[Z0g (Z9B e mu q λz=>z)];exact q
 by_cases hb:b=a
 ·subst hb;rw[Z13]at q;cases q
  exact⟨ho,st (I.hok b u e)⟩
 ·rw[Z0g hb]at q
  exact st (I.hok b v q)
noncomputable def Thw(X:Cx)(H H':Hp):Prop:=H'=H\/∃a o u,H a=some (.frz o u)/\Mut (some u)/\(∀o' u',X.H₀ a≠some (.frz o' u'))/\H'=upd H a u
theorem Inv.thaw(I:Inv X pins σ H s){H':Hp}(t:Thw X H H'):Inv X pins σ H' s:=by
 rcases t with rfl|⟨a,o,u,e,mu,nf,rfl⟩
 ·exact I
 have ne:∀{b:Addr} {y:HO},H b=some y->y≠.frz o u->b≠a:=fun{b y} q n z=>by subst z;rw[e]at q;cases q;exact n rfl
 have nn:∀b,H b=none->b≠a:=λb n z=>by subst z;rw[e]at n;cases n
 have st:∀{c:Addr} {y:HO},ObjOk X.prog X.w H s.heap c y->ObjOk X.prog X.w (upd H a u) s.heap c y:=λx=>
  x.stay (λc v _ q=>q) (λc q=>by rw[Z0g (ne q (λz=>by cases z))];exact q) λc xs q=>by rw[Z0g (ne q (λz=>by cases z))];exact q
 refine⟨I.ok,I.os,I.bare,⟨I.base.keep,I.base.slot,λb ob q n hx=>?_,I.base.there,λb xs q=>?_,λb o' u' q=>?_,λb ps q=>?_⟩,I.loc,I.cell,?_,λx c q=>?_,λp hp=>?_,λb v q=>?_,I.len⟩
 ·have:=I.base.free b ob q n hx
  rw[Z0g (nn b this)];exact this
 ·have:=I.base.tups b xs q
  rw[Z0g (ne this (λz=>by cases z))];exact this
 ·rw[Z0g (λz=>by subst z;exact nf o' u' q)]
  exact I.base.frzs b o' u' q
 ·obtain⟨m,h⟩:=I.base.tbls b ps q
  exact⟨m,by rw[Z0g (ne h (λz=>by cases z))];exact h⟩
 ·rw[Z0g (nn _ I.free)];exact I.free
 ·rw[Z0g (nn _ (I.freeC x c q))];exact I.freeC x c q
 ·obtain⟨h1,h2,h3⟩:=I.pin p hp
  exact⟨h1,by rw[Z0g (nn _ h2)];exact h2,h3⟩
 ·by_cases hb:b=a
  ·subst hb;rw[Z13]at q;cases q
   exact st (I.hok b _ e).2
  ·rw[Z0g hb]at q
   exact st (I.hok b v q)
theorem Inv.nofrz(I:Inv X pins σ H s){a:Addr}{u:HO}(e:H a=some u)(mu:Mut (some u)):∀o' u',X.H₀ a≠some (.frz o' u'):=λo' u' z=>by
 have:=I.base.frzs a o' u' z
 rw[e]at this
 cases this
 exact mu
noncomputable def thwD(X:Cx)(D:Ends):Ends where
 nx:=λσ H=>∃H',Thw X H H'/\D.nx σ H'
 rt:=λv H=>∃H',Thw X H H'/\D.rt v H'
 bk:=λσ H=>∃H',Thw X H H'/\D.bk σ H'
 ct:=λσ H=>∃H',Thw X H H'/\D.ct σ H'
theorem PS.thaw{st:Stmt}{t:TS}(h:PS X st t):PS X st (λD σ H=>t (thwD X D) σ H):=by
 intro pins s σ H D I q
 refine thn (h pins s σ H _ I q) λf s' hf=>?_
 cases f with
 |next=>obtain⟨σ',H',I',H2,t2,d⟩:=hf;exact⟨σ',H2,I'.thaw t2,d⟩
 |brk=>obtain⟨σ',H',I',H2,t2,d⟩:=hf;exact⟨σ',H2,I'.thaw t2,d⟩
 |cont=>obtain⟨σ',H',I',H2,t2,d⟩:=hf;exact⟨σ',H2,I'.thaw t2,d⟩
 |ret u=>obtain⟨v,σ',H',I',r,H2,t2,d⟩:=hf;exact⟨v,σ',H2,I'.thaw t2,r,d⟩
theorem PE.thaw{e:Expr}{t:TE}(h:PE X e t):PE X e (λσ H Q=>t σ H λv H'=>∃H2,Thw X H' H2/\Q v H2):=by
 intro pins s σ H Q I q
 refine thn (h pins s σ H _ I q) λu s' ⟨v,H',I',r,H2,t2,d⟩=>⟨v,H2,I'.thaw t2,r,d⟩
noncomputable def Itd(a:Addr)(o:Obj):It where
 go:=λi H=>∃kvs,H a=some (.frz o (.dK kvs))/\i<kvs.length
 yld:=λi H x H'=>H'=H/\∀kvs,H a=some (.frz o (.dK kvs))->∃k v,kvs[i]?=some (k,v)/\x=kV k
 stop:=λi H=>∃kvs,H a=some (.frz o (.dK kvs))/\kvs.length≤i
theorem Zk5{P:Program}{w:World}{h:Heap}{a:Addr}{o:Obj}{kvs:List (Key×V)}{es:Array DictEntry}{ep:Nat}(ok:HOk P w H h)(e:H a=some (.frz o (.dK kvs)))(hd:o.data=.dict es ep):
  ∃vs,KV kvs vs/\h.DictAt (Z0Q P w) a vs ep/\vs.length=es.size:=by
 obtain⟨ho,z,_,vs,rel,o',es',ep',ho',r1,r2,r3⟩:=ok a _ e
 rw[ho]at ho';cases ho'
 rw[hd]at r2
 injection r2 with e1 e2
 subst e1 e2
 exact⟨vs,rel,⟨o,es,ho,r1,hd,r3⟩,by rw[<- r3.2.1.length];simp⟩
theorem ZjD{kvs:List (Key×V)}{vs:List (Key×Value)}(r:KV kvs vs):kvs.length=vs.length:=by
 induction r with
 |nil=>rfl
 |cons _ _ ih=>rw[Y0I,Y0I,ih]
theorem ZjE{kvs:List (Key×V)}{vs:List (Key×Value)}(r:KV kvs vs):∀{i:Nat} {k:Key} {v:V},kvs[i]?=some (k,v)->∃u,vs[i]?=some (k,u)/\RelV v u:=by
 induction r with
 |nil=>intro i k v h;cases h
 | @cons p p' _ _ q _ ih=>
  intro i k v h
  cases i with
  |zero=>
   cases h
   obtain⟨k2,x2⟩:=p'
   have e1:k=k2:=q.1
   subst e1
   exact⟨x2,rfl,q.2⟩
  |succ i=>exact ih (i:=i) h
theorem Zho{P:Program}{w:World}{k:Key}{u:Value}(h:(Z0Q P w).is k u=true):RelV (kV k) u:=by
 rcases Z0E h with⟨i,t,rfl,rfl⟩|⟨x,t,rfl,rfl⟩
 ·exact⟨t,rfl⟩
 ·exact⟨t,rfl⟩
theorem Z4a{P:Program}{w:World}{A:Around}{E:Value->Shared->Prop}{s:Shared}{it d:Addr}{i n ep:Nat}{Q:Value->Shared->Prop}(hit:s.heap.IsKeyIter it d i n ep)(h:Q (.ref it) s):
  wpAny (model P w) A (pyIter (.ref it)) Q E s:=by
 refine wpAny_pyIter_slot hit.typeIs Y27 (wpAny_call_entry Y27 hit.typeIs PySem.F.entry_dict_keyiterator_iter ?_ (PySem.F.args_dict_keyiterator_iter_1 _))
 show wpAny _ _ (ret (.ref it)) _ _ s
 exact wpAny_pure ⟨_,rfl,"dict_keyiterator",_,hit.typeIs,PySem.F.slot_dict_keyiterator_next.lookup,h⟩
theorem Zcv{P:Program}{w:World}{K:Y00}{tg:Expr}(a it:Addr)(o:Obj)(es:Array DictEntry)(ep:Nat)(hd:o.data=.dict es ep):Turn P w K tg (Itd a o) [it] it (λi h=>h.IsKeyIter it a i es.size ep)where
 mem:=by simp
 obj:=λi h st b hb=>by
  have e:b=it:=by simpa using hb
  subst e
  obtain⟨o,e,c,d⟩:=st
  exact⟨o,e,λv z=>by rw[d]at z;cases z⟩
 keep:=λi h h' st k=>by
  obtain⟨o,e,c,d⟩:=st
  exact⟨o,k it (by simp) o e,c,d⟩
 item:=by
  intro X hP hw hK hc i pins s σ H E I hf st hg
  subst hP hw hK
  obtain⟨kvs,hq,hx⟩:=hg
  obtain⟨vs,rel,da,hl⟩:=Zk5 I.hok hq hd
  obtain⟨⟨k,v⟩,hk⟩:∃p,kvs[i]?=some p:=⟨_,Y01 hx⟩
  obtain⟨u,hu,ru⟩:=ZjE rel hk
  obtain⟨f0,f1,f2,f3,f4,f5⟩:=hf it (by simp)
  rw[<- hl]at st
  refine wpAny_pyNext_dict_item st da hu λkey h' hkey st' sb=>?_
  have I1:Inv X pins σ H {s with heap:=h'}:=I.turned (t':=s.toks) (λb o hb e=>(sb.2 b hb).trans e) f0 f1 f3 f4 f5
  rw[hl]at st'
  obtain⟨o',e,c,d⟩:=id st'
  exact⟨key,rfl,ZaR (s:={s with heap:=h'}) e c d (by decide) ⟨kV k,H,I1,Zho hkey,⟨rfl,λkvs' e'=>by rw[hq]at e';cases e';exact⟨k,v,hk,rfl⟩⟩,st',λb hb=>(hf b hb).1⟩⟩
 done:=by
  intro X hP hw hK hc i pins s σ H E I hf st hg
  subst hP hw hK
  obtain⟨kvs,hq,hx⟩:=hg
  obtain⟨vs,rel,da,hl⟩:=Zk5 I.hok hq hd
  obtain⟨f0,f1,f2,f3,f4,f5⟩:=hf it (by simp)
  rw[ZjD rel]at hx
  rw[<- hl]at st
  exact wpAny_pyNext_dict_end (I.ok.hd hc) st da (List.getElem?_eq_none_iff.mpr hx) λh' eb=>⟨rfl,I.turned (t':=s.toks) (λb o hb e=>eb b o hb e) f0 f1 f3 f4 f5⟩
 self:=λ_ _ _ _ _ st h=>Z4a st h
theorem ZeE{tg:Expr}{R:It->Hp->Prop}{E:Value->Shared->Prop}{a:Addr}{kvs:List (Key×V)}(I:Inv X pins σ H s)(e:H a=some (.dK kvs))(q:∀o,(∀o' u',X.H₀ a≠some (.frz o' u'))->R (Itd a o) (upd H a (.frz o (.dK kvs)))):
  wpAny (model X.prog X.w) X.A (pyIter (.ref a)) (PIE X pins σ tg R) E s:=by
 obtain⟨z,hm,vs,rel,o,es,ep,ho,r1,r2,r3⟩:=I.hok a _ e
 have I1:=I.freeze e trivial ho
 have nf:=I.nofrz e trivial
 refine wpAny_pyIter_dict hm (⟨o,es,ho,r1,r2,r3⟩:s.heap.DictAt (Z0Q X.prog X.w) a vs ep) ?_
 refine⟨s.heap.objs.size,[s.heap.objs.size],_,_,upd H a (.frz o (.dK kvs)),rfl,I1.kept (t':=s.toks) λb o e=>Y02 _ e,Zcv a _ o es ep r2,?_,λb hb=>?_,q o nf⟩
 ·have hl:es.size=vs.length:=by rw[<- r3.2.1.length];simp
  rw[hl]
  exact⟨_,Y0a _ rfl,rfl,rfl⟩
 ·have e:b=s.heap.objs.size:=by simpa using hb
  subst e
  exact I1.fpOk (Y07 _) (I1.hok.fresh (Y07 _))
end
end L2
namespace L2
open PySem PySem.Spec PyProof.Rows
section
variable{prog:Program}{w:World}{A:Around}{E:Value->Shared->Prop}{s:Shared}{a₀:Array Keyed}
end
section
variable{X:Cx}
end
end L2
namespace L2
open PySem PySem.Spec PyProof.Rows
structure Mrk (t t':SetTable):Prop where
 led:t'.led=t.led
 plain:t.plain=false->t'.plain=false
theorem Mrk.refl(t:SetTable):Mrk t t:=⟨rfl,id⟩
theorem Mrk.trans{a b c:SetTable}(x:Mrk a b)(y:Mrk b c):Mrk a c:=⟨y.led.trans x.led,λh=>y.plain (x.plain h)⟩
theorem Mrk.standIn(t:SetTable)(n:Nat):Mrk t (t.standIn n):=⟨rfl,λ_=>rfl⟩
theorem Mrk.orStandIn(t:SetTable)(n:Nat):Mrk t (t.orStandIn n):=by
 unfold SetTable.orStandIn
 split
 ·exact .refl t
 ·exact .standIn t n
theorem Mrk.lay(t:SetTable)(es:Array (Int×Value))(k:Int)(x:Value):Mrk t (layNew t es k x).2.1:=by
 unfold layNew
 split
 ·exact Mrk.trans (b:=(t.put _).1) ⟨rfl,id⟩ (.orStandIn _ _)
 ·exact .standIn t _
theorem Mrk.relaid{t t':SetTable}{hs:Array Int}{n:Nat}{od:Array Nat}(h:t.relaid hs n=some (t',od)):Mrk t t':=by
 unfold SetTable.relaid SetTable.laid at h
 cases hl:SetTable.layClean (SetTable.sizeAbove n - 1) hs with
 |none=>rw[hl]at h;simp at h
 |some ow=>
  rw[hl]at h
  simp only[Option.bind_eq_bind,Option.bind_some,Option.pure_def,Y2h,Prod.mk.injEq]at h
  obtain⟨rfl,_⟩:=h
  exact⟨rfl,id⟩
theorem Mrk.relay(t:SetTable)(es:Array (Int×Value))(n:Nat):Mrk t (relayAll t es n).2.1:=by
 unfold relayAll
 split
 ·rename_i hr
  dsimp only
  split
  ·exact .relaid hr
  ·exact .standIn t _
 ·exact .standIn t _
noncomputable def txt:Value->Str
 |.str x _=>x
 |_=>⟨#[]⟩
noncomputable def met1(zs:List Str)(x:Str):List Str:=if x∈zs then zs else zs++[x]
noncomputable def met(f:Nat->Str):Nat->List Str
 |0=>[]
 |i+1=>met1 (met f i) (f i)
theorem ZbX{zs:List Str}(h:zs.Nodup)(x:Str):(met1 zs x).Nodup:=by
 unfold met1
 split
 ·exact h
 ·rename_i n
  rw[Y1g]
  exact⟨h,by simp,λa ha b hb=>by rw[Y1c]at hb;subst hb;exact λe=>n (e▸ha)⟩
theorem Z9D(f:Nat->Str):∀i,(met f i).Nodup
 |0=>.nil
 |i+1=>ZbX (Z9D f i) _
theorem ZeW{zs:List Str}{x y:Str}:y∈met1 zs x↔y∈zs\/y=x:=by
 unfold met1
 split
 ·rename_i h
  exact⟨.inl,λz=>z.elim id λe=>e▸h⟩
 ·simp
theorem Zdf{f:Nat->Str}{y:Str}:∀i,y∈met f i↔∃j,j<i/\f j=y
 |0=>by simp[met]
 |i+1=>by
  unfold met
  rw[ZeW,Zdf i]
  constructor
  ·rintro(⟨j,hj,e⟩|e)
   ·exact⟨j,by lia,e⟩
   ·exact⟨i,by lia,e.symm⟩
  ·rintro⟨j,hj,e⟩
   by_cases z:j=i
   ·subst z;exact .inr e.symm
   ·exact .inl ⟨j,by lia,e⟩
theorem Zdg(f:Nat->Str):∀i,(met f i).length≤i
 |0=>Y07 _
 |i+1=>by
  have:=Zdg f i
  unfold met met1
  split
  ·lia
  ·rw[Y0t];simp;lia
section
variable{prog:Program}{w:World}{A:Around}{E:Value->Shared->Prop}{s:Shared}
noncomputable def WSet(prog:Program)(w:World)(o:Obj)(zs:List Str):Prop:=
 o.ExactSet/\∃es ep t,o.data=.set es ep t/\ElemsOf (strKind prog w) es.toList/\(es.toList.map λe=>txt e.2).Perm zs/\es.size<scanBound/\t.fits es.size=true
  /\t.led=(!w.params.followText "set-order")/\(zs≠ []->t.plain=false)
theorem WSet.fresh:WSet prog w {cls:=.type "set",dict:=none,data:=.set #[] 0 (.fresh 0 0 (!w.params.followText "set-order"))} []:=
 ⟨⟨rfl,rfl,rfl⟩,#[],0,_,rfl,λe he=>by simp at he,by simp,by decide,by rfl,rfl,λh=>absurd rfl h⟩
theorem isT{k:Str}{v:Value}:(strKind prog w).is k v=true↔∃t,v=.str k t:=by
 constructor
 ·exact λh=>Value.isStrOf_shape h
 ·rintro⟨t,rfl⟩
  exact strKind_is prog w k t
theorem WSet.mem{es:Array (Int×Value)}{zs:List Str}(he:ElemsOf (strKind prog w) es.toList)(hp:(es.toList.map λe=>txt e.2).Perm zs)(k:Str):
  k∈zs↔∃e∈es.toList,(strKind prog w).is k e.2=true:=by
 rw[<- hp.mem_iff,Y0o]
 constructor
 ·rintro⟨e,hm,q⟩
  refine⟨e,hm,isT.mpr ?_⟩
  obtain⟨⟨k',hk,_⟩,_⟩:=he e hm
  obtain⟨t,ht⟩:=isT.mp hk
  rw[ht]at q ⊢
  exact⟨t,by rw[<- q];rfl⟩
 ·rintro⟨e,hm,q⟩
  obtain⟨t,ht⟩:=isT.mp q
  exact⟨e,hm,by rw[ht];rfl⟩
theorem Z89{h:Heap}{a:Addr}{o:Obj}{es:Array (Int×Value)}{ep:Nat}{t:SetTable}(ho:h.get? a=some o)(hd:o.data=.set es ep t)(es':Array (Int×Value))(t':SetTable):
  (h.update a (Obj.putSet es' t')).get? a=some {o with data:=.set es' (ep+1) t'}:=by
 have z:=Y1k (Obj.putSet es' t') ho (by rw[putSet_of es' t' hd];rfl)
 rwa [putSet_of es' t' hd]at z
theorem Z9i{g:Bool->Sem Unit}(hg:∀(b:Bool) (s₁:Shared) (Q':Unit->Shared->Prop),Q' () s₁->wpAny (model prog w) A (g b) Q' E s₁)
  {a:Addr} {o:Obj} {es:Array (Int×Value)} {ep:Nat} {t:SetTable} (ho:s.heap.get? a=some o) (hex:o.ExactSet) (hd:o.data=.set es ep t)
  {es1:Array (Int×Value)} {t2:SetTable} {zs:List Str} (hel:ElemsOf (strKind prog w) es1.toList) (hp:(es1.toList.map λe=>txt e.2).Perm zs) (hb:es1.size<scanBound)
  (hf:t2.fits es1.size=true) (hled:t2.led=(!w.params.followText "set-order")) (hpl:t2.plain=false) {was:Bool} {R:Option Bool->Shared->Prop}
  (h:∀h' o',Y1P a s.heap h'->h'.get? a=some o'->WSet prog w o' zs->R (some true) {s with heap:=h'}):
  wpAny (model prog w) A (do
    storeSet a es1 t2
    if(!was&&t2.tooFull)=true then do
      g (relayAll t2 es1 (Y1L es1.size)).2.2
      storeSet a (relayAll t2 es1 (Y1L es1.size)).1 (relayAll t2 es1 (Y1L es1.size)).2.1
      pure (some true)
     else pure (some true)) R E s:=by
 refine wpAny_bind (wpAny_storeSet_of ho hd ?_ (fits_of_scanBound hb))
 have ho1:=Z89 ho hd es1 t2
 split
 ·have hp2:=relayAll_perm t2 es1 (Y1L es1.size)
  have hf2:=relayAll_fits t2 es1 (Y1L es1.size)
  have hm:=Mrk.relay t2 es1 (Y1L es1.size)
  generalize relayAll t2 es1 (Y1L es1.size)=Rl at hp2 hf2 hm ⊢
  obtain⟨es2,t3,gv⟩:=Rl
  dsimp only at hp2 hf2 hm ⊢
  have hz:es2.size=es1.size:=by rw[<- Y0c,hp2.length_eq,Y0c]
  refine wpAny_bind (hg _ _ _ ?_)
  refine wpAny_bind (wpAny_storeSet_of ho1 rfl ?_ (fits_of_scanBound (by lia)))
  exact wpAny_pure (h _ _ ((Y10 _ a _).trans (Y10 _ a _)) (Z89 ho1 rfl es2 t3)
   ⟨hex,es2,_,t3,rfl,hel.perm hp2,(hp2.map _).trans hp,by lia,hf2,hm.led.trans hled,λ_=>hm.plain hpl⟩)
 ·exact wpAny_pure (h _ _ (Y10 _ a _) ho1 ⟨hex,es1,_,t2,rfl,hel,hp,hb,hf,hled,λ_=>hpl⟩)
theorem Zet{a:Addr}{o:Obj}{zs:List Str}{x:Str}{tk:Tok}{Q:Bool->Shared->Prop}(ho:s.heap.get? a=some o)(hS:WSet prog w o zs)(hroom:zs.length+1<scanBound)
  (h:∀b h' o',Y1P a s.heap h'->h'.get? a=some o'->WSet prog w o' (met1 zs x)->Q b {s with heap:=h'}):
  wpAny (model prog w) A (setAddHashed a (.str x tk) ((strKind prog w).hash x)) Q E s:=by
 obtain⟨hex,es,ep,t,hd,hel,hp,hb,hf,hled,hpl⟩:=id hS
 have hkey:(strKind prog w).is x (.str x tk)=true:=strKind_is prog w x tk
 have hlen:es.size=zs.length:=by rw[<- hp.length_eq,Y03,Y0c]
 unfold setAddHashed setAddHashedIn
 refine wpAny_holding (wpAny_bind (wpAny_setState_of ho hd hf ?_))
 dsimp only
 rw[byScan_of (x:=.str x tk) rfl hb hel]
 simp only[↓reduceIte]
 unfold setAddByScan
 refine wpAny_bind (wpAny_bind (wpAny_rule (wpAny_bind (wpAny_setScan_of hkey ho hd hf hel ?_))))
 have hmem:=WSet.mem hel hp x
 cases hr:List.findIdx? (λe=>(strKind prog w).is x e.2) es.toList with
 |some j=>
  dsimp only
  obtain⟨hj,hpj,_⟩:=List.findIdx?_eq_some_iff_getElem.mp hr
  have hx:x∈zs:=hmem.mpr ⟨_,Y0p hj,hpj⟩
  refine wpAny_pure (wpAny_pure ?_)
  have:=h false s.heap o (Heap.SameBut.refl a s.heap) ho (by unfold met1;rw[if_pos hx];exact hS)
  cases s
  exact this
 |none=>
  dsimp only
  have hx:x∉zs:=λz=>by
   obtain⟨e,he,q⟩:=hmem.mp z
   have:=List.findIdx?_eq_none_iff.mp hr e he
   rw[q]at this
   exact Bool.noConfusion this
  have hz:met1 zs x=zs++[x]:=by unfold met1;rw[if_neg hx]
  have hl:=layNew_perm t es ((strKind prog w).hash x) (.str x tk)
  have hlf:=layNew_fits t es ((strKind prog w).hash x) (.str x tk)
  have hm:=Mrk.lay t es ((strKind prog w).hash x) (.str x tk)
  generalize layNew t es ((strKind prog w).hash x) (.str x tk)=L at hl hlf hm ⊢
  obtain⟨es1,t1,was,gave⟩:=L
  dsimp only at hl hlf hm ⊢
  rw[Array.toList_push]at hl
  have hel1:ElemsOf (strKind prog w) es1.toList:=(hel.push hkey rfl).perm hl
  have hp1:(es1.toList.map λe=>txt e.2).Perm (met1 zs x):=by
   rw[hz]
   refine(hl.map _).trans ?_
   rw[Y11]
   exact hp.append (.refl _)
  have hb1:es1.size<scanBound:=by rw[<- Y0c,hl.length_eq,Y0t,Y0c];simp;lia
  have gw:∀(b:Bool) (s₁:Shared) (Q':Unit->Shared->Prop),Q' () s₁->wpAny (model prog w) A (match b with|true=>rule "set.scan.the-table-gave-way"|false=>pure ()) Q' E s₁:=
   λb s₁ Q' hq=>by cases b<;>first|exact wpAny_pure hq|exact wpAny_rule hq
  refine wpAny_bind (gw _ _ _ ?_)
  have fin:∀h' o',Y1P a s.heap h'->h'.get? a=some o'->WSet prog w o' (met1 zs x)->Q true {s with heap:=h'}:=λh' o' a1 a2 a3=>h true h' o' a1 a2 a3
  split
  ·rw[hashByValue_scannable 8 (x:=.str x tk) rfl]
   refine wpAny_bind (wpAny_pure ?_)
   refine Z9i gw ho hex hd hel1 hp1 hb1 (t2:={t1 with plain:=false}) (SetTable.fits_plain_off hlf) (hm.led.trans hled) rfl ?_
   intro h' o' a1 a2 a3
   exact wpAny_pure (fin h' o' a1 a2 a3)
  ·rename_i np
   refine wpAny_bind (wpAny_pure ?_)
   simp only[↓reduceIte]
   refine Z9i gw ho hex hd hel1 hp1 hb1 hlf (hm.led.trans hled) (by simpa using np) ?_
   intro h' o' a1 a2 a3
   exact wpAny_pure (fin h' o' a1 a2 a3)
theorem Zcw{R:Result->Shared->Prop}{I:Addr}{fp wr:List Addr}{G:Array GenState->Array GenState->Prop}{n:Nat}{P:Nat->Value->Prop}{St:Nat->Shared->Prop}
  (W:WalksS prog w A.in1 I fp wr G n P St) (S:Addr) (hSf:S∉fp) (f:Nat->Str) (hval:∀i v,P i v->∃t,v=.str (f i) t) (hb:n+1<scanBound):
  ∀(k i:Nat) (s:Shared) (o:Obj),n - i=k->i≤n->St i s->s.heap.get? S=some o->WSet prog w o (met f i)->
   (∀s' o',Moved (S::wr) G s s'->s'.heap.get? S=some o'->WSet prog w o' (met f n)->R (.ok (.ret .none)) s')->
   codeAny (model prog w) A (.builtin "set.update.loop" ⟨[.ref S,.ref I],[]⟩) R s:=by
 have hSw:S∉wr:=λh=>hSf (W.sub _ h)
 have hsub:∀b∈wr,b∈S::wr:=λb hb=>Y0g _ hb
 intro k
 induction k with
 |zero=>
  intro i s o hk hi hst ho hS hR
  have hin:i=n:=by lia
  subst hin
  refine codeAny_builtin F.entry_set_update_loop ?_
  rw[Y0K F.plain_set_update_loop _]
  show wpAny _ A.in1 (pyNext (.ref I)>>= _) _ _ s
  refine wpAny_bind (W.done s _ _ hst λs' hm=>?_)
  exact wpAny_pure (hR s' o (hm.mono hsub) (hm.heap S _ hSw ho) hS)
 |succ k ih=>
  intro i s o hk hi hst ho hS hR
  have hlt:i<n:=by lia
  refine codeAny_builtin F.entry_set_update_loop ?_
  rw[Y0K F.plain_set_update_loop _]
  show wpAny _ A.in1 (pyNext (.ref I)>>= _) _ _ s
  refine wpAny_bind (W.item i s _ _ hlt hst λv s' hP hst' hm=>?_)
  obtain⟨t,rfl⟩:=hval i v hP
  have ho':=hm.heap S _ hSw ho
  show wpAny _ A.in1 (holding [Y0v (f i) t] (setAdd S (.str (f i) t))>>= _) _ _ s'
  refine wpAny_bind (wpAny_holding ?_)
  unfold setAdd
  refine wpAny_holding (wpAny_bind ((strKind prog w).pyHash (k:=f i) (strKind_is prog w _ _) ?_))
  refine Zet (s:={s' with toks:=s'.toks+1}) ho' hS (by have:=Zdg f i;lia) λb h' o' hsb ho2 hS2=>?_
  refine wpAny_pure ⟨plainId_quiet F.plain_set_update_loop _,ih (i+1) _ o' (by lia) hlt (W.frame _ s' _ _ hst' (Y3z _) λb hb o e=>?_) ho2 hS2 λs'' o'' hm'' ho'' hS''=>?_⟩
  ·rw[hsb.2 b (λz:b=S=>hSf (by rw[<- z];exact hb))];exact e
  ·refine hR s'' o'' (Moved.trans W.gtrans ((hm.mono hsub).then_heap (Y3z _) λb o hb e=>?_) hm'') ho'' hS''
   rw[hsb.2 b (λz:b=S=>hb (by rw[z];exact Y0l))];exact e
noncomputable def Z11(w:World):Obj:={cls:=.type "set",dict:=none,data:=.set #[] 0 (.fresh 0 0 (!w.params.followText "set-order"))}
theorem Zes(a:Value){Q₁:Value->Shared->Prop}(h:Q₁ (.ref s.heap.objs.size) {s with heap:=s.heap.push (Z11 w)}):
  codeAny (model prog w) A (.call (.builtin "set.__new__") ⟨[.type "set",a],[]⟩) (wants Q₁ E) s:=by
 refine codeAny_of_tree ?_
 show wpAny _ A.in1 (do checkBuiltinCall "set.__new__" ⟨[.type "set",a],[]⟩;again (.builtin "set.__new__" ⟨[.type "set",a],[]⟩)) _ _ s
 refine wpAny_bind (wpAny_of_eq (F.newCall_set_1 a) (wpAny_pure ⟨plainId_quiet F.plain_set_new _,codeAny_builtin F.entry_set_new ?_⟩))
 rw[Y0K F.plain_set_new _]
 unfold Builtin.«set.__new__» Builtin.Frozenset.newClass
 have hsub:=sub_set_self
 obtain⟨hp,g,d,tk,os⟩:=s
 dsimp only
 wp_walk
 refine wpAny_askSetting (wpAny_pure ?_)
 dsimp only
 simp only[newObj]
 refine wpAny_bind (wpAny_alloc (wpAny_pure ?_))
 exact wpAny_pure h
theorem Ze5{l:Addr}{items:Array Value}{f:Nat->Str}{Q:Value->Shared->Prop}
  (hh:A.handled=none) (hl:s.heap.IsList l items) (hi:∀(i:Nat) (v:Value),items[i]?=some v->∃t,v=Y0v (f i) t) (hb:items.size+1<scanBound)
  (h:∀(h':Heap) (tk:Nat) (o:Obj),h'.get? s.heap.objs.size=some o->WSet prog w o (met f items.size)->
   (∀b o,b<s.heap.objs.size->s.heap.get? b=some o->h'.get? b=some o)->Q (.ref s.heap.objs.size) {s with heap:=h',toks:=tk}):
  wpAny (model prog w) A (call (.type "set") [.ref l]) Q E s:=by
 obtain⟨c,tl,hmro⟩:=Y1S.mro
 have hmade:=Y1S.made
 have hsub:=Y1S.sub
 refine wpAny_call (codeAny_of_tree ?_)
 show wpAny _ _ (callAny (.type "set") _) _ _ _
 refine wpAny_pure ⟨Code.quiet_builtin _ (by decide+kernel),codeAny_builtin F.entry_type_call ?_⟩
 rw[Around.under_plain (weight_type_call_type "set" [.ref l] []) rfl]
 have h1:=Y1S.notType
 have h2:=Y1S.canCreate
 have hct:=F.typeCall_set_1 (.ref l)
 repeat (any_goals (first|assumption|wp_step))
 refine codeAny_mono (Zes (.ref l) (E:=E) (Q₁:=λobj s₁=>obj=.ref s.heap.objs.size/\s₁={s with heap:=s.heap.push (Z11 w)}) ⟨rfl,rfl⟩) λr s₁ hr=>?_
 cases r with
 |error e=>exact hr
 |ok fl=>
  cases fl with
  |ret obj=>
   obtain⟨rfl,rfl⟩:=hr
   have hS:(s.heap.push (Z11 w)).get? s.heap.objs.size=some (Z11 w):=Y0a _ rfl
   have hT:Y2p {s with heap:=s.heap.push (Z11 w)} (.ref s.heap.objs.size) "set":=⟨_,hS,rfl⟩
   have hli:=Y1S.init.lookup
   have hbi:=Y1S.init.bind (.ref s.heap.objs.size)
   repeat (any_goals (first|assumption|wp_step))
   refine codeAny_mono (codeAny_call_builtin (R:=wants (λr s₂=>r=.none/\∃h' tk o,s₂={s with heap:=h',toks:=tk}/\
     h'.get? s.heap.objs.size=some o/\WSet prog w o (met f items.size)/\
     (∀b o,b<s.heap.objs.size->s.heap.get? b=some o->h'.get? b=some o)) E) Y1S.init.plain F.entry_set_init (check_set_init_1 hT ?_)) λr₂ s₂ hr₂=>?_
   ·obtain⟨ol,hol,hcl,nl,hdl⟩:=hl
    obtain⟨ocls,odict,odata,oslots⟩:=ol
    simp only at hcl hdl
    subst hcl;subst hdl
    have hol':(s.heap.push (Z11 w)).get? l=some {cls:=.type "list",dict:=odict,data:=.seq items nl,slots:=oslots}:=Y02 _ hol
    have hsls:=F.sub_list_set
    have hslf:=F.sub_list_frozenset
    have hne:(Y0n "list"==Y0n "dict")=false:=by decide
    have hl1:(s.heap.push (Z11 w)).IsList l items:=⟨_,hol',rfl,nl,rfl⟩
    unfold Builtin.«set.__init__» noKeywords Builtin.Frozenset.updateFrom
    generalize hPI:pyIter=PI
    wp_walk
    subst hPI
    refine wpAny_pyIter_list hl1 ?_
    refine wpAny_bind (wpAny_runValue ?_)
    have hlS:l<s.heap.objs.size:=Y09 hol
    have hneI:l≠(s.heap.push (Z11 w)).objs.size:=by
     rw[Y1p];exact Y0f (Y1q hlS)
    have hSf:s.heap.objs.size∉ [(s.heap.push (Z11 w)).objs.size,l]:=by
     rw[Y1p]
     simp only[Y0d,Y0q,or_false,not_or]
     exact⟨Y0f (Nat.lt_succ_self _),Y23 hlS⟩
    refine Zcw ((Walks.list (A:=A.in1.in1.in1) (by simp[hh]) _ l hneI items).toS) s.heap.objs.size
     hSf f hi hb (items.size - 0) 0 _ (Z11 w) (by lia) (Y1t _)
     ⟨⟨_,Y0a _ rfl,rfl,rfl⟩,(hl1.push _)⟩ (Y02 _ hS) WSet.fresh ?_
    intro s' o' hm ho' hS'
    obtain⟨h',g',d',tk',os'⟩:=s'
    have eg:g'=s.gens:=hm.gens
    have ed:d'=s.drawn:=hm.drawn
    have eo:os'=s.os:=hm.os
    subst eg;subst ed;subst eo
    refine wpAny_pure (wpAny_pure ⟨rfl,h',tk',o',rfl,ho',hS',λb o hb e=>?_⟩)
    refine hm.heap b o ?_ (Y02 _ (Y02 _ e))
    simp only[Y0d,Y0q,or_false,not_or]
    exact⟨Y0f hb,by rw[Y1p];exact Y0f (Y1q hb)⟩
   ·cases r₂ with
    |error e=>exact hr₂
    |ok fl₂=>
     cases fl₂ with
     |ret r=>
      obtain⟨rfl,h',tk,o',rfl,ho',hS',hk'⟩:=hr₂
      repeat (any_goals (first|assumption|wp_step))
      exact h _ _ _ ho' hS' hk'
     |_=>exact hr₂.elim
  |_=>exact hr.elim
end
end L2
namespace L2
open PySem PySem.Spec PyProof.Rows
theorem slot_setiter_next:Slot "set_iterator" "__next__" "set_iterator.__next__":=
 .of (owner:="set_iterator") (n:="__next__") (by rw[typeLookup_type,builtinLookup_eq_fast];kernel_rfl) (by decide+kernel) (by decide+kernel) (by decide+kernel)
  (by first|exact .inl (by decide+kernel)|exact .inr (by decide+kernel)) (by rw[isSubtype_type];kernel_rfl)
theorem Z2x:Slot "set_iterator" "__iter__" "set_iterator.__iter__":=
 .of (owner:="set_iterator") (n:="__iter__") (by rw[typeLookup_type,builtinLookup_eq_fast];kernel_rfl) (by decide+kernel) (by decide+kernel) (by decide+kernel)
  (by first|exact .inl (by decide+kernel)|exact .inr (by decide+kernel)) (by rw[isSubtype_type];kernel_rfl)
theorem Z2o:entryFor table "set_iterator.__next__"=some Builtin.«set_iterator.__next__»:=entryFor_of_fast (by kernel_rfl)
theorem Z5M:entryFor table "set_iterator.__iter__"=some Builtin.«dict_keyiterator.__iter__»:=
 entryFor_alias (id':="dict_keyiterator.__iter__") (by kernel_rfl) rfl (by decide+kernel) (by kernel_rfl)
theorem Z83:entryFor table "set.__iter__"=some Builtin.«frozenset.__iter__»:=
 entryFor_alias (id':="frozenset.__iter__") (by kernel_rfl) rfl (by decide+kernel) (by kernel_rfl)
theorem Z2S(a:Value):argsOk "set_iterator.__next__" ⟨[a],[]⟩:=by unfold argsOk;kernel_rfl
theorem Z69(a:Value):argsOk "set_iterator.__iter__" ⟨[a],[]⟩:=by unfold argsOk;kernel_rfl
theorem ers{α:Type}:∀(l:List α) (i:Nat) (h:i<l.length),(l[i]::l.eraseIdx i).Perm l
 |[],_,h=>absurd h (by simp)
 |x::xs,0,_=>.refl _
 |x::xs,i+1,h=>(List.Perm.swap x _ _).trans ((ers xs i (by simpa using h)).cons x)
section
variable{prog:Program}{w:World}{A:Around}{E:Value->Shared->Prop}{s:Shared}
theorem Zie{M:Model}{src:Source}{n:Nat}{Q:Nat->Shared->Prop}(hn:n≠0)(h:∀i d,i<n->Q i {s with drawn:=d}):wpAny M A (choose src n) Q E s:=λΓ p hΓ=>by
 unfold choose
 rw[Sem.wp_choose]
 exact⟨hn,by rw[Sem.wp_pure];exact h _ _ (Nat.mod_lt _ (Nat.pos_of_ne_zero hn))⟩
theorem Zgp{M:Model}{α:Type}:∀(n:Nat) (xs:List α) (s:Shared) (Q:List α->Shared->Prop),xs.length=n->(∀ys d,ys.Perm xs->Q ys {s with drawn:=d})->wpAny M A (drawOrder n xs) Q E s:=by
 intro n
 induction n with
 |zero=>
  intro xs s Q hl h
  unfold drawOrder
  have:xs=[]:=Y2a.mp hl
  subst this
  exact wpAny_pure (h [] s.drawn (.refl _))
 |succ n ih=>
  intro xs s Q hl h
  cases xs with
  |nil=>simp at hl
  |cons x xs=>
   unfold drawOrder
   refine wpAny_bind (Zie (by simp) λi d hi=>?_)
   rw[Y01 hi]
   dsimp only
   refine wpAny_bind (ih _ _ _ (by rw[Y2y hi];lia) λys d' hp=>wpAny_pure ?_)
   have:(((x::xs)[i])::ys).Perm (x::xs):=((List.Perm.cons _ hp).trans (ers _ _ hi))
   exact h _ d' this
theorem ZgQ{α:Type}(next:Nat->Nat):∀(n k:Nat) (left:List α) (out:Array α),left.length=n->(pickOrder.go next n k left out).toList.Perm (out.toList++left):=by
 intro n
 induction n with
 |zero=>
  intro k left out hl
  have:left=[]:=Y2a.mp hl
  subst this
  unfold pickOrder.go
  simp
 |succ n ih=>
  intro k left out hl
  unfold pickOrder.go
  have hi:next k%left.length<left.length:=Nat.mod_lt _ (by lia)
  rw[Y01 hi]
  dsimp only
  refine(ih _ _ _ (by rw[Y2y hi];lia)).trans ?_
  rw[Array.toList_push,Y1U]
  exact(List.Perm.refl _).append (by simpa using ers _ _ hi)
theorem ZcX{α:Type}(next:Nat->Nat)(xs:Array α):(pickOrder next xs).toList.Perm xs.toList:=by
 unfold pickOrder
 simpa using ZgQ next xs.size 0 xs.toList #[] (by simp)
end
end L2
namespace L2
open PySem PySem.Spec PyProof.Rows
section
variable{prog:Program}{w:World}{A:Around}{E:Value->Shared->Prop}{s:Shared}
noncomputable def SIt(h:Heap)(it S:Addr)(first:Value)(i n ep:Nat):Prop:=
 ∃o,h.get? it=some o/\o.cls=.type "set_iterator"/\o.data=.fields #[first,.int i 0,.ref S,.int n 0,.int ep 0]
theorem SIt.typeIs{it S:Addr}{first:Value}{i n ep:Nat}(x:SIt s.heap it S first i n ep):s.TypeIs (.ref it) "set_iterator":=let⟨o,ho,hc,_⟩:=x;⟨o,ho,hc⟩
theorem Z93{h:Heap}{it:Addr}{o:Obj}{vs:Array Value}(ho:h.get? it=some o)(hd:o.data=.fields vs)(j:Nat)(v:Value):
  ∃o',(h.update it (Y3H (·.setIfInBounds j v))).get? it=some o'/\o'.cls=o.cls/\o'.data=.fields (vs.setIfInBounds j v):=
 ⟨_,Y1k _ ho (Y2l (Y2b hd _)),Y2R ..,Y2b hd _⟩
noncomputable def Nx(w:World)(S:Addr)(es:Array (Int×Value))(ep:Nat)(t:SetTable)(slot i:Nat):Option (Value×Nat):=
 if w.params.followText "set-order"=true then(pickOrder (w.params.setOrder S ep) es)[i]?.map fun e=>(e.2,slot)
 else match es[Y2H t.place slot]?,t.place[Y2H t.place slot]? with
  |some (_,x),some j=>some (x,j+1)
  |_,_=>none
theorem Zez{S:Addr}{i ep slot:Nat}{o:Obj}{es:Array (Int×Value)}{t:SetTable}{Q:Option (Value×Nat)->Shared->Prop}
  (hoS:s.heap.get? S=some o) (hdS:o.data=.set es ep t) (hf:t.fits es.size=true) (hw:w.params.followText "set-order"=true\/(es.size≤1/\t.led=true))
  (h:Q (Nx w S es ep t slot i) s):wpAny (model prog w) A (setNext S slot i ep) Q E s:=by
 unfold setNext
 refine wpAny_bind (wpAny_setState_of hoS hdS hf ?_)
 refine wpAny_bind (m:=setsByText) (wpAny_bind (wpAny_askSetting (wpAny_pure ?_)))
 show wpAny _ _ (if w.params.followText "set-order"=true then _ else _) _ _ _
 unfold Nx at h
 by_cases hb:w.params.followText "set-order"=true
 ·rw[if_pos hb]
  rw[if_pos hb]at h
  simp only[bne_self_eq_false,Y0m,if_false]
  refine wpAny_bind ?_
  unfold setWalk
  refine wpAny_bind (wpAny_setState_of hoS hdS hf ?_)
  refine wpAny_bind (m:=setsByText) (wpAny_bind (wpAny_askSetting (wpAny_pure ?_)))
  show wpAny _ _ (if w.params.followText "set-order"=true then _ else _) _ _ _
  rw[if_pos hb]
  refine wpAny_bind (wpAny_askSetting (wpAny_pure (wpAny_pure ?_)))
  exact h
 ·rw[if_neg hb]
  rw[if_neg hb]at h
  obtain⟨h1,h2⟩:=hw.resolve_left hb
  have hdr:(!t.plain&&decide (es.size>1))=false:=by
   rw[decide_eq_false (by lia),Y3t]
  show wpAny _ _ (if(!t.plain&&decide (es.size>1))=true then _ else _) _ _ _
  rw[hdr,if_neg Y05]
  refine wpAny_bind ?_
  show wpAny _ _ (if(!t.led&& !es.isEmpty)=true then _ else _) _ _ _
  rw[h2]
  simp only[Y1V,Y2G,Y0m,if_false]
  exact wpAny_pure (wpAny_pure h)
theorem Zba{it:Addr}{Q:Option Value->Shared->Prop}{h₁:Heap}(hh:A.handled=none)(hk:Y3A it s.heap h₁)
  (hQ:∀h',Y3A it s.heap h'->Q none {s with heap:=h'}):
  wpAny (model prog w) A.in1 (do let x<- newExc (.type "StopIteration") [];(raiseNew x:Sem Fin)) (fun fin s'=>∃v,fin=Fin.done (Flow.ret v)/\wpAny (model prog w) A (pure (some v)) Q E s')
   (fun e s'=>wpAny (model prog w) A (do let b<- isInstance e (.type "StopIteration");if b=true then pure none else throw e) Q E s') {s with heap:=h₁}:=by
 refine wpAny_bind ?_
 simp only[newExc,newTuple]
 refine wpAny_bind (wpAny_newObj_type ?_ (by size_fits))
 refine wpAny_bind (m:=firstArgMember _ _) (wpAny_of_eq (a:=Y0j) (by first|rfl|(simp only[firstArgMember];rfl)) ?_)
 refine wpAny_newObj_type ?_ (by size_fits)
 simp only[raiseNew]
 refine wpAny_bind (wpAny_handled ?_)
 rw[show A.in1.handled=none from hh]
 refine wpAny_bind (wpAny_pure (wpAny_throw ?_))
 refine wpAny_bind (wpAny_isInstance (T:="StopIteration") (b:=true) ⟨_,Y0a _ rfl,rfl⟩ isSubtype_stop ?_)
 exact wpAny_pure (hQ _ ((hk.push _).push _))
theorem ZcK{it S:Addr}{i n ep slot:Nat}{o:Obj}{es:Array (Int×Value)}{t:SetTable}{Q:Option Value->Shared->Prop}(hh:A.handled=none)
  (hit:SIt s.heap it S (.int slot 0) i n ep) (hoS:s.heap.get? S=some o) (hdS:o.data=.set es ep t) (hf:t.fits es.size=true) (hn:es.size=n)
  (hw:w.params.followText "set-order"=true\/(es.size≤1/\t.led=true))
  (h1:∀x nx,Nx w S es ep t slot i=some (x,nx)->∀h',SIt h' it S (.int nx 0) (i+1) n ep->Y1P it s.heap h'->Q (some x) {s with heap:=h'})
  (h2:Nx w S es ep t slot i=none->∀h',Y3A it s.heap h'->Q none {s with heap:=h'}):
  wpAny (model prog w) A (pyNext (.ref it)) Q E s:=by
 obtain⟨oi,hoi,hci,hdi⟩:=id hit
 unfold pyNext
 refine wpAny_bind (wpAny_attempt (wpAny_callSpecial?_slot (name:=Y0w "__next__") hit.typeIs slot_setiter_next
  (wpAny_call_entry slot_setiter_next hit.typeIs Z2o ?_ (Z2S _))))
 show wpAny _ _ (fieldsOf (.ref it)>>= _) _ _ s
 refine wpAny_bind (wpAny_fieldsOf hoi hdi ?_)
 show wpAny _ _ (setEntries S >>= _) _ _ s
 refine wpAny_bind (wpAny_setEntries_of hoS hdS hf ?_)
 simp only[hn,bne_self_eq_false,Y0m,if_false]
 refine wpAny_bind (m:=setNext _ _ _ _) ?_
 simp only[Y1e]
 refine Zez hoS hdS hf hw ?_
 cases hx:Nx w S es ep t slot i with
 |none=>
  dsimp only
  refine wpAny_bind (wpAny_setField hoi hdi (by simp) ?_)
  exact Zba hh (Y10 ..).extBut (h2 hx)
 |some p=>
  obtain⟨x,nx⟩:=p
  dsimp only
  obtain⟨o1,ho1,hc1,hd1⟩:=Z93 hoi hdi 0 (rawInt nx)
  refine wpAny_bind (wpAny_setField hoi hdi (by simp) ?_)
  refine wpAny_bind (wpAny_setField ho1 hd1 (by simp) ?_)
  obtain⟨o2,ho2,hc2,hd2⟩:=Z93 ho1 hd1 1 (rawInt ((i:Int)+1))
  refine wpAny_pure ⟨x,rfl,wpAny_pure (h1 x nx hx _ ⟨o2,ho2,hc2.trans (hc1.trans hci),?_⟩ ((Y10 ..).trans (Y10 ..)))⟩
  rw[hd2]
  simp[rawInt]
theorem ZcJ{it S P:Addr}{i n ep:Nat}{o op:Obj}{es:Array (Int×Value)}{t:SetTable}{ps:Array Value}{np:Nat}{Q:Option Value->Shared->Prop}(hh:A.handled=none)
  (hit:SIt s.heap it S (.ref P) i n ep) (hoS:s.heap.get? S=some o) (hdS:o.data=.set es ep t) (hf:t.fits es.size=true) (hn:es.size=n)
  (hoP:s.heap.get? P=some op) (hdP:op.data=.seq ps np)
  (h1:∀v,ps[i]?=some v->∃(p:Nat) (e:Int×Value),v=.int p 0/\es[p]?=some e/\∀h',SIt h' it S (.ref P) (i+1) n ep->Y1P it s.heap h'->Q (some e.2) {s with heap:=h'})
  (h2:ps[i]?=none->∀h',Y3A it s.heap h'->Q none {s with heap:=h'}):
  wpAny (model prog w) A (pyNext (.ref it)) Q E s:=by
 obtain⟨oi,hoi,hci,hdi⟩:=id hit
 unfold pyNext
 refine wpAny_bind (wpAny_attempt (wpAny_callSpecial?_slot (name:=Y0w "__next__") hit.typeIs slot_setiter_next
  (wpAny_call_entry slot_setiter_next hit.typeIs Z2o ?_ (Z2S _))))
 show wpAny _ _ (fieldsOf (.ref it)>>= _) _ _ s
 refine wpAny_bind (wpAny_fieldsOf hoi hdi ?_)
 show wpAny _ _ (setEntries S >>= _) _ _ s
 refine wpAny_bind (wpAny_setEntries_of hoS hdS hf ?_)
 simp only[hn,bne_self_eq_false,Y0m,if_false]
 refine wpAny_bind (m:=seqItems? _) (wpAny_seqItems hoP hdP ?_)
 simp only[Y1e]
 cases hx:ps[i]? with
 |none=>
  dsimp only
  obtain⟨o1,ho1,hc1,hd1⟩:=Z93 hoi hdi 0 (rawInt 0)
  refine wpAny_bind (wpAny_setField hoi hdi (by simp) ?_)
  refine wpAny_bind (wpAny_setField ho1 hd1 (by simp) ?_)
  refine Zba (s:=s) (it:=it) hh ?_ (h2 hx)
  exact Heap.SameBut.extBut (Heap.SameBut.trans (Y10 _ _ _) (Y10 _ _ _))
 |some v=>
  obtain⟨p,e,rfl,he,hq⟩:=h1 v hx
  dsimp only
  refine wpAny_bind ?_
  unfold setNextDrawn
  refine wpAny_bind (wpAny_setState_of hoS hdS hf ?_)
  simp only[Y1e,bne_self_eq_false,Y0m,if_false,he]
  obtain⟨k,x⟩:=e
  refine wpAny_pure ?_
  obtain⟨o1,ho1,hc1,hd1⟩:=Z93 hoi hdi 1 (rawInt ((i:Int)+1))
  refine wpAny_bind (wpAny_setField hoi hdi (by simp) ?_)
  refine wpAny_pure ⟨x,rfl,wpAny_pure (hq _ ⟨o1,ho1,hc1.trans hci,?_⟩ (Y10 ..))⟩
  rw[hd1]
  simp[rawInt]
end
end L2
namespace L2
open PySem PySem.Spec PyProof.Rows
section
variable{prog:Program}{w:World}{A:Around}{E:Value->Shared->Prop}{s:Shared}
theorem Zbb{it S:Addr}{first:Value}{i n ep:Nat}{Q:Value->Shared->Prop}(hit:SIt s.heap it S first i n ep)(h:Q (.ref it) s):
  wpAny (model prog w) A (pyIter (.ref it)) Q E s:=by
 refine wpAny_pyIter_slot hit.typeIs Z2x (wpAny_call_entry Z2x hit.typeIs Z5M ?_ (Z69 _))
 show wpAny _ _ (ret (.ref it)) _ _ s
 exact wpAny_pure ⟨_,rfl,"set_iterator",_,hit.typeIs,slot_setiter_next.lookup,h⟩
theorem SIt.at{h h':Heap}{it S:Addr}{first:Value}{i n ep:Nat}(x:SIt h it S first i n ep)(e:∀o,h.get? it=some o->h'.get? it=some o):SIt h' it S first i n ep:=
 let⟨o,ho,r⟩:=x;⟨o,e _ ho,r⟩
theorem Zig(hh:A.handled=none){I S:Addr}{n ep:Nat}{o:Obj}{es:Array (Int×Value)}{t:SetTable}{vs:List Value}{Good:Nat->Nat->Prop}(hne:S≠I)
  (hdS:o.data=.set es ep t) (hf:t.fits es.size=true) (hn:es.size=n) (hw:w.params.followText "set-order"=true\/(es.size≤1/\t.led=true))
  (hg:∀i sl,Good i sl->(i<n->∃x nx,Nx w S es ep t sl i=some (x,nx)/\vs[i]?=some x/\Good (i+1) nx)/\(i=n->Nx w S es ep t sl i=none)):
  Walks prog w A I [I,S] [I] n (λi v=>vs[i]?=some v) (λi h=>∃sl,Good i sl/\SIt h I S (.int (sl:Nat) 0) i n ep/\h.get? S=some o)where
 sub:=λb hb=>by simp at hb;simp[hb]
 frame:=λ_ _ _ st hk=>let⟨sl,g,st1,st2⟩:=st;⟨sl,g,st1.at λo e=>hk I (by simp) o e,hk S (by simp) _ st2⟩
 item:=λi s Q E hi st hQ=>by
  obtain⟨sl,g,st1,st2⟩:=st
  obtain⟨x,nx,e1,e2,g2⟩:=(hg i sl g).1 hi
  refine ZcK hh st1 st2 hdS hf hn hw (λx' nx' q h' a1 a2=>?_) (λq=>by rw[e1]at q;simp at q)
  rw[e1]at q
  simp only[Y2h,Prod.mk.injEq]at q
  obtain⟨rfl,rfl⟩:=q
  exact hQ _ h' s.toks e2 ⟨_,g2,a1,(a2.2 S hne).trans st2⟩ λb o hb e=>(a2.2 b (λz=>hb (by simp[z]))).trans e
 done:=λs Q E st hQ=>by
  obtain⟨sl,g,st1,st2⟩:=st
  have e1:=(hg n sl g).2 rfl
  refine ZcK hh st1 st2 hdS hf hn hw (λx' nx' q h' a1 a2=>by rw[e1]at q;simp at q) (λ_ h' a=>hQ h' s.toks λb o hb e=>a b o (λz=>hb (by simp[z])) e)
 self:=λ_ _ _ _ st hQ=>let⟨_,_,st1,_⟩:=st;Zbb st1 hQ
theorem Zif(hh:A.handled=none){I S P:Addr}{n ep np:Nat}{o op:Obj}{es:Array (Int×Value)}{t:SetTable}{js:List Nat}{vs:List Value}(hne:S≠I)(hnp:P≠I)
  (hdS:o.data=.set es ep t) (hf:t.fits es.size=true) (hn:es.size=n) (hdP:op.data=.seq (js.map λi:Nat=>rawInt i).toArray np)
  (hl:js.length=n) (hj:∀(i:Nat) (j:Nat),js[i]?=some j->∃e,es[j]?=some e/\vs[i]?=some e.2):
  Walks prog w A I [I,S,P] [I] n (λi v=>vs[i]?=some v) (λi h=>SIt h I S (.ref P) i n ep/\h.get? S=some o/\h.get? P=some op)where
 sub:=λb hb=>by simp at hb;simp[hb]
 frame:=λ_ _ _ st hk=>⟨st.1.at λo e=>hk I (by simp) o e,hk S (by simp) _ st.2.1,hk P (by simp) _ st.2.2⟩
 item:=λi s Q E hi st hQ=>by
  refine ZcJ hh st.1 st.2.1 hdS hf hn st.2.2 hdP (λv hv=>?_) (λq=>?_)
  ·simp only[List.getElem?_toArray,Y06,Y2d]at hv
   obtain⟨j,hj1,rfl⟩:=hv
   obtain⟨e,he,hv⟩:=hj i j hj1
   exact⟨j,e,rfl,he,λh' a1 a2=>hQ _ h' s.toks hv ⟨a1,(a2.2 S hne).trans st.2.1,(a2.2 P hnp).trans st.2.2⟩ λb o hb e=>(a2.2 b (λz=>hb (by simp[z]))).trans e⟩
  ·simp at q
   lia
 done:=λs Q E st hQ=>by
  refine ZcJ hh st.1 st.2.1 hdS hf hn st.2.2 hdP (λv hv=>?_) (λ_ h' a=>hQ h' s.toks λb o hb e=>a b o (λz=>hb (by simp[z])) e)
  simp only[List.getElem?_toArray,Y06,Y2d]at hv
  obtain⟨j,hj1,rfl⟩:=hv
  rw[Y0Q (by lia)]at hj1
  simp at hj1
 self:=λ_ _ _ _ st hQ=>Zbb st.1 hQ
theorem Zed{α:Type}(es:Array α){js:List Nat}(hp:js.Perm (Y0E es.size)):
  ∃ys:List α,ys.Perm es.toList/\ys.length=js.length/\∀(i:Nat) (j:Nat),js[i]?=some j->∃e,es[j]?=some e/\ys[i]?=some e:=by
 have hin:∀j∈js,j<es.size:=λj hj=>Y2E.mp (hp.mem_iff.mp hj)
 refine⟨js.filterMap λj=>es[j]?,(hp.filterMap _).trans (by rw[filterMap_getElem?_range]),?_⟩
 clear hp
 induction js with
 |nil=>exact⟨rfl,λi j h=>by simp at h⟩
 |cons j js ih=>
  have hj:=hin j Y0l
  obtain⟨h1,h2⟩:=ih λk hk=>hin k (Y0g _ hk)
  rw[List.filterMap_cons_some (b:=es[j]) (by simp[hj])]
  refine⟨by simp[h1],λi k h=>?_⟩
  cases i with
  |zero=>
   simp at h
   subst h
   exact⟨es[j],by simp[hj],rfl⟩
  |succ i=>
   simp at h
   obtain⟨e,he,hy⟩:=h2 i k h
   exact⟨e,he,by simpa using hy⟩
noncomputable def Zm5(prog:Program)(w:World)(zs:List Str)(s₀:Heap)(S I:Addr)(h':Heap):Prop:=
 ∃(fp:List Addr) (n:Nat) (vs:List Value) (St:Nat->Heap->Prop),
  (∀A':Around,A'.handled=none->Walks prog w A' I fp [I] n (λi v=>vs[i]?=some v) St)/\St 0 h'/\vs.length=n/\(vs.map txt).Perm zs/\(∀v∈vs,∃t,v=Y0v (txt v) t)/\
  (∀b∈fp,b=S\/s₀.objs.size≤b)/\s₀.objs.size≤I
theorem Zac{p:Array Nat}(h:p.size=1)(j:Nat):Y2H p j=if p[0]'(by lia)<j then 1 else 0:=by
 obtain⟨l⟩:=p
 match l,h with
 |[a],_=>
  show(if 0<1 then(if(#[a]:Array Nat).getD ((0+1)/2) j<j then Y3M #[a] j 0 ((0+1)/2+1) 1 else Y3M #[a] j 0 0 ((0+1)/2))else 0)=if a<j then 1 else 0
  rw[if_pos (by lia)]
  rfl
theorem Zcx{S:Addr}{o:Obj}{zs:List Str}{Q:Value->Shared->Prop}(ho:s.heap.get? S=some o)(hS:WSet prog w o zs)
  (hQ:∀(I:Addr) (h':Heap) d,Zm5 prog w zs s.heap S I h'->(∀b o,s.heap.get? b=some o->h'.get? b=some o)->Q (.ref I) {s with heap:=h',drawn:=d}):
  wpAny (model prog w) A (pyIter (.ref S)) Q E s:=by
 obtain⟨hex,es,ep,t,hd,hel,hp,hb,hf,hled,hpl⟩:=id hS
 have hT:s.TypeIs (.ref S) "set":=⟨o,ho,hex.1⟩
 have hSl:S<s.heap.objs.size:=Y09 ho
 have hsz:es.size=zs.length:=by rw[<- hp.length_eq,Y03,Y0c]
 have hst:∀e∈es.toList,∃t,e.2=Y0v (txt e.2) t:=λe he=>by
  obtain⟨⟨k,hk,_⟩,_⟩:=hel e he
  obtain⟨t,ht⟩:=isT.mp hk
  exact⟨t,by rw[ht];rfl⟩
 have hsl:sizeLine=16777216:=by decide
 have hsb:scanBound=4096:=rfl
 refine wpAny_pyIter_slot hT F.slot_set_iter (wpAny_call_entry F.slot_set_iter hT Z83 ?_ (F.args_set_iter_1 _))
 show wpAny _ _ (Y2S S >>= _) _ _ s
 refine wpAny_bind (m:=Y2S S) (wpAny_bind (wpAny_setEntries_of ho hd hf (wpAny_pure ?_)))
 refine wpAny_bind (m:=setDrawn S) ?_
 unfold setDrawn
 refine wpAny_bind (wpAny_setState_of ho hd hf ?_)
 refine wpAny_bind (m:=setsByText) (wpAny_bind (wpAny_askSetting (wpAny_pure (wpAny_pure ?_))))
 show wpAny _ _ (if(!w.params.followText "set-order"&&(!t.plain&&decide (es.size>1)))=true then _ else _) _ _ _
 have rest:∀(first:Value) (s₁:Shared) (R:Fin->Shared->Prop),s₁.heap.get? S=some o->
   R (.done (.ret (.ref s₁.heap.objs.size))) {s₁ with heap:=s₁.heap.push {cls:=.type "set_iterator",data:=.fields #[first,.int 0 0,.ref S,.int (es.size:Nat) 0,.int ep 0]} }->
   wpAny (model prog w) A.in1 (do let e<- setEpoch S;let v<- newFields "set_iterator" [first,rawInt 0,.ref S,rawInt (es.size:Nat),rawInt e];ret v) R E s₁:=by
  intro first s₁ R ho₁ h
  refine wpAny_bind (wpAny_setEpoch_of ho₁ hd hf ?_)
  exact wpAny_bind (wpAny_newObj_type (wpAny_pure h))
 have small:∀(Good:Nat->Nat->Prop) (vs:List Value),Good 0 0->vs.length=es.size->(vs.map txt).Perm zs->(∀v∈vs,∃t,v=Y0v (txt v) t)->
   (w.params.followText "set-order"=true\/(es.size≤1/\t.led=true))->
   (∀i sl,Good i sl->(i<es.size->∃x nx,Nx w S es ep t sl i=some (x,nx)/\vs[i]?=some x/\Good (i+1) nx)/\(i=es.size->Nx w S es ep t sl i=none))->
   ∀(s₁:Shared),s₁=s->wpAny (model prog w) A.in1 (do let e<- setEpoch S;let v<- newFields "set_iterator" [rawInt 0,rawInt 0,.ref S,rawInt (es.size:Nat),rawInt e];ret v)
    (fun fin s'=>∃v,fin=Fin.done (Flow.ret v)/\∃T' r,s'.TypeIs v T'/\typeLookup (.type T') "__next__"=pure (some r)/\Q v s') E s₁:=by
  intro Good vs g0 hlv hpv hsv hw hg s₁ e₁
  subst e₁
  refine rest _ _ _ ho ⟨_,rfl,"set_iterator",_,⟨_,Y0a _ rfl,rfl⟩,slot_setiter_next.lookup,?_⟩
  refine hQ _ _ s₁.drawn ⟨[s₁.heap.objs.size,S],es.size,vs,_,λA' hh=>Zig hh (Y0f hSl) hd hf rfl hw hg,⟨0,g0,⟨_,Y0a _ rfl,rfl,rfl⟩,Y02 _ ho⟩,hlv,hpv,hsv,λb hb=>?_,Y07 _⟩ λb o e=>Y02 _ e
  simp only[Y0d,Y0q,or_false]at hb
  rcases hb with rfl|rfl
  ·exact .inr (Y07 _)
  ·exact .inl rfl
 by_cases hbt:w.params.followText "set-order"=true
 ·rw[hbt]
  simp only[Y1V,Y2G,Y0m,if_false]
  refine wpAny_bind (wpAny_pure ?_)
  have hpk:=ZcX (w.params.setOrder S ep) es
  refine small (λ_ _=>True) ((pickOrder (w.params.setOrder S ep) es).toList.map (·.2)) trivial ?_ ?_ ?_ (.inl hbt) ?_ s rfl
  ·rw[Y03,hpk.length_eq,Y0c]
  ·rw[Y0R]
   exact(hpk.map _).trans hp
  ·intro v hv
   obtain⟨e,he,rfl⟩:=Y0o.mp hv
   exact hst e (hpk.mem_iff.mp he)
  ·intro i sl _
   have hps:(pickOrder (w.params.setOrder S ep) es).size=es.size:=by rw[<- Y0c,hpk.length_eq,Y0c]
   unfold Nx
   rw[if_pos hbt]
   refine⟨λhi=>?_,λhi=>?_⟩
   ·rw[Y0W (by lia)]
    exact⟨_,_,rfl,by simp[hps,hi],trivial⟩
   ·rw[Y2e (by lia)]
    rfl
 ·have hbf:w.params.followText "set-order"=false:=by simpa using hbt
  have hlt:t.led=true:=by rw[hled,hbf];rfl
  rw[hbf]
  simp only[Y2I,Y3I]
  by_cases h1:es.size>1
  ·have hz:zs≠ []:=λz=>by rw[z,List.length_nil]at hsz;lia
   rw[hpl hz,decide_eq_true h1]
   simp only[Y2I,Bool.and_self,if_true]
   refine wpAny_bind (Zgp _ _ _ _ (by simp) λjs d hj=>?_)
   obtain⟨ys,hy1,hy2,hy3⟩:=Zed es hj
   have hjl:js.length=es.size:=by rw[hj.length_eq,Y15]
   refine wpAny_bind (wpAny_newTuple ?_ (by rw[Y03];lia))
   refine rest _ _ _ (Y02 _ ho) ⟨_,rfl,"set_iterator",_,⟨_,Y0a _ rfl,rfl⟩,slot_setiter_next.lookup,?_⟩
   have hPne:s.heap.objs.size≠(s.heap.push {cls:=.type "tuple",data:=.seq (js.map fun i:Nat=>rawInt i).toArray}).objs.size:=by rw[Y1p];lia
   have hSne:S≠(s.heap.push {cls:=.type "tuple",data:=.seq (js.map fun i:Nat=>rawInt i).toArray}).objs.size:=by rw[Y1p];exact Y0f (Y1q hSl)
   have hIle:s.heap.objs.size≤(s.heap.push {cls:=.type "tuple",data:=.seq (js.map fun i:Nat=>rawInt i).toArray}).objs.size:=by rw[Y1p];lia
   refine hQ _ _ d ⟨[_,S,s.heap.objs.size],es.size,ys.map (·.2),_,λA' hh=>Zif hh (S:=S) (P:=s.heap.objs.size) (o:=o) (js:=js)
    (op:={cls:=.type "tuple",data:=.seq (js.map fun i:Nat=>rawInt i).toArray}) hSne hPne hd hf rfl rfl hjl ?_,
    ⟨⟨_,Y0a _ rfl,rfl,rfl⟩,Y02 _ (Y02 _ ho),Y02 _ (Y0a _ rfl)⟩,?_,?_,?_,λb hb=>?_,?_⟩
    λb o e=>Y02 _ (Y02 _ e)
   ·intro i j hij
    obtain⟨e,he,hy⟩:=hy3 i j hij
    exact⟨e,he,by rw[Y06,hy];rfl⟩
   ·rw[Y03,hy2,hjl]
   ·rw[Y0R]
    exact(hy1.map _).trans hp
   ·intro v hv
    obtain⟨e,he,rfl⟩:=Y0o.mp hv
    exact hst e (hy1.mem_iff.mp he)
   ·simp only[Y0d,Y0q,or_false]at hb
    rcases hb with rfl|rfl|rfl
    ·exact .inr hIle
    ·exact .inl rfl
    ·exact .inr (Y07 _)
   ·exact hIle
  ·rw[decide_eq_false h1]
   simp only[Y3t,Y0m,if_false]
   refine wpAny_bind (wpAny_pure ?_)
   have hfp:t.place.size=es.size:=by
    simp only[SetTable.fits,Y04,beq_iff_eq,decide_eq_true_eq]at hf
    exact hf.1
   refine small (λi sl=>(i=0->sl=0)/\(i=1->∃h:0<t.place.size,sl=t.place[0]+1)) (es.toList.map (·.2)) ⟨λ_=>rfl,λz=>absurd z (by lia)⟩ (by simp) ?_ ?_ (.inr ⟨by lia,hlt⟩) ?_ s rfl
   ·rw[Y0R]
    exact hp
   ·intro v hv
    obtain⟨e,he,rfl⟩:=Y0o.mp hv
    exact hst e he
   ·intro i sl ⟨g0,g1⟩
    unfold Nx
    rw[if_neg hbt]
    refine⟨λhi=>?_,λhi=>?_⟩
    ·have hs1:es.size=1:=by lia
     have hi0:i=0:=by lia
     subst hi0
     have hpz:t.place.size=1:=by lia
     rw[g0 rfl,Zac hpz,if_neg (by lia),Y0W (by lia),Y0W (by lia)]
     refine⟨_,_,rfl,?_,λz=>absurd z (by lia),λ_=>⟨by lia,rfl⟩⟩
     simp[hs1]
    ·have hnone:es[Y2H t.place sl]?=none:=by
      by_cases h0:es.size=0
      ·exact Y2e (by lia)
      ·have hs1:es.size=1:=by lia
       obtain⟨hq,e⟩:=g1 (by lia)
       rw[e,Zac (by lia),if_pos (by lia)]
       exact Y2e (by lia)
     rw[hnone]
end
end L2
namespace L2
open PySem PySem.Spec PyProof.Rows
section
variable{prog:Program}{w:World}{A:Around}{E:Value->Shared->Prop}{s:Shared}
theorem Z9V{S:Addr}{o:Obj}{zs:List Str}{Q:List Value->Shared->Prop}(hh:A.handled=none)(ho:s.heap.get? S=some o)(hS:WSet prog w o zs)
  (hQ:∀(vs:List Value) (h':Heap) (d:Drawn) (g:Array GenState) tk,(vs.map txt).Perm zs->(∀v∈vs,∃t,v=Y0v (txt v) t)->(∀b o,s.heap.get? b=some o->h'.get? b=some o)->g=s.gens->s.heap.objs.size≤h'.objs.size->
   Q vs {s with heap:=h',drawn:=d,gens:=g,toks:=tk}):wpAny (model prog w) A (collect (.ref S)) Q E s:=by
 obtain⟨hex,es,ep,t,hd,hel,hp,hb,hf,hled,hpl⟩:=id hS
 have hSl:S<s.heap.objs.size:=Y09 ho
 have hsl:sizeLine=16777216:=by decide
 have hsb:scanBound=4096:=rfl
 have hsz:es.size=zs.length:=by rw[<- hp.length_eq,Y03,Y0c]
 unfold collect
 refine wpAny_bind (wpAny_runValue (codeAny_builtin F.entry_proto_collect ?_))
 rw[Y0K F.plain_proto_collect _]
 show wpAny _ A.in1 (newList [] >>= fun l=>again (.builtin "list.__iadd__" ⟨[l,.ref S],[]⟩)) _ _ s
 refine wpAny_bind (wpAny_newObj_type ?_)
 refine wpAny_pure ⟨plainId_quiet F.plain_list_iadd _,codeAny_builtin F.entry_list_iadd ?_⟩
 rw[Y0K F.plain_list_iadd _]
 show wpAny _ A.in1 (Y2t (.ref s.heap.objs.size) (.ref S) (.ref s.heap.objs.size)) _ _ _
 have hne:s.heap.objs.size≠S:=(Y0f hSl).symm
 generalize hL:s.heap.objs.size=L at*
 have hgL:(s.heap.push {cls:=.type "list",data:=.seq ([]:List Value).toArray}).get? L=some {cls:=.type "list",data:=.seq ([]:List Value).toArray}:=by
  rw[<- hL];exact Y0a _ rfl
 have hgS:(s.heap.push {cls:=.type "list",data:=.seq ([]:List Value).toArray}).get? S=some o:=Y02 _ ho
 have hbig:(s.heap.push {cls:=.type "list",data:=.seq ([]:List Value).toArray}).objs.size=L+1:=by rw[Y1p,hL]
 have hold:∀b u,s.heap.get? b=some u->b≠L/\(s.heap.push {cls:=.type "list",data:=.seq ([]:List Value).toArray}).get? b=some u:=fun b u e=>
  ⟨by rw[<- hL];exact Y0f (Y09 e),Y02 _ e⟩
 generalize s.heap.push {cls:=.type "list",data:=.seq ([]:List Value).toArray}=h₁ at*
 have hT:Y2p {s with heap:=h₁} (.ref S) "set":=⟨o,hgS,hex.1⟩
 unfold Y2t
 refine wpAny_bind (wpAny_typeOf hT ?_)
 have e1:Y2T (.ref L) (.ref S)=false:=by simp[Y2T,hne]
 have e2:(Y0n "set"==Y0n "list")=false:=by decide
 have e3:(Y0n "set"==Y0n "tuple")=false:=by decide
 simp only[e1,e2,e3,Y3G,Y0m,if_false]
 refine wpAny_bind (Zcx (s:={s with heap:=h₁}) hgS hS λI h₂ d hW hk=>?_)
 obtain⟨fp,n,vs,St,hWk,hst,hvn,hvp,hvs,hfp,hI⟩:=hW
 have hk':∀b u,h₁.get? b=some u->h₂.get? b=some u:=hk
 have hT2:Y2p {s with heap:=h₂,drawn:=d} (.ref S) "set":=⟨o,hk' _ _ hgS,hex.1⟩
 refine wpAny_bind (wpAny_holding ?_)
 unfold Builtin.List.listLengthHint
 refine wpAny_bind (wpAny_specialOf hT2 F.slot_set_len.lookup ?_)
 have hsp:splitId "set.__len__"=some ("set","__len__"):=by decide+kernel
 extract_lets j1 j2
 dsimp -zeta only
 rw[hsp]
 dsimp -zeta only
 refine wpAny_bind (wpAny_isInstance hT2 sub_set_self ?_)
 simp only[Y1V,Y0m,if_false]
 show wpAny _ _ (ite (_=true) _ _) _ _ _
 split
 case isFalse hs=>exact absurd (by rfl) hs
 refine wpAny_bind (wpAny_typeOf hT2 ?_)
 refine wpAny_pure ?_
 split
 case isFalse hs=>exact absurd (by rfl) hs
 refine wpAny_bind (wpAny_rule ?_)
 refine wpAny_bind ?_
 have hS₁:h₂.get? L=some {cls:=.type "list",data:=.seq ([]:List Value).toArray}:=hk' _ _ hgL
 show wpAny _ A.in1 (updateSeq L (·.push .none)>>= λ_=>updateSeq L (·.pop)) _ _ _
 refine wpAny_bind (wpAny_updateSeq hS₁ rfl ?_)
 have hS₂:=Y1k (Y2O (·.push Y0j)) hS₁ rfl
 refine wpAny_updateSeq hS₂ rfl ?_
 have hS₃:=Y1k (Y2O (·.pop)) hS₂ rfl
 have oth:∀b o,b≠L->h₂.get? b=some o->((h₂.update L (Y2O (·.push Y0j))).update L (Y2O (·.pop))).get? b=some o:=
  λb o hb e=>(Y1v _ _ (Y2F hb)).trans ((Y1v _ _ (Y2F hb)).trans e)
 have hLf:L∉fp:=λz=>by
  rcases hfp L z with e|e
  ·exact hne e
  ·have:L+1≤L:=hbig▸e
   lia
 have hin:A.in1.handled=none:=by simp[hh]
 have W:=(hWk A.in1 hin).toS
 have hn:n≤sizeLine:=by
  have:n=zs.length:=by rw[<- hvn,<- hvp.length_eq,Y03]
  lia
 refine wpAny_pure ⟨plainId_quiet F.plain_extend_loop _,codeAny_extend_loopS W hn L hLf _ n 0 _ _ _ rfl (Y1t _)
  (W.frame 0 ({s with heap:=h₂,drawn:=d}:Shared) _ s.toks hst (Y07 _) λb hb o e=>oth b o (λz=>hLf (z▸hb)) e) hS₃ (ItemsOf.nil _) λs' acc' c' hm hS' hacc=>?_⟩
 show wpAny _ A (load L >>= _) _ _ s'
 refine wpAny_bind (wpAny_load hS' ?_)
 have hav:acc'.toList=vs:=by
  refine Y2i λi=>?_
  by_cases hi:i<acc'.size
  ·have e:=hacc.2 i acc'[i] (by simp[hi])
   rw[e]
   simp[hi]
  ·rw[Y0Q (by simp;lia),Y0Q (by have:=hacc.1;lia)]
 obtain⟨h',g',d',tk',os'⟩:=s'
 have eg:g'=s.gens:=hm.gens
 have ed:d'=d:=hm.drawn
 have eo:os'=s.os:=hm.os
 subst ed;subst eo
 refine wpAny_pure ?_
 show Q acc'.toList _
 rw[hav]
 refine hQ vs h' _ g' tk' hvp hvs (λb u e=>?_) eg (Y3a (Y09 hS'))
 have hbL:=hold b u e
 refine hm.heap b u ?_ (oth b u hbL.1 (hk' b u hbL.2))
 simp only[Y0d,Y0q,or_false,not_or]
 refine⟨hbL.1,λz=>?_⟩
 have h1:L+1≤I:=Y0N (Y26 hbig.symm) hI
 have h2:b<L:=by rw[<- hL];exact Y09 e
 rw[z]at h2
 exact absurd h1 (Nat.not_le_of_lt (Y1q h2))
theorem Zar{S:Addr}{o:Obj}{zs:List Str}{Q:Value->Shared->Prop}(hh:A.handled=none)(ho:s.heap.get? S=some o)(hS:WSet prog w o zs)(h64:zs.length<64)
  (h:∀(p:Addr) (h':Heap) (d:Drawn) tk (out:List Value) (ss:List Str) (e:Nat),s.heap.objs.size≤p->(∀b o,s.heap.get? b=some o->h'.get? b=some o)->h'.get? p=some (seqObj "list" out.toArray e)->
   StrsAre out ss->ss.Perm zs->sortedS ss=true->Q (.ref p) {s with heap:=h',drawn:=d,toks:=tk}):
  wpAny (model prog w) A (call (.builtin "sorted") [.ref S]) Q E s:=by
 refine Calls.call_function_entry kind_sorted plain_sorted entry_sorted (args_sorted1 _) ?_
 unfold Builtin.«sorted»
 refine wpAny_bind (m:=checkCount "sorted" 1 1 _) (wpAny_pure ?_)
 have hsl:sizeLine=16777216:=by decide
 refine wpAny_bind (Z9V (by simp[hh]) ho hS λvs h₁ d g tk hp hv hk hg hle=>?_)
 subst hg
 have hl:vs.length=zs.length:=by rw[<- hp.length_eq,Y03]
 refine wpAny_bind (wpAny_newList ?_ (by lia))
 have hoL:(h₁.push (seqObj "list" vs.toArray 0)).get? h₁.objs.size=some (seqObj "list" vs.toArray 0):=Y0a _ rfl
 have hS':StrsAre vs (vs.map strOf):=strsAre_map vs λv hm=>by obtain⟨t,e⟩:=hv v hm;exact⟨_,t,e⟩
 have hto:vs.map strOf=vs.map txt:=List.map_congr_left λv hm=>by obtain⟨t,e⟩:=hv v hm;rw[e];rfl
 show wpAny _ _ _ _ _ {s with heap:=h₁.push (seqObj "list" vs.toArray 0),drawn:=d,toks:=tk}
 refine wpAny_bind (wpAny_holding (wpAny_call_entry slot_list_sort ⟨_,hoL,rfl⟩ entry_list_sort (list_sort_treeK strKind_oneLt hoL hS'.keysOf (λv₁ v₂ rest e=>keyKind_strs (by rw[<- e];exact hS')) (by lia) λst' a1 a2=>⟨_,rfl,?_⟩) (args_list_sort _)))
 obtain⟨ss',z1,z2,z3⟩:=sorted_out_str hS' a1 a2
 refine wpAny_pure ⟨_,rfl,?_⟩
 obtain⟨e,he⟩:=sortedHeap_at (out:=(arrOf st').map (·.2)) hoL
 refine h h₁.objs.size _ d tk ((arrOf st').map (·.2)).toList ss' e hle (λb o hb=>?_) (by rw[Array.toArray_toList];exact he) z1 (by rw[hto]at z2;exact z2.trans hp) z3
 have hb1:=hk b o hb
 have hlt:b<h₁.objs.size:=Y09 hb1
 rw[sortedHeap_old (Y0f hlt) (by rw[size_push'];exact Y1q hlt)]
 exact Y02 _ hb1
end
end L2
namespace L2
open PySem PySem.Spec PyProof.Rows
theorem Inv.drew{X:Cx}{pins:List (Addr×Obj)}{σ:St}{H:Hp}{s:Shared}(I:Inv X pins σ H s)(d:Drawn):Inv X pins σ H {s with drawn:=d}:=
 ⟨I.ok,I.os,I.bare,I.base,I.loc,I.cell,I.free,I.freeC,I.pin,I.hok,I.len⟩
theorem few{zs:List Str}(nd:zs.Nodup):∀(N:List Str),(∀z∈zs,z∈N)->zs.length≤N.length:=by
 induction zs with
 |nil=>intro N _;exact Y1t _
 |cons z zs ih=>
  intro N h
  rw[Y1j]at nd
  have hz:=h z Y0l
  have hp:=List.perm_cons_erase hz
  have:=ih nd.2 (N.erase z) λy hy=>by
   have:=hp.mem_iff.mp (h y (Y0g _ hy))
   rcases Y0d.mp this with e|e
   ·exact absurd (e▸hy) nd.1
   ·exact e
  have hl:=hp.length_eq
  simp only[Y0I]at hl ⊢
  lia
theorem Z9f:∀{vs:List Value} {ss:List Str},StrsAre vs ss->Vals (ss.map V.str) vs
 |_,_,.nil=>.nil
 |_,_,.cons x t h=>.cons ⟨t,rfl⟩ (Z9f h)
noncomputable def Zeq(X:Cx)(f g:Value)(r:V->Hp->VK->Prop):Prop:=
 ∀(pins:List (Addr×Obj)) (s:Shared) (σ:St) (H:Hp) (x:V) (u:Value) (Q:VK),Inv X pins σ H s->RelV x u->r x H Q->
  wpAny (model X.prog X.w) X.A (call g [u]) (λv s1=>wpAny (model X.prog X.w) X.A (call f [v]) (EP X pins σ Q) X.xe s1) X.xe s
section
variable{X:Cx}
theorem Z8Q{x y:Str}{id T:String}{r:V->Hp->VK->Prop}{e:Expr}{t:TE}{p p' pos pos':Pos}(hc:Zeq X (.builtin id) (.type T) r)
  (hg:Gl X x) (hm:X.mg x=none) (hv:bootBuiltins x=some (.builtin id)) (hg':Gl X y) (hm':X.mg y=none) (hv':bootBuiltins y=some (.type T)) (ha:PE X e t)
  (hn:x≠"__name__") (hdb:(x==("__debug__":Str))=false) (hn':y≠"__name__") (hdb':(y==("__debug__":Str))=false)
  (he:starEach [e] X.env=(false,eval e X.env)::starEach [] X.env):
  PE X (.Call (.Name x p) [.Call (.Name y p') [e] [] pos'] [] pos) (λσ H Q=>t σ H λv H1=>r v H1 Q):=by
 intro pins s σ H Q I h
 refine wpAny_Call_Name_kw (Z3b I hg hm hv ?_ hn hdb)
 refine Y2k ?_ rfl rfl
 show wpAny _ _ (spliced ((false,eval (.Call (.Name y p') [e] [] pos') X.env)::backTo pos (starEach [] X.env))) _ _ s
 refine Y1O ?_
 refine wpAny_Call_Name_kw (Z3b I hg' hm' hv' ?_ hn' hdb')
 refine Y0O ?_ he rfl
 rw[he]
 show wpAny _ _ (spliced ((false,eval e X.env)::backTo pos' (starEach [] X.env))) _ _ s
 refine Y1O (thn (ha pins s σ H _ I h) λu s1 ⟨v,H1,I1,r1,q1⟩=>?_)
 refine Y1T ?_
 exact thn (hc pins s1 σ H1 v u Q I1 r1 q1) λu2 s2 q2=>Y1T q2
theorem Ze4(hcalm:X.calm=true):Zeq X (.builtin "sorted") (.type "set") (fun x H Q=>∃(a:Addr) (xs N:List Str),x=.ref a/\SqL X.K H a (xs.map V.str)/\xs.length+1<scanBound/\(∀z∈xs,z∈N)/\N.length<64/\
  ∀p (ys:List Str),H p=none->ys.Nodup->(∀y,y∈ys↔y∈xs)->sortedS ys=true->Q (.ref p) (upd H p (.lst (ys.map V.str)))):=by
 intro pins s σ H x u Q I rx h
 obtain⟨a,xs,N,rfl,ha,hlen,hN,hN64,q⟩:=h
 cases rx
 obtain⟨its,rv,p,hz⟩:=I.list ha
 have hh:=I.ok.hd hcalm
 have hil:its.length=xs.length:=by rw[<- rv.length,Y03]
 have hsz:its.toArray.size=xs.length:=by simp[hil]
 have hi:∀(i:Nat) (v:Value),its.toArray[i]?=some v->∃t,v=Y0v (xs.getD i ⟨#[]⟩) t:=λi v hv=>by
  have hv':its[i]?=some v:=by simpa using hv
  have hlt:i<xs.length:=by rw[<- hil];exact(Y08.mp hv').1
  obtain⟨u,hu,ru⟩:=rv.get (i:=i) (x:=V.str xs[i]) (by simp[hlt])
  rw[hv']at hu
  cases hu
  obtain⟨t,rfl⟩:=ru
  exact⟨t,by simp[Y3J,hlt]⟩
 have hmem:∀y,y∈met (λi=>xs.getD i ⟨#[]⟩) xs.length↔y∈xs:=λy=>by
  rw[Zdf,List.mem_iff_getElem]
  constructor
  ·rintro⟨j,hj,rfl⟩
   exact⟨j,hj,by simp[Y3J,hj]⟩
  ·rintro⟨j,hj,rfl⟩
   exact⟨j,hj,by simp[Y3J,hj]⟩
 refine Ze5 (f:=λi=>xs.getD i ⟨#[]⟩) hh p.isList hi (by rw[hsz];exact hlen) λh1 tk1 o ho hS hk=>?_
 rw[hsz]at hS
 have I1:Inv X pins σ H {s with heap:=h1,toks:=tk1}:=I.kept λb u e=>hk b u (Y09 e) e
 have nd:=Z9D (λi=>xs.getD i ⟨#[]⟩) xs.length
 refine Zar (s:={s with heap:=h1,toks:=tk1}) hh ho hS (Nat.lt_of_le_of_lt (few nd N λz hz=>hN z ((hmem z).mp hz)) hN64) λp2 h2 d tk2 out ss e hp hk2 hp2 ho2 hperm hsort=>?_
 have hlen2:ss.length≤sizeLine:=by
  have hsl:sizeLine=16777216:=by decide
  have:=few nd N λz hz=>hN z ((hmem z).mp hz)
  rw[hperm.length_eq]
  lia
 have I2:=(I1.laid (a:=p2) (t':=tk2) (h':=h2) (o:=.lst (ss.map V.str)) (λb u e=>hk2 b u e) hp
  ⟨by rw[Y03];exact hlen2,out,e,Z9f ho2,hp2⟩).drew d
 exact⟨.ref p2,_,I2,rfl,q p2 ss (I1.hok.fresh hp) (hperm.nodup_iff.mpr nd) (λy=>(hperm.mem_iff).trans (hmem y)) hsort⟩
end
end L2
namespace L2
open PySem PySem.Spec PyProof.Rows
theorem Z9E:typeLookup (.type "list") "keys"=pure none:=by rw[typeLookup_type,builtinLookup_eq_fast];kernel_rfl
theorem Z9F:typeLookup (.type "list") "__getattr__"=pure none:=by rw[typeLookup_type,builtinLookup_eq_fast];kernel_rfl
theorem Z45:isSubtype (.type "AttributeError") (.type "AttributeError")=pure true:=by rw[isSubtype_type];kernel_rfl
section
variable{prog:Program}{w:World}{A:Around}{E:Value->Shared->Prop}{h:Heap}{g:Array GenState}{d:Drawn}{t:Nat}{os:OsState}{a:Addr}{its:Array Value}{n:Nat}
theorem ZbZ{tk:Tok}{Q:Fin->Shared->Prop}(hx:h.get? a=some (seqObj "list" its n))(hh:A.handled=none)
  (hE:∀e h' t',(∀b o,h.get? b=some o->h'.get? b=some o)->(∃o,h'.get? e=some o/\o.cls=.type "AttributeError")->E (.ref e) ⟨h',g,d,t',os⟩):
  wpAny (model prog w) A (Builtin.«object.__getattribute__» ⟨[.ref a,.str "keys" tk],[]⟩) Q E ⟨h,g,d,t,os⟩:=by
 have hT:(⟨h,g,d,t,os⟩:Shared).TypeIs (.ref a) "list":=⟨_,hx,rfl⟩
 have f4:=Z9E
 unfold Builtin.«object.__getattribute__»
 repeat (any_goals (first|assumption|wp_step))
 have hmsg:¬(Y0w (toString "'"++toString ((Y20 "list").elim "list" fun x=>x.tpName)++toString "' object has no attribute '")++Y0w "keys"++Y0w "'").length>sizeLine:=by decide+kernel
 generalize(Y0w (toString "'"++toString ((Y20 "list").elim "list" fun x=>x.tpName)++toString "' object has no attribute '")++Y0w "keys"++Y0w "'")=msg at hmsg ⊢
 unfold raiseAttrError
 refine wpAny_bind ?_
 unfold mkStr
 rw[if_neg hmsg]
 repeat (any_goals (first|assumption|wp_step))
 show wpAny _ _ (isSubtype (.type "AttributeError") (.type "AttributeError")) _ _ _
 rw[Z45]
 generalize(if((Y20 "AttributeError").elim false fun t=>t.mro.contains "StopIteration"||t.mro.contains "SystemExit")=true then [Y0v msg t].headD Y0j else Y0j)=fm
 refine wpAny_pure ?_
 simp only[Y1V,Y0m,if_false]
 have hoE:((h.push {cls:=Y0n "tuple",data:=Y21 #[Y0v msg t]}).push {cls:=Y0n "AttributeError",data:=Y1I (#[Y0k h.objs.size,Y0j,Y0j,Y0j,Y0Y false,fm]++ownMembersOf (Y0n "AttributeError") [Y0v msg t])}).get? (h.push {cls:=Y0n "tuple",data:=Y21 #[Y0v msg t]}).objs.size=some {cls:=Y0n "AttributeError",data:=Y1I (#[Y0k h.objs.size,Y0j,Y0j,Y0j,Y0Y false,fm]++ownMembersOf (Y0n "AttributeError") [Y0v msg t])}:=Y0a _ rfl
 have e6:(#[Y0k h.objs.size,Y0j,Y0j,Y0j,Y0Y false,fm]++ownMembersOf (Y0n "AttributeError") [Y0v msg t])[6]?=some (.int 0 0):=rfl
 have e7:(#[Y0k h.objs.size,Y0j,Y0j,Y0j,Y0Y false,fm]++ownMembersOf (Y0n "AttributeError") [Y0v msg t])[7]?=some (.int 0 0):=rfl
 have old:∀b o,h.get? b=some o->((h.push {cls:=Y0n "tuple",data:=Y21 #[Y0v msg t]}).push {cls:=Y0n "AttributeError",data:=Y1I (#[Y0k h.objs.size,Y0j,Y0j,Y0j,Y0Y false,fm]++ownMembersOf (Y0n "AttributeError") [Y0v msg t])}).get? b=some o/\b<(h.push {cls:=Y0n "tuple",data:=Y21 #[Y0v msg t]}).objs.size:=fun b o e=>
  ⟨Y02 _ (Y02 _ e),by rw[Y1p];exact Y1q (Y09 e)⟩
 generalize(h.push {cls:=Y0n "tuple",data:=Y21 #[Y0v msg t]}).objs.size=ea at*
 generalize((h.push {cls:=Y0n "tuple",data:=Y21 #[Y0v msg t]}).push {cls:=Y0n "AttributeError",data:=Y1I (#[Y0k h.objs.size,Y0j,Y0j,Y0j,Y0Y false,fm]++ownMembersOf (Y0n "AttributeError") [Y0v msg t])})=h2 at*
 generalize hvs:#[Y0k h.objs.size,Y0j,Y0j,Y0j,Y0Y false,fm]++ownMembersOf (Y0n "AttributeError") [Y0v msg t]=vs at*
 refine wpAny_bind (wpAny_load hoE ?_)
 dsimp only
 rw[e6,e7]
 simp only[Y2m,Y0m,if_false]
 rw[if_neg (by decide)]
 refine wpAny_pure ?_
 simp only[if_true]
 have hT2:(⟨h2,g,d,t+1+1,os⟩:Shared).TypeIs (.ref ea) "AttributeError":=⟨_,hoE,rfl⟩
 refine wpAny_bind (wpAny_rule ?_)
 refine wpAny_bind (wpAny_typeOf hT2 ?_)
 dsimp only
 unfold layMembers
 refine wpAny_bind (wpAny_load hoE ?_)
 dsimp only
 refine wpAny_update hoE ?_
 unfold raiseNew
 refine wpAny_bind (wpAny_handled ?_)
 rw[hh]
 show wpAny _ _ (throw (Y0k ea)) _ _ _
 have hup:=Y1k (Y3H fun vs=>vs.extract 0 6++#[Y0v (Y0w "keys") (t+1),Y0k a]) hoE (Y2l (Y2b rfl _))
 refine wpAny_throw (hE ea _ _ (λb o e=>?_) ⟨_,hup,Y2R ..⟩)
 have:=old b o e
 exact(Y1v _ _ (Y23 this.2)).trans this.1
theorem Zhn{tk:Tok}{Q:Value->Shared->Prop}(hx:h.get? a=some (seqObj "list" its n))(hh:A.handled=none)
  (hE:∀e h' t',(∀b o,h.get? b=some o->h'.get? b=some o)->(∃o,h'.get? e=some o/\o.cls=.type "AttributeError")->E (.ref e) ⟨h',g,d,t',os⟩):
  wpAny (model prog w) A (getAttrBy (.ref a) (.str "keys" tk) false) Q E ⟨h,g,d,t,os⟩:=by
 have hT:(⟨h,g,d,t,os⟩:Shared).TypeIs (.ref a) "list":=⟨_,hx,rfl⟩
 have f2:=Y1F.lookup
 have f3:=Y1F.bind (.ref a)
 repeat (any_goals (first|assumption|wp_step))
 refine codeAny_call_builtin Y1F.plain F.entry_list_ga (Y1F.check _ _ _ _ _ _ _ _ hT (F.args_list_getattribute_2 _ _) (ZbZ hx (by simp[hh]) λe h' t' k ho=>?_))
 have hTe:(⟨h',g,d,t',os⟩:Shared).TypeIs (.ref e) "AttributeError":=ho
 show wpAny _ _ (getattributeRaised _ _ _ _ _ _ _) _ _ _
 unfold getattributeRaised
 refine wpAny_bind (wpAny_isInstance hTe Z45 ?_)
 simp only[if_true]
 unfold hookBehind onTheHeap
 simp only[Y0m,if_false]
 rw[Z9F]
 refine wpAny_bind (wpAny_pure ?_)
 unfold hookOrError attributeErrorLeaves
 simp only[Y2I,if_true]
 exact wpAny_bind (wpAny_throw (hE e h' t' k ho))
theorem Zdj{Q:Option Value->Shared->Prop}{s:Shared}(hx:s.heap.get? a=some (seqObj "list" its n))(hh:A.handled=none)
  (hQ:∀h' t',(∀b o,s.heap.get? b=some o->h'.get? b=some o)->Q none {s with heap:=h',toks:=t'}):wpAny (model prog w) A (getAttr? (.ref a) "keys") Q E s:=by
 obtain⟨h,g,d,t,os⟩:=s
 unfold getAttr? getAttrBy? mkText
 refine wpAny_bind (wpAny_bind (wpAny_fresh (wpAny_pure ?_)))
 refine wpAny_bind (wpAny_attempt (Zhn hx hh λe h' t' k ho=>?_))
 have hTe:(⟨h',g,d,t',os⟩:Shared).TypeIs (.ref e) "AttributeError":=ho
 refine wpAny_bind (wpAny_isInstance hTe Z45 ?_)
 simp only[if_true]
 exact wpAny_pure (hQ h' t' k)
end
end L2
namespace L2
open PySem PySem.Spec PyProof.Rows
theorem Z1k:entryFor table "dict.update.loop"=some Builtin.«dict.update.loop»:=entryFor_of_tree (by kernel_rfl)
theorem Z0h:plainId "dict.update.loop"=true:=by decide+kernel
section
variable{prog:Program}{w:World}{A:Around}{E:Value->Shared->Prop}{s:Shared}{K:Type} [DecidableEq K] {knd:KeyKind prog w K}
noncomputable def stTo(ks:Nat->K)(vs:Nat->Value):Nat->List (K×Value)
 |0=>[]
 |i+1=>stored (stTo ks vs i) (ks i) (vs i)
theorem Zan(kvs:List (K×Value))(k:K)(v:Value):(stored kvs k v).length≤kvs.length+1:=by
 unfold stored
 split<;>simp
theorem Z6T(ks:Nat->K)(vs:Nat->Value):∀i,(stTo ks vs i).length≤i
 |0=>Y07 _
 |i+1=>Y0N (Zan _ _ _) (Nat.succ_le_succ (Z6T ks vs i))
theorem Z9P{R:Result->Shared->Prop}{I:Addr}{fp wr:List Addr}{G:Array GenState->Array GenState->Prop}{n:Nat}{P:Nat->Value->Prop}{St:Nat->Shared->Prop}
  (W:WalksS prog w A.in1 I fp wr G n P St) (D:Addr) (hDf:D∉fp) (ks:Nat->K) (vs:Nat->Value) (hb:n≤sizeLine):
  ∀(k i:Nat) (s:Shared),n - i=k->i≤n->St i s->s.heap.DictOf knd D (stTo ks vs i)->
   (∀j v,P j v->∃q uk np oq,v=.ref q/\q≠D/\q∉wr/\s.heap.get? q=some oq/\oq.cls=.type "tuple"/\oq.data=.seq #[uk,vs j] np/\knd.is (ks j) uk=true)->
   (∀s',Moved (D::wr) G s s'->s'.heap.DictOf knd D (stTo ks vs n)->R (.ok (.ret .none)) s')->
   codeAny (model prog w) A (.builtin "dict.update.loop" ⟨[.ref D,.ref I,rawInt (i:Nat),.none],[]⟩) R s:=by
 have hDw:D∉wr:=λh=>hDf (W.sub _ h)
 have hsub:∀b∈wr,b∈D::wr:=λb hb=>Y0g _ hb
 intro k
 induction k with
 |zero=>
  intro i s hk hi hst hd ht hR
  have hin:i=n:=by lia
  subst hin
  refine codeAny_builtin Z1k ?_
  rw[Y0K Z0h _]
  show wpAny _ A.in1 (pyNext (.ref I)>>= _) _ _ s
  refine wpAny_bind (W.done s _ _ hst λs' hm=>?_)
  refine wpAny_bind (m:=Builtin.Dict.addKeywords D []) (wpAny_pure ?_)
  refine wpAny_pure (hR s' (hm.mono hsub) ?_)
  obtain⟨o,es,ep,ho,r⟩:=hd
  exact⟨o,es,ep,hm.heap D _ hDw ho,r⟩
 |succ k ih=>
  intro i s hk hi hst hd ht hR
  have hlt:i<n:=by lia
  refine codeAny_builtin Z1k ?_
  rw[Y0K Z0h _]
  show wpAny _ A.in1 (pyNext (.ref I)>>= _) _ _ s
  refine wpAny_bind (W.item i s _ _ hlt hst λv s' hP hst' hm=>?_)
  obtain⟨q,uk,np,oq,rfl,hqD,hqw,hq,hqc,hqd,hkey⟩:=ht i v hP
  have hq':=hm.heap q _ hqw hq
  have hd':s'.heap.DictOf knd D (stTo ks vs i):=by
   obtain⟨o,es,ep,ho,r⟩:=hd
   exact⟨o,es,ep,hm.heap D _ hDw ho,r⟩
  have hT:s'.TypeIs (.ref q) "tuple":=⟨_,hq',hqc⟩
  show wpAny _ A.in1 (holding [Y0k q] _ >>= _) _ _ s'
  refine wpAny_bind (wpAny_holding ?_)
  refine wpAny_bind (wpAny_tryCatch ?_)
  unfold Builtin.Dict.pairItems
  refine wpAny_bind (wpAny_typeOf hT ?_)
  have e2:(Y0n "tuple"==Y0n "tuple")=true:=rfl
  rw[e2,Y1G,if_pos rfl]
  refine wpAny_bind (wpAny_seqItems hq' hqd (wpAny_pure ?_))
  show wpAny _ A.in1 (holding [uk,vs i] (dictSet D uk (vs i))) _ _ s'
  refine wpAny_holding ?_
  have hl:=Z6T ks vs i
  refine wpAny_dictSet_pairs (knd:=knd) hkey hd' (λh' hd2 hsb=>?_) (by lia)
  refine wpAny_pure ⟨plainId_quiet Z0h _,?_⟩
  have:=ih (i+1) {s' with heap:=h',toks:=s'.toks+1} (by lia) hlt (W.frame _ s' _ _ hst' (Y3z _) λb hb o e=>?_) hd2 (λj v hPj=>?_) λs'' hm'' hd''=>?_
  ·exact this
  ·rw[hsb.2 b (λz:b=D=>hDf (by rw[<- z];exact hb))];exact e
  ·obtain⟨q,uk,np,oq,rfl,a1,a2,a3,a4⟩:=ht j v hPj
   exact⟨q,uk,np,oq,rfl,a1,a2,(hsb.2 q a1).trans (hm.heap q _ a2 a3),a4⟩
  ·refine hR s'' (Moved.trans W.gtrans ((hm.mono hsub).then_heap (Y3z _) λb o hb e=>?_) hm'') hd''
   rw[hsb.2 b (λz:b=D=>hb (by rw[z];exact Y0l))];exact e
theorem Zcl{l:Addr}{items:Array Value}{nl:Nat}{ks:Nat->K}{vs:Nat->Value}{Q:Value->Shared->Prop}(hh:A.handled=none)(hl:s.heap.get? l=some (seqObj "list" items nl))(hn:items.size≤sizeLine)
  (ht:∀(j:Nat) v,items[j]?=some v->∃q uk np oq,v=.ref q/\s.heap.get? q=some oq/\oq.cls=.type "tuple"/\oq.data=.seq #[uk,vs j] np/\knd.is (ks j) uk=true)
  (h:∀h' tk,h'.DictOf knd s.heap.objs.size (stTo ks vs items.size)->(∀b o,b<s.heap.objs.size->s.heap.get? b=some o->h'.get? b=some o)->Q (.ref s.heap.objs.size) {s with heap:=h',toks:=tk}):
  wpAny (model prog w) A (call (.type "dict") [.ref l]) Q E s:=by
 refine callType_codes (Q₁:=fun obj s₁=>obj=.ref s.heap.objs.size/\s₁={s with heap:=s.heap.push {cls:=.type "dict",data:=.dict #[]} }) F.kt_called_dict (F.kt_typeCall_dict_1 _) F.entry_dict_init (kt_code_dict_new _ ⟨rfl,rfl⟩) ?_
 rintro obj s₁ ⟨rfl,rfl⟩
 have hnew:(s.heap.push {cls:=.type "dict",data:=.dict #[]}).DictOf knd s.heap.objs.size []:=Y3Q s.heap
 have hl':(s.heap.push {cls:=.type "dict",data:=.dict #[]}).get? l=some (seqObj "list" items nl):=Y02 _ hl
 have hT:Y2p {s with heap:=s.heap.push {cls:=.type "dict",data:=.dict #[]} } (.ref l) "list":=⟨_,hl',rfl⟩
 refine⟨hnew.typeIs,F.args_dict_init_2 _ _,?_⟩
 unfold Builtin.«dict.__init__»
 refine wpAny_bind ?_
 unfold Y2U
 refine wpAny_bind (wpAny_notOrdered_dict hnew.typeIs ?_)
 show wpAny _ _ (pure (s.heap.objs.size,[Y0k l])) _ _ _
 refine wpAny_pure ?_
 show wpAny _ _ (Y1J "dict.__init__" s.heap.objs.size (.ref l) [] .none) _ _ _
 unfold Y1J
 refine wpAny_bind (wpAny_typeOf hT ?_)
 rw[if_pos (by decide)]
 refine wpAny_bind (Zdj (s:={s with heap:=s.heap.push {cls:=.type "dict",data:=.dict #[]} }) hl' (by simp[hh]) fun h1 t1 hk1=>?_)
 simp only[Option.isNone_none,if_true]
 refine wpAny_bind (wpAny_rule ?_)
 have hl1:h1.get? l=some (seqObj "list" items nl):=hk1 _ _ hl'
 have hL1:h1.IsList l items:=⟨_,hl1,rfl,nl,rfl⟩
 have hlS:l<s.heap.objs.size:=Y09 hl
 have hbig:s.heap.objs.size<h1.objs.size:=by
  obtain⟨o,es,ep,ho,_⟩:=hnew
  exact Y09 (hk1 _ _ ho)
 refine wpAny_bind (wpAny_pyIter_list (s:={s with heap:=h1,toks:=t1}) hL1 ?_)
 have hneI:l≠h1.objs.size:=Y0f (Y25 hlS hbig)
 refine wpAny_pure ⟨plainId_quiet Z0h _,?_⟩
 refine Z9P (knd:=knd) (n:=items.size) ((Walks.list (A:=A.in1.in1) (by simp[hh]) h1.objs.size l hneI items).toS) s.heap.objs.size ?_ ks vs hn items.size 0 _ rfl (Y1t _)
  ⟨⟨_,Y0a _ rfl,rfl,rfl⟩,hL1.push _⟩ ?_ ?_ ?_
 ·simp only[Y0d,Y0q,or_false,not_or]
  exact⟨Y0f hbig,Y23 hlS⟩
 ·obtain⟨o,es,ep,ho,r⟩:=hnew
  exact⟨o,es,ep,Y02 _ (hk1 _ _ ho),r⟩
 ·intro j v hv
  obtain⟨q,uk,np,oq,rfl,a1,a2⟩:=ht j v hv
  have hqS:q<s.heap.objs.size:=Y09 a1
  refine⟨q,uk,np,oq,rfl,Y0f hqS,?_,Y02 _ (hk1 _ _ (Y02 _ a1)),a2⟩
  simp only[Y1c]
  exact Y0f (Y25 hqS hbig)
 ·intro s' hm hd
  obtain⟨h',g',d',tk',os'⟩:=s'
  have eg:g'=s.gens:=hm.gens
  have ed:d'=s.drawn:=hm.drawn
  have eo:os'=s.os:=hm.os
  subst eg;subst ed;subst eo
  refine⟨rfl,h h' tk' hd λb o hb e=>?_⟩
  refine hm.heap b o ?_ (Y02 _ (hk1 _ _ (Y02 _ e)))
  simp only[Y0d,Y0q,or_false,not_or]
  exact⟨Y0f hb,Y0f (Y25 hb hbig)⟩
end
end L2
namespace L2
open PySem PySem.Spec PyProof.Rows
noncomputable def Zeo(H:Hp):List (Key×V)->List V->Prop:=Paired fun(p:Key×V) (v:V)=>∃q,v=.ref q/\H q=some (.tup [kV p.1,p.2])
noncomputable def Z4f(ps:List (Key×V)):List (Key×V):=ps.foldl (λc z=>putK c z.1 z.2) []
theorem Paired.at{α β:Type}{R:α->β->Prop}:∀{xs:List α} {ys:List β},Paired R xs ys->∀(i:Nat) (y:β),ys[i]?=some y->∃x,xs[i]?=some x/\R x y
 |_,_,.nil,i,y,h=>by simp at h
 |_,_,.cons r _,0,y,h=>by simp at h;subst h;exact⟨_,rfl,r⟩
 |_,_,.cons _ t,i+1,y,h=>by simp at h;obtain⟨x,hx,r⟩:=Paired.at t i y h;exact⟨x,by simpa using hx,r⟩
section
variable{X:Cx}
theorem Zck(hcalm:X.calm=true):CallR X (.type "dict") (fun xs H Q=>∃(a:Addr) (ps:List (Key×V)) (qs:List V),xs=[.ref a]/\H a=some (.lst qs)/\Zeo H ps qs/\∀p,H p=none->Q (.ref p) (upd H p (.dK (Z4f ps)))):=by
 intro pins s σ H xs us Q I r h
 obtain⟨a,ps,qs,rfl,ha,hp,q⟩:=h
 obtain⟨u,rfl,ru⟩:=Z4M r
 cases ru
 obtain⟨hz,its,nl,rv,hl⟩:=(show ObjOk X.prog X.w H s.heap a (.lst qs)from I.hok a _ ha)
 have hh:=I.ok.hd hcalm
 have hlen:its.length=ps.length:=by rw[<- rv.length,hp.length]
 have hpair:∀(j:Nat) v,its.toArray[j]?=some v->∃q uk uv np oq,v=.ref q/\s.heap.get? q=some oq/\oq.cls=.type "tuple"/\oq.data=.seq #[uk,uv] np/\∃p,ps[j]?=some p/\RelV (kV p.1) uk/\RelV p.2 uv:=fun j v hv=>by
  have hv':its[j]?=some v:=by simpa using hv
  obtain⟨y,hy,ry⟩:=Paired.at rv j v hv'
  obtain⟨p,hpj,q,rfl,hq⟩:=Paired.at hp j y hy
  cases ry
  obtain⟨_,ts,rt,ht⟩:=(show ObjOk X.prog X.w H s.heap q (.tup [kV p.1,p.2])from I.hok q _ hq)
  obtain⟨uk,uv,rfl,r1,r2⟩:=Zak rt
  obtain⟨oq,ho,hc,n,hd⟩:=ht.1
  exact⟨q,uk,uv,n,oq,rfl,ho,hc,hd,p,hpj,r1,r2⟩
 obtain⟨vs,hvs⟩:∃vs:Nat->Value,∀(j:Nat) v,its.toArray[j]?=some v->∃q uk np oq,v=.ref q/\s.heap.get? q=some oq/\oq.cls=.type "tuple"/\oq.data=.seq #[uk,vs j] np/\∃p,ps[j]?=some p/\RelV (kV p.1) uk/\RelV p.2 (vs j):=by
  refine⟨λj=>if h:j<its.length then(hpair j its[j] (by simp[h])).choose_spec.choose_spec.choose else .none,λj v hv=>?_⟩
  have hv':its[j]?=some v:=by simpa using hv
  obtain⟨hj,rfl⟩:=Y08.mp hv'
  dsimp only
  rw[dif_pos hj]
  have z:=(hpair j its[j] (by simp[hj]))
  exact⟨z.choose,z.choose_spec.choose,z.choose_spec.choose_spec.choose_spec⟩
 refine Zcl (knd:=Z0Q X.prog X.w) (ks:=λj=>(ps.getD j (.inl 0,.non)).1) (vs:=vs) hh hl (by simpa [<- rv.length]using hz) (λj v hv=>?_) λh' tk hd hk=>?_
 ·obtain⟨q,uk,np,oq,e1,e2,e3,e4,p,hpj,r1,r2⟩:=hvs j v hv
  refine⟨q,uk,np,oq,e1,e2,e3,e4,Zc2 ?_⟩
  rw[Y0x,hpj]
  exact r1
 have kv:∀i,i≤ps.length->KV ((ps.take i).foldl (λc z=>putK c z.1 z.2) []) (stTo (λj=>(ps.getD j (.inl 0,.non)).1) vs i):=by
  intro i
  induction i with
  |zero=>intro _;exact .nil
  |succ i ih=>
   intro hi
   have hlt:i<its.length:=by lia
   obtain⟨q,uk,np,oq,e1,e2,e3,e4,p,hpj,r1,r2⟩:=hvs i its[i] (by simp[hlt])
   rw[Y1h,hpj,Y2B,Y2V]
   show KV (putK _ p.1 p.2) (stored _ (ps.getD i (.inl 0,.non)).1 _)
   have ek:(ps.getD i (.inl 0,.non)).1=p.1:=by rw[Y0x,hpj];rfl
   rw[ek]
   exact(ih (by lia)).put p.1 r2
 have kvn:=kv ps.length (Y07 _)
 rw[Y2Z]at kvn
 have hsz:its.toArray.size=ps.length:=by simp[hlen]
 rw[hsz]at hd
 have hpl:ps.length≤sizeLine:=by rw[hp.length];exact hz
 have zl:(Z4f ps).length≤sizeLine:=by
  have:=kvn.length
  have l2:=Z6T (λj=>(ps.getD j (.inl 0,.non)).1) vs ps.length
  unfold Z4f
  lia
 exact⟨.ref s.heap.objs.size,_,I.laid (a:=s.heap.objs.size) (o:=.dK (Z4f ps)) (t':=tk) (λb u e=>hk b u (Y09 e) e) (Y07 _) (ZdP zl (beq_eq_false_iff_ne.mpr (Y2F (Y0f I.big))) kvn hd),rfl,q _ (I.hok.fresh (Y07 _))⟩
end
end L2
namespace L2
open PySem PySem.Spec PyProof.Rows
section
variable{X:Cx}
theorem Zee:∀(bs:List Bool),((Y0E bs.length).all λi=>bs.getD i true)=bs.all id:=by
 intro bs
 have e:(Y0E bs.length).map (λi=>bs.getD i true)=bs:=by
  refine List.ext_getElem (by simp) λi h1 h2=>?_
  simp[Y3J,h2]
 conv=>rhs;rw[<- e]
 rw[List.all_map]
 rfl
theorem Zec(hcalm:X.calm=true):CallR X (.builtin "all") (fun xs H Q=>∃(a:Addr) (bs:List Bool),xs=[.ref a]/\SqL X.K H a (bs.map V.bl)/\Q (.bl (bs.all id)) H):=by
 intro pins s σ H xs us Q I r h
 obtain⟨a,bs,rfl,ha,q⟩:=h
 obtain⟨u,rfl,ru⟩:=Z4M r
 cases ru
 obtain⟨its,rv,p,hz⟩:=I.list ha
 have hh:=I.ok.hd hcalm
 have hil:its.length=bs.length:=by rw[<- rv.length,Y03]
 have hit:∀(i:Nat) (v:Value),its.toArray[i]?=some v->v=.bool (bs.getD i true):=λi v hv=>by
  have hv':its[i]?=some v:=by simpa using hv
  have hlt:i<bs.length:=by rw[<- hil];exact(Y08.mp hv').1
  obtain⟨u,hu,ru⟩:=rv.get (i:=i) (x:=V.bl bs[i]) (by simp[hlt])
  rw[hv']at hu
  cases hu
  rw[show v=.bool bs[i]from ru]
  simp[Y3J,hlt]
 have hlS:a<s.heap.objs.size:=by obtain⟨o,n,e,_⟩:=p;exact Y09 e
 refine PySem.call_all_walk (wpAny_pyIter_list p.isList ⟨_,_,_,_,_,_,λi=>bs.getD i true,rfl,Walks.list (by simp[hh]) _ a (Y0f hlS) its.toArray,⟨⟨_,Y0a _ rfl,rfl,rfl⟩,p.isList.push _⟩,?_,λh' tk hk=>?_⟩)
 ·intro i v s Q E hP hQ
  rw[hit i v hP]
  exact wpAny_truthy_bool hQ
 ·have hsz:its.toArray.size=bs.length:=by simp[hil]
  rw[hsz,Zee]
  refine⟨.bl _,H,I.kept (t':=tk) λb o e=>?_,rfl,q⟩
  exact hk b o (by simp only[Y1c];exact Y0f (Y09 e)) (Y02 _ e)
end
end L2
namespace L2
open PySem PySem.Spec PyProof.Rows
noncomputable def Its(x:Str):It:=⟨λi _=>i<x.cps.size,λi H v H'=>H'=H/\∃c,x.cps[i]?=some c/\v=.str ⟨#[c]⟩,λi _=>x.cps.size≤i⟩
theorem Zct{P:Program}{w:World}{K:Y00}{tg:Expr}(it:Addr)(x:Str)(t:Tok):Turn P w K tg (Its x) [it] it (fun i h=>h.IsStrIter it "str_ascii_iterator" x t i)where
 mem:=by simp
 obj:=λi h st b hb=>by
  have e:b=it:=by simpa using hb
  subst e
  obtain⟨o,e,c,d⟩:=st
  exact⟨o,e,λv z=>by rw[d]at z;cases z⟩
 keep:=λi h h' st k=>by
  obtain⟨o,e,c,d⟩:=st
  exact⟨o,k it (by simp) o e,c,d⟩
 item:=by
  intro X hP hw hK hc i pins s σ H E I hf st hg
  subst hP hw hK
  have hg:i<x.cps.size:=hg
  obtain⟨f0,f1,f2,f3,f4,f5⟩:=hf it (by simp)
  refine wpAny_pyNext_ascii_item st (c:=x.cps[i]) (by simp[hg]) λh' st' sb=>?_
  have I1:Inv X pins σ H {s with heap:=h',toks:=s.toks+1}:=I.turned (λb o hb e=>(sb.2 b hb).trans e) f0 f1 f3 f4 f5
  obtain⟨o,e,c,d⟩:=id st'
  exact⟨_,rfl,ZaR (s:={s with heap:=h',toks:=s.toks+1}) e c d (by decide) ⟨.str ⟨#[x.cps[i]]⟩,H,I1,⟨_,rfl⟩,⟨rfl,_,by simp[hg],rfl⟩,st',λb hb=>(hf b hb).1⟩⟩
 done:=by
  intro X hP hw hK hc i pins s σ H E I hf st hg
  subst hP hw hK
  have hg:x.cps.size≤i:=hg
  obtain⟨f0,f1,f2,f3,f4,f5⟩:=hf it (by simp)
  exact wpAny_pyNext_ascii_end (I.ok.hd hc) st (by simp[hg]) λh' eb=>⟨rfl,I.turned (t':=s.toks) (λb o hb e=>eb b o hb e) f0 f1 f3 f4 f5⟩
 self:=λ_ _ _ _ _ st h=>wpAny_pyIter_striter_ascii st h
theorem Zcs{P:Program}{w:World}{K:Y00}{tg:Expr}(it:Addr)(x:Str)(t:Tok):Turn P w K tg (Its x) [it] it (fun i h=>h.IsStrIter it "str_iterator" x t i)where
 mem:=by simp
 obj:=λi h st b hb=>by
  have e:b=it:=by simpa using hb
  subst e
  obtain⟨o,e,c,d⟩:=st
  exact⟨o,e,λv z=>by rw[d]at z;cases z⟩
 keep:=λi h h' st k=>by
  obtain⟨o,e,c,d⟩:=st
  exact⟨o,k it (by simp) o e,c,d⟩
 item:=by
  intro X hP hw hK hc i pins s σ H E I hf st hg
  subst hP hw hK
  have hg:i<x.cps.size:=hg
  obtain⟨f0,f1,f2,f3,f4,f5⟩:=hf it (by simp)
  refine wpAny_pyNext_wide_item st (c:=x.cps[i]) (by simp[hg]) λh' st' sb=>?_
  have I1:Inv X pins σ H {s with heap:=h',toks:=s.toks+1}:=I.turned (λb o hb e=>(sb.2 b hb).trans e) f0 f1 f3 f4 f5
  obtain⟨o,e,c,d⟩:=id st'
  exact⟨_,rfl,ZaR (s:={s with heap:=h',toks:=s.toks+1}) e c d (by decide) ⟨.str ⟨#[x.cps[i]]⟩,H,I1,⟨_,rfl⟩,⟨rfl,_,by simp[hg],rfl⟩,st',λb hb=>(hf b hb).1⟩⟩
 done:=by
  intro X hP hw hK hc i pins s σ H E I hf st hg
  subst hP hw hK
  have hg:x.cps.size≤i:=hg
  obtain⟨f0,f1,f2,f3,f4,f5⟩:=hf it (by simp)
  exact wpAny_pyNext_wide_end (I.ok.hd hc) st (by simp[hg]) λh' eb=>⟨rfl,I.turned (t':=s.toks) (λb o hb e=>eb b o hb e) f0 f1 f3 f4 f5⟩
 self:=λ_ _ _ _ _ st h=>wpAny_pyIter_striter_wide st h
section
variable{X:Cx}{pins:List (Addr×Obj)}{σ:St}{H:Hp}{s:Shared}
theorem ZgR{tg:Expr}{R:It->Hp->Prop}{E:Value->Shared->Prop}{x:Str}{t:Tok}(I:Inv X pins σ H s)(q:R (Its x) H):wpAny (model X.prog X.w) X.A (pyIter (.str x t)) (PIE X pins σ tg R) E s:=by
 have fp:∀b∈ [s.heap.objs.size],FpOk X pins H b:=λb hb=>by
  have e:b=s.heap.objs.size:=by simpa using hb
  subst e
  exact I.fpOk (Y07 _) (I.hok.fresh (Y07 _))
 cases ha:x.cps.all (·<128)
 ·exact wpAny_pyIter_wide ha ⟨s.heap.objs.size,[s.heap.objs.size],_,_,H,rfl,I.kept (t':=s.toks) λb o e=>Y02 _ e,Zcs _ x t,⟨_,Y0a _ rfl,rfl,rfl⟩,fp,q⟩
 ·exact wpAny_pyIter_ascii ha ⟨s.heap.objs.size,[s.heap.objs.size],_,_,H,rfl,I.kept (t':=s.toks) λb o e=>Y02 _ e,Zct _ x t,⟨_,Y0a _ rfl,rfl,rfl⟩,fp,q⟩
noncomputable def ZlM(X:Cx)(tl:TE):TI:=λσ H R=>tl σ H λx H1=>(∃a,x=.ref a/\((∃xs,SqL X.K H1 a xs/\R (Itl X.K a) H1)\/(∃xs,SqT X.K H1 a xs/\R (Itt X.K a) H1)\/∃kvs,H1 a=some (.dK kvs)/\∀o,(∀o' u',X.H₀ a≠some (.frz o' u'))->R (Itd a o) (upd H1 a (.frz o (.dK kvs)))))\/
 ∃z,x=.str z/\R (Its z) H1
theorem ZgS{tg l:Expr}{tl:TE}(hl:PE X l tl):PI X tg l (ZlM X tl):=by
 intro pins s σ H R I h
 refine thn (hl pins s σ H _ I h) λv s1 ⟨x,H1,I1,r1,q1⟩=>?_
 rcases q1 with⟨a,e,q⟩|⟨z,e,q⟩
 ·subst e
  cases r1
  rcases q with⟨xs,hq,q⟩|⟨xs,hq,q⟩|⟨kvs,hq,q⟩
  ·obtain⟨its,rv,p,hz⟩:=I1.list hq
   refine wpAny_pyIter_list p.isList ?_
   refine⟨s1.heap.objs.size,[s1.heap.objs.size],_,_,H1,rfl,I1.kept (t':=s1.toks) λb o e=>Y02 _ e,Zcu a _,⟨_,Y0a _ rfl,rfl,rfl⟩,λb hb=>?_,q⟩
   have e:b=s1.heap.objs.size:=by simpa using hb
   subst e
   exact I1.fpOk (Y07 _) (I1.hok.fresh (Y07 _))
  ·obtain⟨its,rv,p,hz⟩:=I1.tuple hq
   refine wpAny_pyIter_tuple (show s1.heap.IsTuple a its.toArray from p) ?_
   refine⟨s1.heap.objs.size,[s1.heap.objs.size],_,_,H1,rfl,I1.kept (t':=s1.toks) λb o e=>Y02 _ e,ZbM a _,⟨_,Y0a _ rfl,rfl,rfl⟩,λb hb=>?_,q⟩
   have e:b=s1.heap.objs.size:=by simpa using hb
   subst e
   exact I1.fpOk (Y07 _) (I1.hok.fresh (Y07 _))
  ·exact ZeE I1 hq q
 ·subst e
  obtain⟨t,rfl⟩:=r1
  exact ZgR I1 q
theorem ZaI{M:Model}{A:Around}{E:Value->Shared->Prop}{s:Shared}{Q:Value->Shared->Prop}{v:Value}{b:Bool}(hv:∀i,v≠.builtin i)(h:Q (.bool (v==.bool b)) s):wpAny M A (compareOp .Is v (.bool b)) Q E s:=by
 cases v<;>first|exact wpAny_pure h|exact absurd rfl (hv _)
theorem Z7W{M:Model}{A:Around}{E:Value->Shared->Prop}{s:Shared}{Q:Value->Shared->Prop}{v:Value}{b:Bool}(hv:∀i,v≠.builtin i)(h:Q (.bool (!(v==.bool b))) s):wpAny M A (compareOp .IsNot v (.bool b)) Q E s:=by
 cases v<;>first|exact wpAny_pure h|exact absurd rfl (hv _)
theorem Z9t{x:V}{v:Value}(r:RelV x v):∀i,v≠.builtin i:=λi e=>by
 subst e
 cases x<;>first|(cases r;done)|(obtain⟨t,e⟩:=r;cases e)
theorem Zbe{x:V}{v:Value}{b:Bool}(r:RelV x v):decide (x=.bl b)=(v==Y0Y b):=by
 cases x<;>first
  |(cases r;rename_i c;cases b<;>cases c<;>rfl)
  |(cases r;rfl)
  |(obtain⟨t,rfl⟩:=r;rfl)
theorem Zh0:OpR X (compareOp .Is) (λx y H Q=>∃b,y=.bl b/\Q (.bl (decide (x=.bl b))) H):=by
 intro pins s σ H x y v u Q I rx ry h
 obtain⟨b,rfl,q⟩:=h
 cases ry
 exact ZaI (Z9t rx) (Z0f I q (Zbe rx))
theorem ZeK:OpR X (compareOp .IsNot) (λx y H Q=>∃b,y=.bl b/\Q (.bl (!decide (x=.bl b))) H):=by
 intro pins s σ H x y v u Q I rx ry h
 obtain⟨b,rfl,q⟩:=h
 cases ry
 exact Z7W (Z9t rx) (Z0f I q (by rw[Zbe rx]))
theorem Zc3{A:Around}{E:Value->Shared->Prop}{Q:Value->Shared->Prop}{x:V}{u t c d:Value}{b b':Bool}{tp:Addr}{dd:Option Addr}{n:Nat}{sl:Array (Option Value)}(I:Inv X pins σ H s)(rx:RelV x u)(ty:TyOf X.K H x t)(e:Y17 X.K t c=some b)(e':Y17 X.K t d=some b')
  (htp:s.heap.get? tp=some ⟨.type "tuple",dd,.seq [c,d].toArray n,sl⟩) (h:∀tk,Q (.bool (b||b')) {s with toks:=tk}):wpAny (model X.prog X.w) A (call (.builtin "isinstance") [u,.ref tp]) Q E s:=by
 have ea:Y1A X.K t [c,d]=some (b||b'):=by
  unfold Y1A
  rw[e]
  cases b with
  |true=>rfl
  |false=>
   show Y1A X.K t [d]=some b'
   unfold Y1A
   rw[e']
   cases b'<;>rfl
 cases ty with
 |non=>cases(show u=Y0j from rx);exact Y12 PySem.W.kitx_none I.kIn Y1C htp ea (λz=>nomatch z) h
 |bl y=>cases(show u=Y0Y y from rx);exact Y12 PySem.W.kitx_bool I.kIn Y1C htp ea (λz=>nomatch z) h
 |int i=>obtain⟨t,q⟩:=(show∃t,u=Y3C i t from rx);cases q;exact Y12 PySem.W.kitx_int I.kIn Y1C htp ea (λz=>nomatch z) h
 |str y=>obtain⟨t,q⟩:=(show∃t,u=Y0v y t from rx);cases q;exact Y12 PySem.W.kitx_str I.kIn Y1C htp ea (λz=>nomatch z) h
 |flt y=>obtain⟨t,q⟩:=(show∃t,u=Value.float y t from rx);cases q;exact Y12 PySem.W.kitx_float I.kIn Y1C htp ea (λz=>nomatch z) h
 | @lst a xs ea'=>
  cases(show u=Y0k a from rx)
  obtain⟨_,_,n,_,h1⟩:=(show ObjOk X.prog X.w H s.heap a (.lst xs)from I.hok a _ ea')
  exact Y12 Y2f I.kIn ⟨_,h1,rfl⟩ htp ea (λz=>nomatch z) h
 | @frz a ob xs ea'=>
  cases(show u=Y0k a from rx)
  obtain⟨_,_,_,n,_,h1⟩:=(show ObjOk X.prog X.w H s.heap a (.frz ob (.lst xs))from I.hok a _ ea')
  exact Y12 Y2f I.kIn ⟨_,h1,rfl⟩ htp ea (λz=>nomatch z) h
 | @tup a xs ea'=>
  cases(show u=Y0k a from rx)
  obtain⟨_,_,_,p⟩:=(show ObjOk X.prog X.w H s.heap a (.tup xs)from I.hok a _ ea')
  obtain⟨o,h1,h2,_⟩:=p.1
  exact Y12 PySem.W.kitx_tuple I.kIn ⟨o,h1,h2⟩ htp ea (λz=>nomatch z) h
 | @dK a kvs ea'=>
  cases(show u=Y0k a from rx)
  obtain⟨_,_,vs,_,p⟩:=(show ObjOk X.prog X.w H s.heap a (.dK kvs)from I.hok a _ ea')
  obtain⟨o,es,ep,h1,h2,_⟩:=p
  exact Y12 Y2g I.kIn ⟨o,h1,h2.1⟩ htp ea (λz=>nomatch z) h
 | @dT a kvs ea'=>
  cases(show u=Y0k a from rx)
  obtain⟨_,_,xs,_,o,es,ep,h1,h2,_⟩:=(show ObjOk X.prog X.w H s.heap a (.dT kvs)from I.hok a _ ea')
  exact Y12 Y2g I.kIn ⟨o,h1,h2.1⟩ htp ea (λz=>nomatch z) h
 | @ins a C dx fs ea' cl ha hn htk hm=>
  cases(show u=Y0k a from rx)
  obtain⟨mA,O,_⟩:=Zdu I.hok ea'
  obtain⟨od,J,_⟩:=O.look
  exact Y12 (PySem.W.kitx_own (cl.get _) cl.hd ha hn htk hm) I.kIn J htp ea (λz=>nomatch z) h
theorem Za4:CallR X (.builtin "isinstance") (fun xs H Q=>∃x a c d t b b',xs=[x,.ref a]/\H a=some (.tup [.ty c,.ty d])/\TyOf X.K H x t/\Y17 X.K t (.type c)=some b/\Y17 X.K t (.type d)=some b'/\Q (.bl (b||b')) H):=by
 intro pins s σ H xs us Q I r h
 obtain⟨x,a,c,d,t,b,b',rfl,ha,ty,e,e',q⟩:=h
 obtain⟨u,w',rfl,ru,rw'⟩:=Zak r
 cases rw'
 obtain⟨its,rv,p,_⟩:=I.tuple (SqT.of (K:=X.K) ha)
 obtain⟨⟨cls,dd,data,sl⟩,ho,hc,n,hd⟩:=id p
 simp only at hc hd
 subst hc hd
 cases rv with
 |cons r1 r2=>
  cases r2 with
  |cons r3 r4=>
   cases r4
   cases r1
   cases r3
   exact Zc3 I ru ty e e' ho λtk=>⟨.bl (b||b'),H,I.tok tk,rfl,q⟩
end
end L2
namespace L2
open PySem PySem.Spec PyProof.Rows
section
variable{X:Cx}
end
end L2
namespace L2
open PySem PySem.Spec PyProof.Rows
theorem Z90:typeLookup (.type "tuple") "keys"=pure none:=by rw[typeLookup_type,builtinLookup_eq_fast];kernel_rfl
theorem Z91:typeLookup (.type "tuple") "__getattr__"=pure none:=by rw[typeLookup_type,builtinLookup_eq_fast];kernel_rfl
section
variable{prog:Program}{w:World}{A:Around}{E:Value->Shared->Prop}{h:Heap}{g:Array GenState}{d:Drawn}{t:Nat}{os:OsState}{a:Addr}{its:Array Value}{n:Nat}{sl:Array (Option Value)}
theorem ZaG{tk:Tok}{Q:Fin->Shared->Prop}(hx:h.get? a=some (⟨.type "tuple",none,.seq its n,sl⟩))(hh:A.handled=none)
  (hE:∀e h' t',(∀b o,h.get? b=some o->h'.get? b=some o)->(∃o,h'.get? e=some o/\o.cls=.type "AttributeError")->E (.ref e) ⟨h',g,d,t',os⟩):
  wpAny (model prog w) A (Builtin.«object.__getattribute__» ⟨[.ref a,.str "keys" tk],[]⟩) Q E ⟨h,g,d,t,os⟩:=by
 have hT:(⟨h,g,d,t,os⟩:Shared).TypeIs (.ref a) "tuple":=⟨_,hx,rfl⟩
 have f4:=Z90
 unfold Builtin.«object.__getattribute__»
 repeat (any_goals (first|assumption|wp_step))
 have hmsg:¬(Y0w (toString "'"++toString ((Y20 "tuple").elim "tuple" fun x=>x.tpName)++toString "' object has no attribute '")++Y0w "keys"++Y0w "'").length>sizeLine:=by decide+kernel
 generalize(Y0w (toString "'"++toString ((Y20 "tuple").elim "tuple" fun x=>x.tpName)++toString "' object has no attribute '")++Y0w "keys"++Y0w "'")=msg at hmsg ⊢
 unfold raiseAttrError
 refine wpAny_bind ?_
 unfold mkStr
 rw[if_neg hmsg]
 repeat (any_goals (first|assumption|wp_step))
 show wpAny _ _ (isSubtype (.type "AttributeError") (.type "AttributeError")) _ _ _
 rw[Z45]
 generalize(if((Y20 "AttributeError").elim false fun t=>t.mro.contains "StopIteration"||t.mro.contains "SystemExit")=true then [Y0v msg t].headD Y0j else Y0j)=fm
 refine wpAny_pure ?_
 simp only[Y1V,Y0m,if_false]
 have hoE:((h.push {cls:=Y0n "tuple",data:=Y21 #[Y0v msg t]}).push {cls:=Y0n "AttributeError",data:=Y1I (#[Y0k h.objs.size,Y0j,Y0j,Y0j,Y0Y false,fm]++ownMembersOf (Y0n "AttributeError") [Y0v msg t])}).get? (h.push {cls:=Y0n "tuple",data:=Y21 #[Y0v msg t]}).objs.size=some {cls:=Y0n "AttributeError",data:=Y1I (#[Y0k h.objs.size,Y0j,Y0j,Y0j,Y0Y false,fm]++ownMembersOf (Y0n "AttributeError") [Y0v msg t])}:=Y0a _ rfl
 have e6:(#[Y0k h.objs.size,Y0j,Y0j,Y0j,Y0Y false,fm]++ownMembersOf (Y0n "AttributeError") [Y0v msg t])[6]?=some (.int 0 0):=rfl
 have e7:(#[Y0k h.objs.size,Y0j,Y0j,Y0j,Y0Y false,fm]++ownMembersOf (Y0n "AttributeError") [Y0v msg t])[7]?=some (.int 0 0):=rfl
 have old:∀b o,h.get? b=some o->((h.push {cls:=Y0n "tuple",data:=Y21 #[Y0v msg t]}).push {cls:=Y0n "AttributeError",data:=Y1I (#[Y0k h.objs.size,Y0j,Y0j,Y0j,Y0Y false,fm]++ownMembersOf (Y0n "AttributeError") [Y0v msg t])}).get? b=some o/\b<(h.push {cls:=Y0n "tuple",data:=Y21 #[Y0v msg t]}).objs.size:=fun b o e=>
  ⟨Y02 _ (Y02 _ e),by rw[Y1p];exact Y1q (Y09 e)⟩
 generalize(h.push {cls:=Y0n "tuple",data:=Y21 #[Y0v msg t]}).objs.size=ea at*
 generalize((h.push {cls:=Y0n "tuple",data:=Y21 #[Y0v msg t]}).push {cls:=Y0n "AttributeError",data:=Y1I (#[Y0k h.objs.size,Y0j,Y0j,Y0j,Y0Y false,fm]++ownMembersOf (Y0n "AttributeError") [Y0v msg t])})=h2 at*
 generalize hvs:#[Y0k h.objs.size,Y0j,Y0j,Y0j,Y0Y false,fm]++ownMembersOf (Y0n "AttributeError") [Y0v msg t]=vs at*
 refine wpAny_bind (wpAny_load hoE ?_)
 dsimp only
 rw[e6,e7]
 simp only[Y2m,Y0m,if_false]
 rw[if_neg (by decide)]
 refine wpAny_pure ?_
 simp only[if_true]
 have hT2:(⟨h2,g,d,t+1+1,os⟩:Shared).TypeIs (.ref ea) "AttributeError":=⟨_,hoE,rfl⟩
 refine wpAny_bind (wpAny_rule ?_)
 refine wpAny_bind (wpAny_typeOf hT2 ?_)
 dsimp only
 unfold layMembers
 refine wpAny_bind (wpAny_load hoE ?_)
 dsimp only
 refine wpAny_update hoE ?_
 unfold raiseNew
 refine wpAny_bind (wpAny_handled ?_)
 rw[hh]
 show wpAny _ _ (throw (Y0k ea)) _ _ _
 have hup:=Y1k (Y3H fun vs=>vs.extract 0 6++#[Y0v (Y0w "keys") (t+1),Y0k a]) hoE (Y2l (Y2b rfl _))
 refine wpAny_throw (hE ea _ _ (λb o e=>?_) ⟨_,hup,Y2R ..⟩)
 have:=old b o e
 exact(Y1v _ _ (Y23 this.2)).trans this.1
theorem ZeZ{tk:Tok}{Q:Value->Shared->Prop}(hx:h.get? a=some (⟨.type "tuple",none,.seq its n,sl⟩))(hh:A.handled=none)
  (hE:∀e h' t',(∀b o,h.get? b=some o->h'.get? b=some o)->(∃o,h'.get? e=some o/\o.cls=.type "AttributeError")->E (.ref e) ⟨h',g,d,t',os⟩):
  wpAny (model prog w) A (getAttrBy (.ref a) (.str "keys" tk) false) Q E ⟨h,g,d,t,os⟩:=by
 have hT:(⟨h,g,d,t,os⟩:Shared).TypeIs (.ref a) "tuple":=⟨_,hx,rfl⟩
 have f2:=Y1B.lookup
 have f3:=Y1B.bind (.ref a)
 repeat (any_goals (first|assumption|wp_step))
 refine codeAny_call_builtin Y1B.plain F.entry_tuple_ga (Y1B.check _ _ _ _ _ _ _ _ hT (F.args_tuple_getattribute_2 _ _) (ZaG hx (by simp[hh]) λe h' t' k ho=>?_))
 have hTe:(⟨h',g,d,t',os⟩:Shared).TypeIs (.ref e) "AttributeError":=ho
 show wpAny _ _ (getattributeRaised _ _ _ _ _ _ _) _ _ _
 unfold getattributeRaised
 refine wpAny_bind (wpAny_isInstance hTe Z45 ?_)
 simp only[if_true]
 unfold hookBehind onTheHeap
 simp only[Y0m,if_false]
 rw[Z91]
 refine wpAny_bind (wpAny_pure ?_)
 unfold hookOrError attributeErrorLeaves
 simp only[Y2I,if_true]
 exact wpAny_bind (wpAny_throw (hE e h' t' k ho))
theorem Zc0{Q:Option Value->Shared->Prop}{s:Shared}(hx:s.heap.get? a=some (⟨.type "tuple",none,.seq its n,sl⟩))(hh:A.handled=none)
  (hQ:∀h' t',(∀b o,s.heap.get? b=some o->h'.get? b=some o)->Q none {s with heap:=h',toks:=t'}):wpAny (model prog w) A (getAttr? (.ref a) "keys") Q E s:=by
 obtain⟨h,g,d,t,os⟩:=s
 unfold getAttr? getAttrBy? mkText
 refine wpAny_bind (wpAny_bind (wpAny_fresh (wpAny_pure ?_)))
 refine wpAny_bind (wpAny_attempt (ZeZ hx hh λe h' t' k ho=>?_))
 have hTe:(⟨h',g,d,t',os⟩:Shared).TypeIs (.ref e) "AttributeError":=ho
 refine wpAny_bind (wpAny_isInstance hTe Z45 ?_)
 simp only[if_true]
 exact wpAny_pure (hQ h' t' k)
end
section
variable{prog:Program}{w:World}{A:Around}{E:Value->Shared->Prop}{s:Shared}{K:Type} [DecidableEq K] {knd:KeyKind prog w K}
theorem Zcj{l:Addr}{items:Array Value}{nl:Nat}{sl:Array (Option Value)}{ks:Nat->K}{vs:Nat->Value}{Q:Value->Shared->Prop}(hh:A.handled=none)(hl:s.heap.get? l=some (⟨.type "tuple",none,.seq items nl,sl⟩))(hn:items.size≤sizeLine)
  (ht:∀(j:Nat) v,items[j]?=some v->∃q uk np oq,v=.ref q/\s.heap.get? q=some oq/\oq.cls=.type "tuple"/\oq.data=.seq #[uk,vs j] np/\knd.is (ks j) uk=true)
  (h:∀h' tk,h'.DictOf knd s.heap.objs.size (stTo ks vs items.size)->(∀b o,b<s.heap.objs.size->s.heap.get? b=some o->h'.get? b=some o)->Q (.ref s.heap.objs.size) {s with heap:=h',toks:=tk}):
  wpAny (model prog w) A (call (.type "dict") [.ref l]) Q E s:=by
 refine callType_codes (Q₁:=fun obj s₁=>obj=.ref s.heap.objs.size/\s₁={s with heap:=s.heap.push {cls:=.type "dict",data:=.dict #[]} }) F.kt_called_dict (F.kt_typeCall_dict_1 _) F.entry_dict_init (kt_code_dict_new _ ⟨rfl,rfl⟩) ?_
 rintro obj s₁ ⟨rfl,rfl⟩
 have hnew:(s.heap.push {cls:=.type "dict",data:=.dict #[]}).DictOf knd s.heap.objs.size []:=Y3Q s.heap
 have hl':(s.heap.push {cls:=.type "dict",data:=.dict #[]}).get? l=some (⟨.type "tuple",none,.seq items nl,sl⟩):=Y02 _ hl
 have hT:Y2p {s with heap:=s.heap.push {cls:=.type "dict",data:=.dict #[]} } (.ref l) "tuple":=⟨_,hl',rfl⟩
 refine⟨hnew.typeIs,F.args_dict_init_2 _ _,?_⟩
 unfold Builtin.«dict.__init__»
 refine wpAny_bind ?_
 unfold Y2U
 refine wpAny_bind (wpAny_notOrdered_dict hnew.typeIs ?_)
 show wpAny _ _ (pure (s.heap.objs.size,[Y0k l])) _ _ _
 refine wpAny_pure ?_
 show wpAny _ _ (Y1J "dict.__init__" s.heap.objs.size (.ref l) [] .none) _ _ _
 unfold Y1J
 refine wpAny_bind (wpAny_typeOf hT ?_)
 rw[if_pos (by decide)]
 refine wpAny_bind (Zc0 (s:={s with heap:=s.heap.push {cls:=.type "dict",data:=.dict #[]} }) hl' (by simp[hh]) fun h1 t1 hk1=>?_)
 simp only[Option.isNone_none,if_true]
 refine wpAny_bind (wpAny_rule ?_)
 have hl1:h1.get? l=some (⟨.type "tuple",none,.seq items nl,sl⟩):=hk1 _ _ hl'
 have hL1:h1.IsTuple l items:=⟨_,hl1,rfl,nl,rfl⟩
 have hlS:l<s.heap.objs.size:=Y09 hl
 have hbig:s.heap.objs.size<h1.objs.size:=by
  obtain⟨o,es,ep,ho,_⟩:=hnew
  exact Y09 (hk1 _ _ ho)
 refine wpAny_bind (wpAny_pyIter_tuple (s:={s with heap:=h1,toks:=t1}) hL1 ?_)
 have hneI:l≠h1.objs.size:=Y0f (Y25 hlS hbig)
 refine wpAny_pure ⟨plainId_quiet Z0h _,?_⟩
 refine Z9P (knd:=knd) (n:=items.size) ((Walks.tuple (A:=A.in1.in1) (by simp[hh]) h1.objs.size l hneI items).toS) s.heap.objs.size ?_ ks vs hn items.size 0 _ rfl (Y1t _)
  ⟨⟨_,Y0a _ rfl,rfl,rfl⟩,hL1.push _⟩ ?_ ?_ ?_
 ·simp only[Y0d,Y0q,or_false,not_or]
  exact⟨Y0f hbig,Y23 hlS⟩
 ·obtain⟨o,es,ep,ho,r⟩:=hnew
  exact⟨o,es,ep,Y02 _ (hk1 _ _ ho),r⟩
 ·intro j v hv
  obtain⟨q,uk,np,oq,rfl,a1,a2⟩:=ht j v hv
  have hqS:q<s.heap.objs.size:=Y09 a1
  refine⟨q,uk,np,oq,rfl,Y0f hqS,?_,Y02 _ (hk1 _ _ (Y02 _ a1)),a2⟩
  simp only[Y1c]
  exact Y0f (Y25 hqS hbig)
 ·intro s' hm hd
  obtain⟨h',g',d',tk',os'⟩:=s'
  have eg:g'=s.gens:=hm.gens
  have ed:d'=s.drawn:=hm.drawn
  have eo:os'=s.os:=hm.os
  subst eg;subst ed;subst eo
  refine⟨rfl,h h' tk' hd λb o hb e=>?_⟩
  refine hm.heap b o ?_ (Y02 _ (hk1 _ _ (Y02 _ e)))
  simp only[Y0d,Y0q,or_false,not_or]
  exact⟨Y0f hb,Y0f (Y25 hb hbig)⟩
end
section
variable{X:Cx}
theorem Zb3(hcalm:X.calm=true):CallR X (.type "dict") (fun xs H Q=>∃(a:Addr) (ps:List (Key×V)) (qs:List V),xs=[.ref a]/\H a=some (.tup qs)/\Zeo H ps qs/\∀p,H p=none->Q (.ref p) (upd H p (.dK (Z4f ps)))):=by
 intro pins s σ H xs us Q I r h
 obtain⟨a,ps,qs,rfl,ha,hp,q⟩:=h
 obtain⟨u,rfl,ru⟩:=Z4M r
 cases ru
 obtain⟨hz,its,rv,⟨ol,hl,hlc,nl,hld⟩,ol2,hl2,hdn⟩:=(show ObjOk X.prog X.w H s.heap a (.tup qs)from I.hok a _ ha)
 have hh:=I.ok.hd hcalm
 rw[hl]at hl2
 cases hl2
 obtain⟨lc,ldc,ld,lsl⟩:=ol
 cases hlc;cases hld;cases hdn
 have hlen:its.length=ps.length:=by rw[<- rv.length,hp.length]
 have hpair:∀(j:Nat) v,its.toArray[j]?=some v->∃q uk uv np oq,v=.ref q/\s.heap.get? q=some oq/\oq.cls=.type "tuple"/\oq.data=.seq #[uk,uv] np/\∃p,ps[j]?=some p/\RelV (kV p.1) uk/\RelV p.2 uv:=fun j v hv=>by
  have hv':its[j]?=some v:=by simpa using hv
  obtain⟨y,hy,ry⟩:=Paired.at rv j v hv'
  obtain⟨p,hpj,q,rfl,hq⟩:=Paired.at hp j y hy
  cases ry
  obtain⟨_,ts,rt,ht⟩:=(show ObjOk X.prog X.w H s.heap q (.tup [kV p.1,p.2])from I.hok q _ hq)
  obtain⟨uk,uv,rfl,r1,r2⟩:=Zak rt
  obtain⟨oq,ho,hc,n,hd⟩:=ht.1
  exact⟨q,uk,uv,n,oq,rfl,ho,hc,hd,p,hpj,r1,r2⟩
 obtain⟨vs,hvs⟩:∃vs:Nat->Value,∀(j:Nat) v,its.toArray[j]?=some v->∃q uk np oq,v=.ref q/\s.heap.get? q=some oq/\oq.cls=.type "tuple"/\oq.data=.seq #[uk,vs j] np/\∃p,ps[j]?=some p/\RelV (kV p.1) uk/\RelV p.2 (vs j):=by
  refine⟨λj=>if h:j<its.length then(hpair j its[j] (by simp[h])).choose_spec.choose_spec.choose else .none,λj v hv=>?_⟩
  have hv':its[j]?=some v:=by simpa using hv
  obtain⟨hj,rfl⟩:=Y08.mp hv'
  dsimp only
  rw[dif_pos hj]
  have z:=(hpair j its[j] (by simp[hj]))
  exact⟨z.choose,z.choose_spec.choose,z.choose_spec.choose_spec.choose_spec⟩
 refine Zcj (knd:=Z0Q X.prog X.w) (ks:=λj=>(ps.getD j (.inl 0,.non)).1) (vs:=vs) hh hl (by simpa [<- rv.length]using hz) (λj v hv=>?_) λh' tk hd hk=>?_
 ·obtain⟨q,uk,np,oq,e1,e2,e3,e4,p,hpj,r1,r2⟩:=hvs j v hv
  refine⟨q,uk,np,oq,e1,e2,e3,e4,Zc2 ?_⟩
  rw[Y0x,hpj]
  exact r1
 have kv:∀i,i≤ps.length->KV ((ps.take i).foldl (λc z=>putK c z.1 z.2) []) (stTo (λj=>(ps.getD j (.inl 0,.non)).1) vs i):=by
  intro i
  induction i with
  |zero=>intro _;exact .nil
  |succ i ih=>
   intro hi
   have hlt:i<its.length:=by lia
   obtain⟨q,uk,np,oq,e1,e2,e3,e4,p,hpj,r1,r2⟩:=hvs i its[i] (by simp[hlt])
   rw[Y1h,hpj,Y2B,Y2V]
   show KV (putK _ p.1 p.2) (stored _ (ps.getD i (.inl 0,.non)).1 _)
   have ek:(ps.getD i (.inl 0,.non)).1=p.1:=by rw[Y0x,hpj];rfl
   rw[ek]
   exact(ih (by lia)).put p.1 r2
 have kvn:=kv ps.length (Y07 _)
 rw[Y2Z]at kvn
 have hsz:its.toArray.size=ps.length:=by simp[hlen]
 rw[hsz]at hd
 have hpl:ps.length≤sizeLine:=by rw[hp.length];exact hz
 have zl:(Z4f ps).length≤sizeLine:=by
  have:=kvn.length
  have l2:=Z6T (λj=>(ps.getD j (.inl 0,.non)).1) vs ps.length
  unfold Z4f
  lia
 exact⟨.ref s.heap.objs.size,_,I.laid (a:=s.heap.objs.size) (o:=.dK (Z4f ps)) (t':=tk) (λb u e=>hk b u (Y09 e) e) (Y07 _) (ZdP zl (beq_eq_false_iff_ne.mpr (Y2F (Y0f I.big))) kvn hd),rfl,q _ (I.hok.fresh (Y07 _))⟩
end
end L2
namespace L2
open PySem PySem.Spec PyProof.Rows
noncomputable def cutS(x:Str)(lo hi:Option Int):Str:=⟨((x.cps.toList.drop (HT.sIx x.cps.toList.length 0 lo)).take (HT.sIx x.cps.toList.length x.cps.toList.length hi - HT.sIx x.cps.toList.length 0 lo)).toArray⟩
theorem Zfj(x:Str)(lo hi:Option Int):(cutS x lo hi).length≤x.length:=by
 unfold cutS Y3L
 simp only[Y0e,Y0A,Y1l,Y0c]
 lia
theorem Zam(x:Str)(lo hi:Option Int):((Y1u lo hi 1 x.length).filterMap (x.cps[·]?)).toArray=(cutS x lo hi).cps:=by
 obtain⟨h1,h2,h3⟩:=Z3m lo hi x.length
 have e:Y1u lo hi 1 x.length=sliceRange (sliceBounds lo hi none x.length).1 (sliceBounds lo hi none x.length).2.1 (sliceBounds lo hi none x.length).2.2:=rfl
 have el:x.cps.toList.length=x.length:=by simp[Y3L]
 rw[e,h1,h2,h3,sliceRange_one,pick_run]
 unfold cutS
 rw[el]
theorem Zca{x:Str}{lo hi:Option Int}(h:(Y1u lo hi 1 x.length).length=x.length):cutS x lo hi=x:=by
 obtain⟨h1,h2,h3⟩:=Z3m lo hi x.length
 have e:Y1u lo hi 1 x.length=sliceRange (sliceBounds lo hi none x.length).1 (sliceBounds lo hi none x.length).2.1 (sliceBounds lo hi none x.length).2.2:=rfl
 have el:x.cps.toList.length=x.length:=by simp[Y3L]
 rw[e,h1,h2,h3,sliceRange_one,Y03,Y15]at h
 unfold cutS
 rw[el]
 have hb:HT.sIx x.length x.length hi≤x.length:=by
  unfold HT.sIx
  cases hi with
  |none=>exact Y07 _
  |some i=>dsimp only;split<;>lia
 obtain⟨cps⟩:=x
 congr 1
 have e0:∀(n a b:Nat),b≤n->b - a=n->n=0\/a=0:=by lia
 rcases e0 _ _ _ hb h with z|z
 ·have:cps.toList=[]:=by
   rw[<- Y2a];rw[Y0c];exact z
  simp[this]
  have:cps=#[]:=by apply Array.toList_inj.mp;simpa using this
  rw[this]
 ·rw[h,z,Y3w,Y0X (by rw[Y0c];exact Y07 _)]
section
variable{X:Cx}
noncomputable def rSlS:V->Option Int->Option Int->Hp->VK->Prop:=λx lo hi H Q=>∃z:Str,x=.str z/\z.length≤sizeLine/\Q (.str (cutS z lo hi)) H
theorem Z8o{v:Value}{o:Option Int}(h:IsPart v o):∃l:Option (Int×Tok),v=partValue l/\l.map (·.1)=o:=by
 cases h with
 |none=>exact⟨none,rfl,rfl⟩
 |int i t=>exact⟨some (i,t),rfl,rfl⟩
theorem Zio:SlR X rSlS:=by
 intro pins s σ H x v vl vu lo hi sl Q I rx hs pl pu h
 obtain⟨z,rfl,hz,q⟩:=h
 obtain⟨t,rfl⟩:=rx
 obtain⟨l,rfl,rfl⟩:=Z8o pl
 obtain⟨u,rfl,rfl⟩:=Z8o pu
 refine⟨"str",_,slot_str_getitem.lookup,typeIs_str s z t,?_⟩
 refine wpAny_getItem_str_slice (l:=l) (u:=u) (st:=none) hs rfl ?_
 unfold sliceMade
 by_cases hc:(((none:Option (Int×Tok)).map (·.1)).getD 1==1&&(slicePicked z l u none).length==z.length)=true
 ·rw[if_pos hc]
  have e:cutS z (l.map (·.1)) (u.map (·.1))=z:=by
   refine Zca ?_
   rw[Y04]at hc
   exact eq_of_beq hc.2
  rw[e]at q
  exact⟨.str z,H,I,⟨_,rfl⟩,q⟩
 ·rw[if_neg hc]
  have e:(⟨((slicePicked z l u none).filterMap (z.cps[·]?)).toArray⟩:Str)=cutS z (l.map (·.1)) (u.map (·.1)):=by
   have:=Zam z (l.map (·.1)) (u.map (·.1))
   unfold slicePicked
   rw[show((none:Option (Int×Tok)).map (·.1)).getD 1=(1:Int)from rfl,this]
  rw[e]
  exact⟨Y0N (Zfj _ _ _) hz,.str _,H,I.tok _,⟨_,rfl⟩,q⟩
end
end L2
namespace L2
open PySem PySem.Spec PyProof.Rows
theorem Zcr:∀{xs:List V} {vs:List Value},xs.length=vs.length->(∀(j:Nat) x v,xs[j]?=some x->vs[j]?=some v->RelV x v)->Vals xs vs
 |[],[],_,_=>.nil
 |[],_::_,h,_=>by cases h
 |_::_,[],h,_=>by cases h
 |x::xs,v::vs,h,r=>.cons (r 0 x v rfl rfl) (Zcr (by simpa using h) λj a b ha hb=>r (j+1) a b (by simpa using ha) (by simpa using hb))
theorem ZaH{acc:Array Value}{n:Nat}(h:ItemsOf (λi v=>∃t,v=.int (0+i*1) t) acc n):Vals ((Y0E n).map λi=>V.int (i:Nat)) acc.toList:=by
 refine Zcr (by rw[Y03,Y15,Y0c];exact h.1.symm) λj x v hx hv=>?_
 obtain⟨t,rfl⟩:=h.2 j v (by simpa using hv)
 rw[Y06]at hx
 cases e:(Y0E n)[j]? with
 |none=>rw[e]at hx;cases hx
 |some k=>
  rw[e]at hx
  have hk:k=j:=by
   have:=Y08.mp e
   obtain⟨_,z⟩:=this
   simpa using z.symm
  subst hk
  cases hx
  exact⟨t,by rw[Int.zero_add,Int.mul_one]⟩
section
variable{X:Cx}{tg:Expr}
theorem Zea(hcalm:X.calm=true):Zeq X (.type "list") (.type "range") (fun x H Q=>∃n:Nat,x=.int n/\n≤1000000/\∀p,H p=none->Q (.ref p) (upd H p (.lst ((Y0E n).map fun i=>V.int (i:Nat))))):=by
 intro pins s σ H x u Q I rx h
 obtain⟨n,rfl,hn,q⟩:=h
 obtain⟨t,rfl⟩:=rx
 refine call_range_1 ?_
 have hl:((Y0E n).map λi=>V.int (i:Nat)).length≤sizeLine:=by rw[Y03,Y15];exact Y0N hn (by decide)
 have hh:=I.ok.hd hcalm
 refine call_list_range (n:=n) hh (Y3P ..) ?_ ?_ (by lia) λh' tk acc' c' kp e it=>?_
 ·exact small_one (by decide) (by decide) (by lia) (by lia)
 ·rw[rangeSize_one];split<;>lia
 have I1:=I.kept (h':=s.heap.push {cls:=.type "range",data:=.fields #[.int 0 s.toks,.int (n:Int) t,.int 1 (s.toks+1)]}) (t':=s.toks+1+1) fun b o e=>Y02 _ e
 exact⟨.ref _,_,I1.laid (t':=tk) kp (Y07 _) (show ObjOk X.prog X.w _ h' _ (.lst ((Y0E n).map λi=>V.int (i:Nat)))from⟨hl,acc'.toList,c',ZaH it,by simpa using e⟩),rfl,q _ (I1.hok.fresh (Y07 _))⟩
theorem Zd5{x y:Str}{id T:String}{r:V->Hp->VK->Prop}{e:Expr}{t:TE}{p p' pos pos':Pos}(hc:Zeq X (.type id) (.type T) r)
  (hg:Gl X x) (hm:X.mg x=none) (hv:bootBuiltins x=some (.type id)) (hg':Gl X y) (hm':X.mg y=none) (hv':bootBuiltins y=some (.type T)) (ha:PE X e t)
  (hn:x≠"__name__") (hdb:(x==("__debug__":Str))=false) (hn':y≠"__name__") (hdb':(y==("__debug__":Str))=false)
  (he:starEach [e] X.env=(false,eval e X.env)::starEach [] X.env):
  PE X (.Call (.Name x p) [.Call (.Name y p') [e] [] pos'] [] pos) (λσ H Q=>t σ H λv H1=>r v H1 Q):=by
 intro pins s σ H Q I h
 refine wpAny_Call_Name_kw (Z3b I hg hm hv ?_ hn hdb)
 refine Y0O ?_ rfl rfl
 show wpAny _ _ (spliced ((false,eval (.Call (.Name y p') [e] [] pos') X.env)::backTo pos (starEach [] X.env))) _ _ s
 refine Y1O ?_
 refine wpAny_Call_Name_kw (Z3b I hg' hm' hv' ?_ hn' hdb')
 refine Y0O ?_ he rfl
 rw[he]
 show wpAny _ _ (spliced ((false,eval e X.env)::backTo pos' (starEach [] X.env))) _ _ s
 refine Y1O (thn (ha pins s σ H _ I h) λu s1 ⟨v,H1,I1,r1,q1⟩=>?_)
 refine Y1T ?_
 exact thn (hc pins s1 σ H1 v u Q I1 r1 q1) λu2 s2 q2=>Y1T q2
noncomputable def Itrs(lo st:Int)(n:Nat):It:=⟨λi _=>i<n,λi H x H'=>H'=H/\x=.int (lo+i*st),λi _=>n≤i⟩
theorem Zal{P:Program}{w:World}{K:Y00}{tg:Expr}(it:Addr)(lo sp:Int)(n:Nat):Turn P w K tg (Itrs lo sp n) [it] it (λi h=>IsRangeIter h it (lo+(i:Nat)*sp) ((n:Int) - (i:Nat)) sp)where
 mem:=by simp
 obj:=λi h st b hb=>by
  have e:b=it:=by simpa using hb
  subst e
  exact⟨_,st,λv z=>by
   have z':Y1I _=Data.cell v:=z
   cases z'⟩
 keep:=λi h h' st k=>k it (by simp) _ st
 item:=by
  intro X hP hw hK hc i pins s σ H E I hf st hg
  subst hP hw hK
  obtain⟨f0,f1,f2,f3,f4,f5⟩:=hf it (by simp)
  have W:=Walks.range (prog:=X.prog) (w:=X.w) (I.ok.hd hc) it lo sp n
  refine W.item i s _ _ hg st λv h' tk hv st' kk=>?_
  obtain⟨t,rfl⟩:=hv
  have I1:Inv X pins σ H {s with heap:=h',toks:=tk}:=I.turned (λb o hb e=>kk b o (by simpa using hb) e) f0 f1 f3 f4 f5
  exact⟨_,rfl,ZaR (s:={s with heap:=h',toks:=tk}) (n:="range_iterator") st' rfl rfl (by decide) ⟨.int (lo+i*sp),H,I1,⟨t,rfl⟩,⟨rfl,rfl⟩,st',fun b hb=>(hf b hb).1⟩⟩
 done:=by
  intro X hP hw hK hc i pins s σ H E I hf st hg
  subst hP hw hK
  obtain⟨f0,f1,f2,f3,f4,f5⟩:=hf it (by simp)
  exact wpAny_pyNext_range_end (I.ok.hd hc) st (by have:n≤i:=hg;lia) λh' eb=>⟨rfl,I.turned (t':=s.toks) (λb o hb e=>eb b o hb e) f0 f1 f3 f4 f5⟩
 self:=λ_ _ _ _ _ st h=>wpAny_pyIter_rangeiter st h
noncomputable def len2(lo hi:Int):Nat:=(Y1b lo hi 2).toNat
theorem Zko(lo hi:Int):((len2 lo hi:Nat):Int)=Y1b lo hi 2:=by
 unfold len2 Y1b
 simp only[show(2:Int)>0 by decide,if_true]
 split<;>lia
theorem ZcH{a b:Int}(ha:0≤a)(ha':a<2^60)(hb:0≤b)(hb':b<2^60):Y3B a b 2=true:=by
 unfold Y3B Y1b
 simp only[Builtin.Range.rangeFitsLong,Y04,Y2u,decide_eq_true_eq,beq_iff_eq,show(2:Int)>0 by decide,if_true]
 split<;>lia
theorem ZcT{pins:List (Addr×Obj)}{σ:St}{H:Hp}{s:Shared}{R:It->Hp->Prop}{E:Value->Shared->Prop}{lo hi:Int}{t u v:Tok}{tk:Nat}(I:Inv X pins σ H s)(h1:0≤lo)(h2:lo<2^60)(h3:0≤hi)(h4:hi<2^60)
  (q:R (Itrs lo 2 (len2 lo hi)) H):wpAny (model X.prog X.w) X.A (pyIter (.ref s.heap.objs.size)) (PIE X pins σ tg R) E {s with heap:=s.heap.push {cls:=.type "range",data:=.fields #[.int lo t,.int hi u,.int 2 v]},toks:=tk}:=by
 refine wpAny_pyIter_range (Y3P ..) (ZcH h1 h2 h3 h4) ?_
 have I1:Inv X pins σ H {s with heap:=s.heap.push {cls:=.type "range",data:=.fields #[.int lo t,.int hi u,.int 2 v]},toks:=tk}:=I.kept fun b o e=>Y02 _ e
 refine⟨(s.heap.push {cls:=.type "range",data:=.fields #[.int lo t,.int hi u,.int 2 v]}).objs.size,[(s.heap.push {cls:=.type "range",data:=.fields #[.int lo t,.int hi u,.int 2 v]}).objs.size],_,_,H,rfl,
  I1.kept (t':=tk) λb o e=>Y02 _ e,Zal _ lo 2 (len2 lo hi),?_,λb hb=>?_,q⟩
 ·have e1:lo+((0:Nat):Int)*2=lo:=by simp
  have e2:((len2 lo hi:Nat):Int) - ((0:Nat):Int)=Y1b lo hi 2:=by rw[Zko];simp
  show IsRangeIter _ _ (lo+((0:Nat):Int)*2) (((len2 lo hi:Nat):Int) - ((0:Nat):Int)) 2
  rw[e1,e2]
  exact Y0a _ rfl
 ·have e:b=(s.heap.push {cls:=.type "range",data:=.fields #[.int lo t,.int hi u,.int 2 v]}).objs.size:=by simpa using hb
  subst e
  exact I1.fpOk (Y07 _) (I1.hok.fresh (Y07 _))
noncomputable def ZlN(ta:TA):TI:=λσ H R=>ta σ H λvs H1=>∃i j:Int,vs=[.int i,.int j,.int 2]/\(0≤i/\i<2^60/\0≤j/\j<2^60)/\R (Itrs i 2 (len2 i j)) H1
theorem ZcZ{a b c:Expr}{ta:TA}{p pos:Pos}(hg:Gl X "range")(hm:X.mg "range"=none)(ha:PA X [a,b,c] ta)(hs:starEach [a,b,c] X.env=[(false,eval a X.env),(false,eval b X.env),(false,eval c X.env)]:=by rfl)(hs2:starEach [b,c] X.env=[(false,eval b X.env),(false,eval c X.env)]:=by rfl):
  PI X tg (.Call (.Name "range" p) [a,b,c] [] pos) (ZlN ta):=by
 intro pins s σ H R I h
 refine Call_ (Z3b I hg hm boot_range (Y0O (thn (ha pos pins s σ H _ I h) λus s1 ⟨vs,H1,I1,r1,q1⟩=>?_) (by rw[hs,hs2]) (by rw[hs2];rfl)))
 obtain⟨i,j,e,⟨q1,q2,q3,q4⟩,q⟩:=q1
 subst e
 cases r1 with
 |cons r rr=>
  cases rr with
  |cons r' rr=>
   cases rr with
   |cons r'' rr=>
    cases rr
    obtain⟨t,rfl⟩:=r
    obtain⟨t',rfl⟩:=r'
    obtain⟨t'',rfl⟩:=r''
    exact call_range_3 (by decide) (ZcT (tk:=s1.toks) I1 q1 q2 q3 q4 q) (.inl (PyProof.noPylong_small (by decide)))
end
end L2
namespace L2
open PySem PySem.Spec PyProof.Rows
section
variable{prog:Program}{w:World}{A:Around}{R:Result->Shared->Prop}{I:Addr}{fp wr:List Addr}{n:Nat}{P:Nat->Value->Prop}{St:Nat->Heap->Prop}
end
section
variable{prog:Program}{w:World}{A:Around}{E:Value->Shared->Prop}{s:Shared}
end
section
variable{X:Cx}{x k:Str}{p pos kp:Pos}{e e0:Expr}{te:TE}
end
end L2
namespace HT
open PySem PySem.Spec PyProof.Rows
section
variable{prog:Program}{w:World}{A:Around}{E:Value->Shared->Prop}{s:Shared}
theorem tup_whole{t sl:Addr}{items:Array Value}{vl vu:Value}{lo hi:Option Int}{Q:Value->Shared->Prop}(ht:IsTup s.heap t items)(hs:s.heap.IsSliceOf sl vl vu .none)(pl:IsPart vl lo)(pu:IsPart vu hi)
  (h0:sIx items.size 0 lo=0) (h1:sIx items.size items.size hi=items.size) (h:Q (.ref t) s):wpAny (model prog w) A (getItem (.ref t) (.ref sl)) Q E s:=by
 obtain⟨os,hos,hcs,hds⟩:=id hs
 have hTs:s.TypeIs (.ref sl) "slice":=⟨os,hos,hcs⟩
 have hT:=ht.typeIs
 unfold getItem
 try with_reducible refine wpAny_holding ?_
 first|refine wpAny_bind (wpAny_pure ?_)|skip
 refine wpAny_bind (wpAny_sequenceKey hT (by decide) ?_)
 refine wpAny_bind (wpAny_callSpecial?_slot (name:=Y0w "__getitem__") hT Y0P (wpAny_call_entry Y0P hT entry_tuple_getitem ?_ (args_tuple_getitem _ _)))
 show wpAny _ _ (Y2x (.ref t)>>= _) _ _ s;refine wpAny_bind (tupleItemsOf_ ht ?_)
 refine wpAny_bind (wpAny_typeOf hTs ?_);rw[if_pos (by decide)]
 refine wpAny_bind (Z38 hs pl pu ?_)
 rw[h0,h1]
 show wpAny _ _ (if(((0:Nat):Int)==0&&(1:Int)==1&&(items.size - 0)==items.size)=true then _ else _) _ _ s
 rw[if_pos (by simp)]
 refine wpAny_bind ?_
 show wpAny _ _ (Y2z (.ref t)) _ _ s
 unfold Y2z
 refine wpAny_bind (wpAny_typeOf hT (wpAny_pure ?_))
 rw[if_pos (by decide)]
 exact wpAny_bind (wpAny_rule (wpAny_pure ⟨_,rfl,wpAny_pure h⟩))
end
end HT
namespace L2
open PySem PySem.Spec PyProof.Rows
section
variable{X:Cx}
noncomputable def rSlW(K:Y00):V->Option Int->Option Int->Hp->VK->Prop:=λx lo hi H Q=>∃a xs,x=.ref a/\SqT K H a xs/\HT.sIx xs.length 0 lo=0/\HT.sIx xs.length xs.length hi=xs.length/\Q (.ref a) H
theorem Zgv:SlR X (rSlW X.K):=by
 intro pins s σ H x v vl vu lo hi sl Q I rx hs pl pu h
 obtain⟨a,xs,rfl,hx,h0,h1,q⟩:=h
 cases rx
 obtain⟨its,r,ht,hz⟩:=I.tuple hx
 have hlen:its.toArray.size=xs.length:=by rw[Y0e];exact r.length.symm
 refine⟨"tuple",_,Y0P.lookup,ht.typeIs,?_⟩
 exact HT.tup_whole ht hs pl pu (by rw[hlen];exact h0) (by rw[hlen];exact h1) ⟨.ref a,H,I,rfl,q⟩
end
end L2
namespace L2
open PySem PySem.Spec PyProof.Rows
noncomputable def st3{α:Type}(xs:List α):List α:=(Y0E ((xs.length+2)/3)).filterMap λk=>xs[3*k]?
section
variable{X:Cx}{e e3:Expr}{te:TE}{p2 pos:Pos}
end
end L2
namespace L2
open PySem PySem.Spec PyProof.Rows
section
variable{X:Cx}
end
end L2
namespace L2
open PySem PySem.Spec PyProof.Rows
inductive Ty7 where|int|bool|str|list|tuple|dict|none
  deriving DecidableEq
noncomputable def Ty7.name:Ty7->String
 |.int=>"int"|.bool=>"bool"|.str=>"str"|.list=>"list"|.tuple=>"tuple"|.dict=>"dict"|.none=>"NoneType"
inductive MV where
 |non|bl (b:Bool)|int (i:Int)|str (x:Str)|tup (xs:List MV)|frl (xs:List MV)|ref (a:Addr)|ty (n:Ty7)
noncomputable def ZjM:HO->Bool
 |.tup _=>true
 |.frz _ (.lst _)=>true
 |_=>false
noncomputable def Kp(H H':Hp):Prop:=∀a o,H a=some o->ZjM o=true->H' a=some o
theorem Kp.refl(H:Hp):Kp H H:=λ_ _ h _=>h
theorem Kp.trans{H H1 H2:Hp}(a:Kp H H1)(b:Kp H1 H2):Kp H H2:=λc o h f=>b c o (a c o h f) f
theorem Kp.new{H:Hp}{p:Addr}(h:H p=none)(o:HO):Kp H (upd H p o):=λa u e _=>by rw[Z0g (Z1o e h)];exact e
theorem Kp.upd{H:Hp}{p:Addr}{o:HO}(h:H p=some o)(f:ZjM o=false)(o':HO):Kp H (upd H p o'):=λa u e g=>by
 rw[Z0g (ZlK e h (by intro z;rw[z,f]at g;cases g))];exact e
noncomputable def FrL(K:Y00)(H:Hp)(a:Addr)(vs:List V):Prop:=(∃o,H a=some (.frz o (.lst vs)))\/
 ∃(o:Obj) (its:Array Value) (n:Nat),K.lookup a=some o/\o.cls=.type "list"/\o.dict=none/\o.data=.seq its n/\its.size≤sizeLine/\Vals vs its.toList
theorem FrL.sq{K:Y00}{H:Hp}{a:Addr}{vs:List V}(h:FrL K H a vs):SqL K H a vs:=by
 rcases h with⟨o,h⟩|h
 ·exact .inl (.inr ⟨o,h⟩)
 ·exact .inr h
mutual
inductive RM (K:Y00) (H:Hp):MV->V->Prop
 |non:RM K H .non .non
 |bl (b:Bool):RM K H (.bl b) (.bl b)
 |int (i:Int):RM K H (.int i) (.int i)
 |str (x:Str):RM K H (.str x) (.str x)
 |ref (a:Addr):RM K H (.ref a) (.ref a)
 |ty (n:Ty7):RM K H (.ty n) (.ty n.name)
 |tup {a:Addr} {xs:List MV} {vs:List V}:H a=some (.tup vs)->RMs K H xs vs->RM K H (.tup xs) (.ref a)
 |frl {a:Addr} {xs:List MV} {vs:List V}:FrL K H a vs->RMs K H xs vs->RM K H (.frl xs) (.ref a)
inductive RMs (K:Y00) (H:Hp):List MV->List V->Prop
 |nil:RMs K H [] []
 |cons {x:MV} {v:V} {xs:List MV} {vs:List V}:RM K H x v->RMs K H xs vs->RMs K H (x::xs) (v::vs)
end
mutual
theorem RM.mono{K:Y00}{H H':Hp}(k:Kp H H'):∀{m:MV} {v:V},RM K H m v->RM K H' m v
 |_,_,.non=>.non
 |_,_,.bl b=>.bl b
 |_,_,.int i=>.int i
 |_,_,.str x=>.str x
 |_,_,.ref a=>.ref a
 |_,_,.ty n=>.ty n
 |_,_,.tup h r=>.tup (k _ _ h rfl) (RMs.mono k r)
 |_,_,.frl h r=>.frl (by
   rcases h with⟨o,h⟩|h
   ·exact .inl ⟨o,k _ _ h rfl⟩
   ·exact .inr h) (RMs.mono k r)
theorem RMs.mono{K:Y00}{H H':Hp}(k:Kp H H'):∀{m:List MV} {v:List V},RMs K H m v->RMs K H' m v
 |_,_,.nil=>.nil
 |_,_,.cons a b=>.cons (RM.mono k a) (RMs.mono k b)
end
theorem RMs.length{K:Y00}{H:Hp}:∀{m:List MV} {v:List V},RMs K H m v->m.length=v.length
 |_,_,.nil=>rfl
 |_,_,.cons _ b=>by rw[Y0I,Y0I,b.length]
theorem RMs.get{K:Y00}{H:Hp}:∀{m:List MV} {v:List V} {i:Nat} {x:MV},RMs K H m v->m[i]?=some x->∃u,v[i]?=some u/\RM K H x u
 |_,_,_,_,.nil,e=>by simp at e
 |_,_,0,_,.cons r _,e=>by simp at e;subst e;exact⟨_,rfl,r⟩
 |_,_,i+1,x,.cons _ t,e=>by
  obtain⟨u,h1,h2⟩:=RMs.get (i:=i) (x:=x) t (by simpa using e)
  exact⟨u,by simpa using h1,h2⟩
theorem RMs.get'{K:Y00}{H:Hp}:∀{m:List MV} {v:List V} {i:Nat} {u:V},RMs K H m v->v[i]?=some u->∃x,m[i]?=some x/\RM K H x u
 |_,_,_,_,.nil,e=>by simp at e
 |_,_,0,_,.cons r _,e=>by simp at e;subst e;exact⟨_,rfl,r⟩
 |_,_,i+1,x,.cons _ t,e=>by
  obtain⟨u,h1,h2⟩:=RMs.get' (i:=i) (u:=x) t (by simpa using e)
  exact⟨u,by simpa using h1,h2⟩
theorem RMs.append{K:Y00}{H:Hp}:∀{m m':List MV} {v v':List V},RMs K H m v->RMs K H m' v'->RMs K H (m++m') (v++v')
 |_,_,_,_,.nil,s=>s
 |_,_,_,_,.cons r t,s=>.cons r (t.append s)
theorem RMs.take{K:Y00}{H:Hp}:∀{m:List MV} {v:List V} (n:Nat),RMs K H m v->RMs K H (m.take n) (v.take n)
 |_,_,0,_=>.nil
 |_,_,_+1,.nil=>.nil
 |_,_,n+1,.cons r t=>.cons r (t.take n)
theorem RMs.drop{K:Y00}{H:Hp}:∀{m:List MV} {v:List V} (n:Nat),RMs K H m v->RMs K H (m.drop n) (v.drop n)
 |_,_,0,r=>r
 |_,_,_+1,.nil=>.nil
 |_,_,n+1,.cons _ t=>t.drop n
theorem RMs.ints{K:Y00}{H:Hp}:∀ns:List Int,RMs K H (ns.map MV.int) (ns.map V.int)
 |[]=>.nil
 |n::r=>.cons (.int n) (RMs.ints r)
theorem RMs.ints_of{K:Y00}{H:Hp}:∀{ns:List Int} {vs:List V},RMs K H (ns.map MV.int) vs->vs=ns.map V.int
 |[],_,.nil=>rfl
 |n::r,_,.cons (.int _) t=>by rw[t.ints_of];rfl
inductive MO where
 |lst (xs:List MV)|dic (kvs:List (Key×MV))|ins (c:Str) (fs:List (Str×MV))
 |fdic (o:Obj) (kvs:List (Key×MV))
noncomputable abbrev MH:=Addr->Option MO
noncomputable def updM(M:MH)(a:Addr)(o:MO):MH:=λb=>if b=a then some o else M b
theorem Z02{M:MH}{a:Addr}{o:MO}:updM M a o a=some o:=by unfold updM;rw[if_pos rfl]
theorem Z0j{M:MH}{a b:Addr}{o:MO}(h:b≠a):updM M a o b=M b:=by unfold updM;rw[if_neg h]
theorem Z9h{M:MH}{a:Addr}{o u:MO}:updM (updM M a o) a u=updM M a u:=by funext b;unfold updM;split<;>rfl
inductive RKs {κ:Type} (K:Y00) (H:Hp):List (κ×MV)->List (κ×V)->Prop
 |nil:RKs K H [] []
 |cons {k:κ} {x:MV} {v:V} {xs:List (κ×MV)} {vs:List (κ×V)}:RM K H x v->RKs K H xs vs->RKs K H ((k,x)::xs) ((k,v)::vs)
theorem RKs.mono{κ:Type}{K:Y00}{H H':Hp}(k:Kp H H'):∀{m:List (κ×MV)} {v:List (κ×V)},RKs K H m v->RKs K H' m v
 |_,_,.nil=>.nil
 |_,_,.cons a b=>.cons (a.mono k) (b.mono k)
theorem RKs.length{κ:Type}{K:Y00}{H:Hp}:∀{m:List (κ×MV)} {v:List (κ×V)},RKs K H m v->m.length=v.length
 |_,_,.nil=>rfl
 |_,_,.cons _ b=>by rw[Y0I,Y0I,b.length]
section
variable{κ:Type} [DecidableEq κ]
noncomputable def valM(kvs:List (κ×MV))(k:κ):Option MV:=match kvs with
 |[]=>none
 |(j,v)::r=>if j=k then some v else valM r k
noncomputable def putM(kvs:List (κ×MV))(k:κ)(v:MV):List (κ×MV):=match kvs with
 |[]=>[(k,v)]
 |(j,u)::r=>if j=k then(j,v)::r else(j,u)::putM r k v
end
noncomputable def RO(K:Y00)(H:Hp):MO->HO->Prop
 |.lst xs,.lst vs=>RMs K H xs vs
 |.dic kvs,.dK vs=>RKs K H kvs vs/\(kvs.map (·.1)).Nodup
 |.ins c fs,.ins C _ vs=>Y0h K mainGlobals c=some (some (.ref C))/\RKs K H fs vs
 |.fdic o kvs,.frz o' (.dK vs)=>o=o'/\RKs K H kvs vs/\(kvs.map (·.1)).Nodup
 |_,_=>False
theorem RO.mono{K:Y00}{H H':Hp}(k:Kp H H'){o:MO}{u:HO}(h:RO K H o u):RO K H' o u:=by
 cases o with
 |lst xs=>cases u<;>first|exact RMs.mono k h|exact h.elim
 |dic kvs=>cases u<;>first|exact⟨h.1.mono k,h.2⟩|exact h.elim
 |ins c fs=>cases u<;>first|exact⟨h.1,h.2.mono k⟩|exact h.elim
 |fdic ob kvs=>
  cases u with
  |frz o' u=>cases u<;>first|exact⟨h.1,h.2.1.mono k,h.2.2⟩|exact h.elim
  |_=>exact h.elim
noncomputable def RH(K:Y00)(M:MH)(H:Hp):Prop:=∀a o,M a=some o->∃u,H a=some u/\RO K H o u
theorem RH.free{K:Y00}{M:MH}{H:Hp}(r:RH K M H){p:Addr}(h:H p=none):M p=none:=by
 cases e:M p with
 |none=>rfl
 |some o=>obtain⟨u,hu,_⟩:=r p o e;rw[hu]at h;cases h
theorem RH.lst{K:Y00}{M:MH}{H:Hp}(r:RH K M H){p:Addr}{xs:List MV}(h:M p=some (.lst xs)):∃vs,H p=some (.lst vs)/\RMs K H xs vs:=by
 obtain⟨u,hu,ro⟩:=r p _ h
 cases u<;>try exact ro.elim
 exact⟨_,hu,ro⟩
theorem RH.dic{K:Y00}{M:MH}{H:Hp}(r:RH K M H){p:Addr}{xs:List (Key×MV)}(h:M p=some (.dic xs)):∃vs,H p=some (.dK vs)/\RKs K H xs vs/\(xs.map (·.1)).Nodup:=by
 obtain⟨u,hu,ro⟩:=r p _ h
 cases u<;>try exact ro.elim
 exact⟨_,hu,ro.1,ro.2⟩
theorem RH.fdic{K:Y00}{M:MH}{H:Hp}(r:RH K M H){p:Addr}{o:Obj}{xs:List (Key×MV)}(h:M p=some (.fdic o xs)):∃vs,H p=some (.frz o (.dK vs))/\RKs K H xs vs/\(xs.map (·.1)).Nodup:=by
 obtain⟨u,hu,ro⟩:=r p _ h
 cases u with
 |frz o' u=>
  cases u<;>try exact ro.elim
  obtain⟨rfl,r1,r2⟩:=ro
  exact⟨_,hu,r1,r2⟩
 |_=>exact ro.elim
theorem RH.put{K:Y00}{M:MH}{H:Hp}(r:RH K M H){p:Addr}{u:HO}{o:MO}(k:Kp H (upd H p u))(ro:RO K (upd H p u) o u):RH K (updM M p o) (upd H p u):=by
 intro a o' e
 by_cases h:a=p
 ·subst h
  rw[Z02]at e
  cases e
  exact⟨u,Z13,ro⟩
 ·rw[Z0j h]at e
  obtain⟨v,hv,rv⟩:=r a o' e
  exact⟨v,by rw[Z0g h];exact hv,rv.mono k⟩
theorem RH.kept{K:Y00}{M:MH}{H:Hp}(r:RH K M H){p:Addr}(hp:H p=none)(u:HO):RH K M (upd H p u):=by
 intro a o' e
 obtain⟨v,hv,rv⟩:=r a o' e
 exact⟨v,by rw[Z0g (Z1o hv hp)];exact hv,rv.mono (Kp.new hp u)⟩
noncomputable abbrev Sm:=List (Option MV)
noncomputable abbrev QM:=MV->MH->Prop
noncomputable abbrev TEm:=Sm->MH->QM->Prop
noncomputable abbrev TAm:=Sm->MH->(List MV->MH->Prop)->Prop
noncomputable def RS(K:Y00)(H:Hp)(σm:Sm)(σ:St):Prop:=σm.length=σ.length/\∀(i:Nat) (m:MV),σm[i]?=some (some m)->∃v,σ[i]?=some (some v)/\RM K H m v
theorem RS.mono{K:Y00}{H H':Hp}(k:Kp H H'){σm:Sm}{σ:St}(h:RS K H σm σ):RS K H' σm σ:=⟨h.1,λi m e=>by
 obtain⟨v,hv,r⟩:=h.2 i m e
 exact⟨v,hv,r.mono k⟩⟩
theorem RS.set{K:Y00}{H:Hp}{σm:Sm}{σ:St}(h:RS K H σm σ){m:MV}{v:V}(r:RM K H m v)(i:Nat):RS K H (σm.set i (some m)) (σ.set i (some v)):=by
 refine⟨by simp[h.1],λj x e=>?_⟩
 rw[Y16]at e
 by_cases hij:i=j
 ·subst hij
  rw[if_pos rfl]at e
  split at e
  ·cases e
   exact⟨v,by rw[Y16,if_pos rfl,if_pos (by rw[<- h.1];assumption)],r⟩
  ·cases e
 ·rw[if_neg hij]at e
  obtain⟨u,hu,ru⟩:=h.2 j x e
  exact⟨u,by rw[Y16,if_neg hij];exact hu,ru⟩
noncomputable def Dn(K:Y00)(H:Hp)(Q:VK):QM:=λm M=>∀v H',Kp H H'->RM K H' m v->RH K M H'->Q v H'
theorem Dn.on{K:Y00}{H H1:Hp}{Q:VK}(k:Kp H H1){m:MV}{M:MH}(h:Dn K H Q m M):Dn K H1 Q m M:=λv H' k' r rh=>h v H' (k.trans k') r rh
noncomputable def liE(K:Y00)(t:TEm):TE:=λσ H Q=>∃σm M,RS K H σm σ/\RH K M H/\t σm M (Dn K H Q)
noncomputable def liA(K:Y00)(t:TAm):TA:=λσ H Q=>∃σm M,RS K H σm σ/\RH K M H/\t σm M (λms M'=>∀vs H',Kp H H'->RMs K H' ms vs->RH K M' H'->Q vs H')
noncomputable def MonE(t:TEm):Prop:=∀{σ M} {Q Q':QM},(∀m M',Q m M'->Q' m M')->t σ M Q->t σ M Q'
noncomputable def MonA(t:TAm):Prop:=∀{σ M} {Q Q':List MV->MH->Prop},(∀m M',Q m M'->Q' m M')->t σ M Q->t σ M Q'
noncomputable abbrev W1:=MV->MH->QM->Prop
noncomputable abbrev W2:=MV->MV->MH->QM->Prop
noncomputable abbrev WA:=List MV->MH->QM->Prop
noncomputable def Mon1(w:W1):Prop:=∀{x M} {Q Q':QM},(∀m M',Q m M'->Q' m M')->w x M Q->w x M Q'
noncomputable def Mon2(w:W2):Prop:=∀{x y M} {Q Q':QM},(∀m M',Q m M'->Q' m M')->w x y M Q->w x y M Q'
noncomputable def MonW(w:WA):Prop:=∀{xs M} {Q Q':QM},(∀m M',Q m M'->Q' m M')->w xs M Q->w xs M Q'
noncomputable def li1(K:Y00)(w:W1):V->Hp->VK->Prop:=λx H Q=>∃mx M,RM K H mx x/\RH K M H/\w mx M (Dn K H Q)
noncomputable def li2(K:Y00)(w:W2):R2:=λx y H Q=>∃mx my M,RM K H mx x/\RM K H my y/\RH K M H/\w mx my M (Dn K H Q)
noncomputable def liW(K:Y00)(w:WA):List V->Hp->VK->Prop:=λxs H Q=>∃ms M,RMs K H ms xs/\RH K M H/\w ms M (Dn K H Q)
section
variable{K:Y00}
theorem Zhk{ta tb:TEm}{w:W2}(ma:MonE ta)(mb:MonE tb)(mw:Mon2 w){σ:St}{H:Hp}{Q:VK}
  (h:liE K (λσ M Q=>ta σ M λx M1=>tb σ M1 λy M2=>w x y M2 Q) σ H Q):tOp (li2 K w) (liE K ta) (liE K tb) σ H Q:=by
 obtain⟨σm,M,rs,rh,h⟩:=h
 refine⟨σm,M,rs,rh,ma (λx M1 h1=>?_) h⟩
 intro v H1 k1 r1 rh1
 refine⟨σm,M1,rs.mono k1,rh1,mb (λy M2 h2=>?_) h1⟩
 intro u H2 k2 r2 rh2
 exact⟨x,y,M2,r1.mono k2,r2,rh2,mw (λm M' hq=>hq.on (k1.trans k2)) h2⟩
end
theorem PE.weak{X:Cx}{e:Expr}{t t':TE}(h:PE X e t)(i:∀σ H Q,t' σ H Q->t σ H Q):PE X e t':=λpins s σ H Q I q=>h pins s σ H Q I (i _ _ _ q)
theorem PT.weak{X:Cx}{e:Expr}{t t':TT}(h:PT X e t)(i:∀σ H Q,t' σ H Q->t σ H Q):PT X e t':=λpins s σ H Q I q=>h pins s σ H Q I (i _ _ _ q)
theorem PW.weak{X:Cx}{e:Expr}{t t':TT}(h:PW X e t)(i:∀σ H Q,t' σ H Q->t σ H Q):PW X e t':=λwh pins s σ H Q I q=>h wh pins s σ H Q I (i _ _ _ q)
theorem PA.weak{X:Cx}{e:List Expr}{t t':TA}(h:PA X e t)(i:∀σ H Q,t' σ H Q->t σ H Q):PA X e t':=λpos pins s σ H Q I q=>h pos pins s σ H Q I (i _ _ _ q)
theorem PS.weak{X:Cx}{e:Stmt}{t t':TS}(h:PS X e t)(i:∀D σ H,t' D σ H->t D σ H):PS X e t':=λpins s σ H D I q=>h pins s σ H D I (i _ _ _ q)
theorem PSs.weak{X:Cx}{e:List Stmt}{t t':TS}(h:PSs X e t)(i:∀D σ H,t' D σ H->t D σ H):PSs X e t':=λpins s σ H D I q=>h pins s σ H D I (i _ _ _ q)
end L2
namespace L2
open PySem PySem.Spec PyProof.Rows
noncomputable def wBin(op:Operator)(x y:MV)(M:MH)(Q:QM):Prop:=match op,x,y with
 |.Add,.int i,.int j=>Q (.int (i+j)) M
 |.Sub,.int i,.int j=>Q (.int (i - j)) M
 |.Mult,.int i,.int j=>CMul i j/\Q (.int (i*j)) M
 |.FloorDiv,.int i,.int j=>Zer i j/\Q (.int (i/j)) M
 |.Mod,.int i,.int j=>0<j/\Q (.int (i%j)) M
 |.LShift,.int i,.int j=>CPow i j/\Q (.int (i*2^j.toNat)) M
 |.Add,.str i,.str j=>i.length+j.length≤sizeLine/\Q (.str (i++j)) M
 |.Mult,.str z,.int i=>z.length≤16/\ -1000≤i/\i≤1000/\Q (.str (Txt.mul z i)) M
 |.Add,.tup xs,.tup ys=>xs≠ []/\xs.length+ys.length≤sizeLine/\Q (.tup (xs++ys)) M
 |.Add,.ref a,.ref b=>∃xs ys,M a=some (.lst xs)/\M b=some (.lst ys)/\xs.length+ys.length≤sizeLine/\∀p,M p=none->Q (.ref p) (updM M p (.lst (xs++ys)))
 |_,_,_=>False
theorem Zde(op:Operator):Mon2 (wBin op):=by
 intro x y M Q Q' hq h
 unfold wBin at h ⊢
 split at h
 all_goals first
  |exact hq _ _ h
  |exact h.elim
  |exact⟨h.1,hq _ _ h.2⟩
  |exact⟨h.1,h.2.1,hq _ _ h.2.2⟩
  |exact⟨h.1,h.2.1,h.2.2.1,hq _ _ h.2.2.2⟩
  |(obtain⟨xs,ys,h1,h2,h3,h4⟩:=h
    exact⟨xs,ys,h1,h2,h3,λp hp=>hq _ _ (h4 p hp)⟩)
  |(obtain⟨ys,h2,h3,h4⟩:=h
    exact⟨ys,h2,h3,λp hp=>hq _ _ (h4 p hp)⟩)
  |(obtain⟨ys,h2,h3,h4,h5,h6⟩:=h
    exact⟨ys,h2,h3,h4,h5,λp hp=>hq _ _ (h6 p hp)⟩)
section
variable{X:Cx}
theorem Zjo(op:Operator):OpR X (binaryOp op) (li2 X.K (wBin op)):=by
 intro pins s σ H x y v u Q I rx ry h
 obtain⟨mx,my,M,r1,r2,rh,h⟩:=h
 unfold wBin at h
 split at h
 ·cases r1;cases r2;exact Zjp pins s σ H _ _ v u Q I rx ry ⟨_,_,rfl,rfl,h _ _ (Kp.refl _) (.int _) rh⟩
 ·cases r1;cases r2;exact Zji pins s σ H _ _ v u Q I rx ry ⟨_,_,rfl,rfl,h _ _ (Kp.refl _) (.int _) rh⟩
 ·cases r1;cases r2;exact Zjk pins s σ H _ _ v u Q I rx ry ⟨_,_,rfl,rfl,h.1,h.2 _ _ (Kp.refl _) (.int _) rh⟩
 ·cases r1;cases r2;exact ZeM pins s σ H _ _ v u Q I rx ry ⟨_,_,rfl,rfl,h.1,h.2 _ _ (Kp.refl _) (.int _) rh⟩
 ·cases r1;cases r2;exact Zjl pins s σ H _ _ v u Q I rx ry ⟨_,_,rfl,rfl,h.1,h.2 _ _ (Kp.refl _) (.int _) rh⟩
 ·cases r1;cases r2;exact Zjj pins s σ H _ _ v u Q I rx ry ⟨_,_,rfl,rfl,h.1,h.2 _ _ (Kp.refl _) (.int _) rh⟩
 ·cases r1;cases r2;exact ZbU pins s σ H _ _ v u Q I rx ry ⟨_,_,rfl,rfl,h.1,h.2 _ _ (Kp.refl _) (.str _) rh⟩
 ·cases r1;cases r2;exact ZgZ pins s σ H _ _ v u Q I rx ry ⟨_,_,rfl,rfl,h.1,h.2.1,h.2.2.1,h.2.2.2 _ _ (Kp.refl _) (.str _) rh⟩
 ·rename_i xs ys
  cases r1 with
  |tup h1 q1=>
   rename_i a vs
   cases r2 with
   |tup h2 q2=>
    rename_i b us
    obtain⟨h3,h4,h5⟩:=h
    refine Zh1 pins s σ H _ _ v u Q I rx ry ⟨_,_,vs,us,rfl,rfl,SqT.of h1,SqT.of h2,λz=>h3 ?_,by rw[<- q1.length,<- q2.length];exact h4,λz=>?_,λz p hp=>?_⟩
    ·subst z;cases q1;rfl
    ·subst z;cases q2
     rw[Y1i]at h5
     exact h5 _ _ (Kp.refl _) (.tup h1 q1) rh
    ·have k:=Kp.new hp (.tup (vs++us))
     exact h5 _ _ k (.tup Z13 ((q1.append q2).mono k)) (rh.kept hp _)
 ·cases r1;cases r2
  obtain⟨xs,ys,h1,h2,h3,h4⟩:=h
  obtain⟨vs,e1,q1⟩:=rh.lst h1
  obtain⟨us,e2,q2⟩:=rh.lst h2
  refine Zjn pins s σ H _ _ v u Q I rx ry ⟨_,_,vs,us,rfl,rfl,e1,e2,by rw[<- q1.length,<- q2.length];exact h3,λp hp=>?_⟩
  have k:=Kp.new hp (.lst (vs++us))
  exact h4 p (rh.free hp) _ _ k (.ref p) (rh.put k ((q1.append q2).mono k))
 ·exact h.elim
end
mutual
inductive DM (M:MH):MV->PyData->Prop
 |non:DM M .non .none
 |bl (b:Bool):DM M (.bl b) (.bool b)
 |int (i:Int):DM M (.int i) (.int i)
 |str (x:Str):DM M (.str x) (.str x)
 |lst {a:Addr} {xs:List MV} {ds:List PyData}:M a=some (.lst xs)->DMs M xs ds->DM M (.ref a) (.list ds)
 |frl {xs:List MV} {ds:List PyData}:DMs M xs ds->DM M (.frl xs) (.list ds)
 |tup {xs:List MV} {ds:List PyData}:DMs M xs ds->DM M (.tup xs) (.tuple ds)
inductive DMs (M:MH):List MV->List PyData->Prop
 |nil:DMs M [] []
 |cons {x:MV} {xs:List MV} {d:PyData} {ds:List PyData}:DM M x d->DMs M xs ds->DMs M (x::xs) (d::ds)
end
mutual
theorem DM.dp{K:Y00}{M:MH}{H:Hp}(rh:RH K M H):∀{m:MV} {d:PyData} {v:V},DM M m d->RM K H m v->Dp K H v d
 |_,_,_,.non,.non=>.non
 |_,_,_,.bl b,.bl _=>.bl b
 |_,_,_,.int i,.int _=>.int i
 |_,_,_,.str x,.str _=>.str x
 |_,_,_,.lst h q,r=>by
  cases r
  obtain⟨vs,e,r⟩:=rh.lst h
  exact .lst (SqL.of e) (DMs.dp rh q r)
 |_,_,_,.frl q,.frl h r=>.lst h.sq (DMs.dp rh q r)
 |_,_,_,.tup q,.tup h r=>.tup (SqT.of h) (DMs.dp rh q r)
theorem DMs.dp{K:Y00}{M:MH}{H:Hp}(rh:RH K M H):∀{m:List MV} {d:List PyData} {v:List V},DMs M m d->RMs K H m v->DpAll K H v d
 |_,_,_,.nil,.nil=>.nil
 |_,_,_,.cons a b,.cons c d=>.cons (DM.dp rh a c) (DMs.dp rh b d)
end
noncomputable def eqS:MV->MV->Option Bool
 |.int i,.int j=>some (decide (i=j))
 |.str i,.str j=>some (decide (i=j))
 |.bl i,.bl j=>some (decide (i=j))
 |.non,.non=>some true
 |.non,.int _=>some false|.int _,.non=>some false|.non,.bl _=>some false|.bl _,.non=>some false|.non,.str _=>some false|.str _,.non=>some false
 |.int _,.str _=>some false|.str _,.int _=>some false|.bl _,.str _=>some false|.str _,.bl _=>some false
 |_,_=>none
theorem Zgf{K:Y00}{H:Hp}{x y:MV}{u v:V}{b:Bool}(h:eqS x y=some b)(r:RM K H x u)(q:RM K H y v):scal u v=true/\decide (u=v)=b:=by
 unfold eqS at h
 split at h<;>cases h<;>cases r<;>cases q<;>refine⟨rfl,?_⟩
 ·rw[decide_eq_decide];exact⟨V.int.inj,λe=>by rw[e]⟩
 ·rw[decide_eq_decide];exact⟨V.str.inj,λe=>by rw[e]⟩
 ·rw[decide_eq_decide];exact⟨V.bl.inj,λe=>by rw[e]⟩
 all_goals rfl
inductive DHits (M:MH) (kb:List (Key×MV)):List (Key×MV)->Bool->Prop
 |nil:DHits M kb [] true
 |miss {k:Key} {v:MV} {r:List (Key×MV)}:valM kb k=none->DHits M kb ((k,v)::r) false
 |hit {k:Key} {v y:MV} {d e:PyData} {r:List (Key×MV)} {b:Bool}:valM kb k=some y->DM M v d->DM M y e->SeqAt.shaped d=true->SeqAt.shaped e=true->DHits M kb r b->DHits M kb ((k,v)::r) (PyData.eqv d e&&b)
noncomputable def LstM(M:MH)(x:MV)(xs:List MV):Prop:=x=.frl xs\/∃a,x=.ref a/\M a=some (.lst xs)
noncomputable def Z2O:MV->Bool
 |.non=>true|.bl _=>true|.int _=>true|.str _=>true|_=>false
noncomputable def Alike(M:MH):Nat->MV->MV->Prop
 |0,x,y=>Z2O x=true/\x=y
 |n+1,x,y=>(Z2O x=true/\x=y)\/(∃xs ys,x=.tup xs/\y=.tup ys/\xs.length=ys.length/\∀(i:Nat) u v,xs[i]?=some u->ys[i]?=some v->Alike M n u v)\/
  (∃xs ys,LstM M x xs/\LstM M y ys/\xs.length=ys.length/\∀(i:Nat) u v,xs[i]?=some u->ys[i]?=some v->Alike M n u v)\/
  ∃a b ka kb,x=.ref a/\y=.ref b/\M a=some (.dic ka)/\M b=some (.dic kb)/\ka.length=kb.length/\∀k u,(k,u)∈ka->∃v,valM kb k=some v/\Alike M n u v
noncomputable def wEq(x y:MV)(M:MH)(k:Bool->Prop):Prop:=match eqS x y with
 |some b=>k b
 |none=>(∃n≤60,Alike M n x y/\k true)\/(∃a b xs,x=.ref a/\y=.ref b/\M a=some (.lst xs)/\M b=some (.lst [])/\k xs.isEmpty)\/False\/False
noncomputable def toV:MV->V
 |.non=>.non|.bl b=>.bl b|.int i=>.int i|.str x=>.str x|_=>.non
theorem Z34{K:Y00}{H:Hp}{m:MV}{v:V}(f:Z2O m=true)(r:RM K H m v):v=toV m/\Z82 v=true:=by
 cases r<;>first|exact⟨rfl,rfl⟩|cases f
theorem Z33{K:Y00}{H:Hp}:∀{m:List MV} {v:List V},m.all Z2O=true->RMs K H m v->v=m.map toV/\v.all Z82=true
 |_,_,_,.nil=>⟨rfl,rfl⟩
 |_,_,f,.cons r t=>by
  rw[Y13,Y04]at f
  obtain⟨e,g⟩:=Z34 f.1 r
  obtain⟨e2,g2⟩:=Z33 f.2 t
  subst e e2
  exact⟨rfl,by rw[Y13,g,g2];rfl⟩
noncomputable def keyM:MV->Option Key
 |.int i=>some (.inl i)
 |.str x=>some (.inr x)
 |_=>none
theorem Zbi{K:Y00}{H:Hp}{m:MV}{v:V}{k:Key}(e:keyM m=some k)(r:RM K H m v):v=kV k:=by
 cases r<;>cases e<;>rfl
theorem Z5S{K:Y00}{H:Hp}{k:Key}:∀{m:List (Key×MV)} {v:List (Key×V)},RKs K H m v->(valM m k=none/\valV v k=none)\/∃x u,valM m k=some x/\valV v k=some u/\RM K H x u
 |_,_,.nil=>.inl ⟨rfl,rfl⟩
 |_,_,.cons (k:=j) (x:=x) (v:=u) r t=>by
  by_cases e:j=k
  ·refine .inr ⟨x,u,?_,Z6Q (p:=(j,u)) e,r⟩
   unfold valM;rw[if_pos e]
  ·have:=Z5S (k:=k) t
   unfold valM;rw[if_neg e,Z6R (p:=(j,u)) e]
   exact this
theorem ZfK{K:Y00}{H:Hp}{k:Key}:∀{m:List (Key×MV)} {v:List (Key×V)},RKs K H m v->(v.any λkv=>decide (kv.1=k))=(m.any λkv=>decide (kv.1=k))
 |_,_,.nil=>rfl
 |_,_,.cons r t=>by rw[Y1o,Y1o,ZfK t]
theorem ZcQ{K:Y00}{H:Hp}{k:Key}{x:MV}{u:V}(r:RM K H x u):∀{m:List (Key×MV)} {v:List (Key×V)},RKs K H m v->
  RKs K H (m.map λkv=>if kv.1=k then(kv.1,x)else kv) (v.map λkv=>if kv.1=k then(kv.1,u)else kv)
 |_,_,.nil=>.nil
 |_,_,.cons (k:=j) q t=>by
  rw[Y0b,Y0b]
  by_cases e:j=k
  ·rw[if_pos e,if_pos e];exact .cons r (ZcQ r t)
  ·rw[if_neg e,if_neg e];exact .cons q (ZcQ r t)
theorem ZfJ{κ:Type}{K:Y00}{H:Hp}:∀{m m':List (κ×MV)} {v v':List (κ×V)},RKs K H m v->RKs K H m' v'->RKs K H (m++m') (v++v')
 |_,_,_,_,.nil,s=>s
 |_,_,_,_,.cons r t,s=>.cons r (ZfJ t s)
theorem Zg2{κ:Type} [DecidableEq κ] {k:κ}{x:MV}:∀{m:List (κ×MV)},¬k∈m.map (·.1)->(m.map λkv=>if kv.1=k then(kv.1,x)else kv)=m
 |[],_=>rfl
 |(j,y)::r,h=>by
  rw[Y0b,if_neg (λe=>h (by simp[show j=k from e])),Zg2 (λe=>h (by simp[e]))]
theorem ZcU{κ:Type} [DecidableEq κ] {k:κ}{x:MV}:∀{m:List (κ×MV)},(m.map (·.1)).Nodup->putM m k x=if(m.any λkv=>decide (kv.1=k))=true then m.map (λkv=>if kv.1=k then(kv.1,x)else kv)else m++[(k,x)]
 |[],_=>rfl
 |(j,y)::r,h=>by
  rw[Y0b,Y1j]at h
  unfold putM
  rw[Y1o]
  by_cases e:j=k
  ·subst e
   rw[if_pos rfl,if_pos (by simp),Y0b,if_pos rfl,Zg2 h.1]
  ·rw[if_neg e,ZcU h.2,show decide ((j,y).1=k)=false from decide_eq_false e,Y2o,Y0b,if_neg (show¬(j,y).1=k from e)]
   split<;>rfl
theorem Z9u{κ:Type} [DecidableEq κ] {k:κ}{x:MV}:∀(m:List (κ×MV)),((putM m k x).map (·.1))=if k∈m.map (·.1)then m.map (·.1)else m.map (·.1)++[k]
 |[]=>rfl
 |(j,y)::r=>by
  unfold putM
  by_cases e:j=k
  ·subst e;simp
  ·rw[if_neg e,Y0b,Z9u r,Y0b]
   have e':k≠j:=λz=>e z.symm
   by_cases m:k∈r.map (·.1)
   ·rw[if_pos m,if_pos (Y0d.mpr (.inr m))]
   ·rw[if_neg m,if_neg (λz=>(Y0d.mp z).elim e' m)];rfl
theorem ZgK{K:Y00}{H:Hp}{k:Key}{x:MV}{u:V}(r:RM K H x u){m:List (Key×MV)}{v:List (Key×V)}(nd:(m.map (·.1)).Nodup)(h:RKs K H m v):
  RKs K H (putM m k x) (putK v k u)/\((putM m k x).map (·.1)).Nodup:=by
 refine⟨?_,?_⟩
 ·rw[ZcU nd]
  unfold putK
  rw[ZfK h]
  split
  ·exact ZcQ r h
  ·exact ZfJ h (.cons r .nil)
 ·rw[Z9u]
  split
  ·exact nd
  ·exact Zda nd (by assumption)
noncomputable def wIn(x y:MV)(M:MH)(k:Bool->Prop):Prop:=match y with
 |.tup xs=>Z2O x=true/\xs.all Z2O=true/\k (inV (toV x) (xs.map toV))
 |.frl xs=>Z2O x=true/\xs.all Z2O=true/\k (inV (toV x) (xs.map toV))
 |.ref a=>(∃xs,M a=some (.lst xs)/\Z2O x=true/\xs.all Z2O=true/\k (inV (toV x) (xs.map toV)))\/∃kvs kk,M a=some (.dic kvs)/\keyM x=some kk/\k (valM kvs kk).isSome
 |_=>False
noncomputable def Z7Y:MV->Bool
 |.non=>true|_=>false
noncomputable def isBl(b:Bool):MV->Bool
 |.bl c=>decide (c=b)
 |_=>false
noncomputable def wCmp(op:CmpOp)(x y:MV)(M:MH)(Q:QM):Prop:=match op with
 |.Lt=>∃i j,x=.int i/\y=.int j/\Q (.bl (decide (i<j))) M
 |.LtE=>(∃i j,x=.int i/\y=.int j/\Q (.bl (decide (i≤j))) M)\/∃i j,x=.str i/\y=.str j/\Q (.bl (!decide (j.cps.toList<i.cps.toList))) M
 |.Gt=>∃i j,x=.int i/\y=.int j/\Q (.bl (decide (j<i))) M
 |.GtE=>∃i j,x=.int i/\y=.int j/\Q (.bl (decide (j≤i))) M
 |.Eq=>wEq x y M λb=>Q (.bl b) M
 |.NotEq=>wEq x y M λb=>Q (.bl (!b)) M
 |.In=>wIn x y M λb=>Q (.bl b) M
 |.NotIn=>wIn x y M λb=>Q (.bl (!b)) M
 |.Is=>(y=.non/\Q (.bl (Z7Y x)) M)\/∃b,y=.bl b/\Q (.bl (isBl b x)) M
 |.IsNot=>(y=.non/\Q (.bl (!Z7Y x)) M)\/∃b,y=.bl b/\Q (.bl (!isBl b x)) M
theorem ZfZ{x y:MV}{M:MH}{k k':Bool->Prop}(hk:∀b,k b->k' b)(h:wEq x y M k):wEq x y M k':=by
 unfold wEq at h ⊢
 split
 ·rename_i b e;rw[e]at h;exact hk _ h
 ·rename_i e;rw[e]at h
  rcases h with⟨n,h1,h2,h3⟩|⟨a,b,xs,h1,h2,h3,h4,h5⟩|h|h
  ·exact .inl ⟨n,h1,h2,hk _ h3⟩
  ·exact .inr (.inl ⟨a,b,xs,h1,h2,h3,h4,hk _ h5⟩)
  ·exact h.elim
  ·exact h.elim
theorem ZfY{x y:MV}{M:MH}{k k':Bool->Prop}(hk:∀b,k b->k' b)(h:wIn x y M k):wIn x y M k':=by
 unfold wIn at h ⊢
 split at h
 ·exact⟨h.1,h.2.1,hk _ h.2.2⟩
 ·exact⟨h.1,h.2.1,hk _ h.2.2⟩
 ·rcases h with⟨xs,h1,h2,h3,h4⟩|⟨kvs,kk,h1,h2,h3⟩
  ·exact .inl ⟨xs,h1,h2,h3,hk _ h4⟩
  ·exact .inr ⟨kvs,kk,h1,h2,hk _ h3⟩
 ·exact h.elim
theorem Z5X(op:CmpOp):Mon2 (wCmp op):=by
 intro x y M Q Q' hq h
 cases op
 ·exact ZfZ (k:=λb=>Q (.bl b) M) (k':=λb=>Q' (.bl b) M) (λb h=>hq _ _ h) h
 ·exact ZfZ (k:=λb=>Q (.bl (!b)) M) (k':=λb=>Q' (.bl (!b)) M) (λb h=>hq _ _ h) h
 ·obtain⟨i,j,h1,h2,h3⟩:=h;exact⟨i,j,h1,h2,hq _ _ h3⟩
 ·rcases h with⟨i,j,h1,h2,h3⟩|⟨i,j,h1,h2,h3⟩
  ·exact .inl ⟨i,j,h1,h2,hq _ _ h3⟩
  ·exact .inr ⟨i,j,h1,h2,hq _ _ h3⟩
 ·obtain⟨i,j,h1,h2,h3⟩:=h;exact⟨i,j,h1,h2,hq _ _ h3⟩
 ·obtain⟨i,j,h1,h2,h3⟩:=h;exact⟨i,j,h1,h2,hq _ _ h3⟩
 ·rcases h with h|⟨b,e,h⟩
  ·exact .inl ⟨h.1,hq _ _ h.2⟩
  ·exact .inr ⟨b,e,hq _ _ h⟩
 ·rcases h with h|⟨b,e,h⟩
  ·exact .inl ⟨h.1,hq _ _ h.2⟩
  ·exact .inr ⟨b,e,hq _ _ h⟩
 ·exact ZfY (k:=λb=>Q (.bl b) M) (k':=λb=>Q' (.bl b) M) (λb h=>hq _ _ h) h
 ·exact ZfY (k:=λb=>Q (.bl (!b)) M) (k':=λb=>Q' (.bl (!b)) M) (λb h=>hq _ _ h) h
section
variable{X:Cx}
theorem Zdp{K:Y00}{H:Hp}{m:MV}{v:V}{b:Bool}(r:RM K H m v):decide (v=.bl b)=isBl b m:=by
 cases r<;>first|rfl|(rename_i c;cases b<;>cases c<;>rfl)
theorem Zbk{K:Y00}{H:Hp}{m:MV}{v:V}(r:RM K H m v):decide (v=.non)=Z7Y m:=by cases r<;>rfl
theorem ZlL{kvs:List (Key×V)}{vs:List (Key×Value)}{k:Key}{v:V}(r:KV kvs vs)(h:valV kvs k=some v):∃u,valueAt vs k=some u/\RelV v u:=by
 have q:=r.val k
 rw[h]at q
 exact RelO.some_of q
theorem LstM.sq{M:MH}{H:Hp}(rh:RH X.K M H){x:MV}{xs:List MV}{u:V}(h:LstM M x xs)(r:RM X.K H x u):∃a vs,u=.ref a/\SqL X.K H a vs/\RMs X.K H xs vs:=by
 rcases h with rfl|⟨a,rfl,h⟩
 ·cases r with
  |frl h1 q1=>exact⟨_,_,rfl,h1.sq,q1⟩
 ·cases r
  obtain⟨vs,e,q⟩:=rh.lst h
  exact⟨a,vs,rfl,SqL.of e,q⟩
theorem Z6P{xs:List V}{us:List Value}(r:Vals xs us){i:Nat}{u:Value}(h:us[i]?=some u):∃x,xs[i]?=some x/\RelV x u:=by
 induction r generalizing i with
 |nil=>cases h
 |cons q _ ih=>
  cases i with
  |zero=>cases h;exact⟨_,rfl,q⟩
  |succ i=>exact ih (i:=i) h
theorem ZjC{kvs:List (Key×V)}{vs:List (Key×Value)}(r:KV kvs vs){k:Key}{u:Value}(h:(k,u)∈vs):∃x,(k,x)∈kvs/\RelV x u:=by
 induction r with
 |nil=>cases h
 | @cons p p' _ _ q _ ih=>
  obtain⟨k1,x1⟩:=p
  obtain⟨k2,x2⟩:=p'
  rcases Y0d.mp h with e|h
  ·cases e
   have e1:k1=k:=q.1
   subst e1
   exact⟨x1,Y0l,q.2⟩
  ·obtain⟨x,m,rx⟩:=ih h
   exact⟨x,Y0g _ m,rx⟩
theorem ZfH{K:Y00}{H:Hp}{k:Key}{v:V}:∀{m:List (Key×MV)} {vs:List (Key×V)},RKs K H m vs->(k,v)∈vs->∃x,(k,x)∈m/\RM K H x v
 |_,_,.nil,h=>by cases h
 |_,_,.cons r t,h=>by
  rcases Y0d.mp h with e|h
  ·cases e;exact⟨_,Y0l,r⟩
  ·obtain⟨x,m,q⟩:=ZfH t h
   exact⟨x,Y0g _ m,q⟩
theorem Alike.inn{pins:List (Addr×Obj)}{s:Shared}{σ:St}{H:Hp}{M:MH}(I:Inv X pins σ H s)(rh:RH X.K M H){n:Nat}{A:Around}(hu:A.units<cLine)
  (ih:∀{x y:MV} {u v:V} {u' v':Value},Alike M n x y->RM X.K H x u->RM X.K H y v->RelV u u'->RelV v v'->AliP X.prog X.w A.in1 s u' v')
  {x y:MV} {u v:V} {u' v':Value} (h:Alike M (n+1) x y) (r1:RM X.K H x u) (r2:RM X.K H y v) (q1:RelV u u') (q2:RelV v v'):
  (Z2O x=true/\x=y)\/∃a b,u'=.ref a/\v'=.ref b/\RcP X.prog X.w A s (.ref a) (.ref b)/\RnP X.prog X.w A s (.ref a) (.ref b):=by
 rw[Alike]at h
 rcases h with h|⟨xs,ys,rfl,rfl,e,h⟩|⟨xs,ys,h1,h2,e,h⟩|⟨a,b,ka,kb,rfl,rfl,h1,h2,e,h⟩
 ·exact .inl h
 ·cases r1 with
  |tup g1 w1=>
   cases r2 with
   |tup g2 w2=>
    rename_i a vs b us
    obtain rfl:u'=Y0k a:=q1
    obtain rfl:v'=Y0k b:=q2
    obtain⟨i1,p1,t1,_⟩:=I.tuple (SqT.of g1)
    obtain⟨i2,p2,t2,_⟩:=I.tuple (SqT.of g2)
    have z:i1.toArray.size=i2.toArray.size:=by rw[Y0e,Y0e,<- p1.length,<- p2.length,<- w1.length,<- w2.length];exact e
    have he:∀p∈i1.toArray.toList.zip i2.toArray.toList,AliP X.prog X.w A.in1 s p.1 p.2:=by
     intro p hp
     obtain⟨i,hi⟩:=List.mem_iff_getElem?.mp hp
     rw[Y2J]at hi
     obtain⟨x1,c1,d1⟩:=Z6P p1 hi.1
     obtain⟨x2,c2,d2⟩:=Z6P p2 hi.2
     obtain⟨m1,c3,d3⟩:=w1.get' c1
     obtain⟨m2,c4,d4⟩:=w2.get' c2
     exact ih (h i m1 m2 c3 c4) d3 d4 d1 d2
    exact .inr ⟨_,_,rfl,rfl,Ziy t1 t2 z hu he,Zh5 t1 t2 z hu he⟩
 ·obtain⟨a,vs,rfl,g1,w1⟩:=h1.sq rh r1
  obtain⟨b,us,rfl,g2,w2⟩:=h2.sq rh r2
  obtain rfl:u'=Y0k a:=q1
  obtain rfl:v'=Y0k b:=q2
  obtain⟨i1,p1,⟨o1,n1,t1,t2,_,t3⟩,_⟩:=I.list g1
  obtain⟨i2,p2,⟨o2,n2,t4,t5,_,t6⟩,_⟩:=I.list g2
  have z:i1.toArray.size=i2.toArray.size:=by rw[Y0e,Y0e,<- p1.length,<- p2.length,<- w1.length,<- w2.length];exact e
  have he:∀j (h1:j<i1.toArray.size) (h2:j<i2.toArray.size),AliP X.prog X.w A.in1 s i1.toArray[j] i2.toArray[j]:=by
   intro i l1 l2
   obtain⟨x1,c1,d1⟩:=Z6P p1 (i:=i) (u:=i1.toArray[i]) (by simp[Y01 (show i<i1.length by simpa using l1)])
   obtain⟨x2,c2,d2⟩:=Z6P p2 (i:=i) (u:=i2.toArray[i]) (by simp[Y01 (show i<i2.length by simpa using l2)])
   obtain⟨m1,c3,d3⟩:=w1.get' c1
   obtain⟨m2,c4,d4⟩:=w2.get' c2
   exact ih (h i m1 m2 c3 c4) d3 d4 d1 d2
  exact .inr ⟨_,_,rfl,rfl,Ziz ⟨o1,t1,t2,n1,t3⟩ ⟨o2,t4,t5,n2,t6⟩ z hu he,Zh6 ⟨o1,t1,t2,n1,t3⟩ ⟨o2,t4,t5,n2,t6⟩ z hu he⟩
 ·cases r1;cases r2
  obtain rfl:u'=Y0k a:=q1
  obtain rfl:v'=Y0k b:=q2
  obtain⟨va,ea,wa,_⟩:=rh.dic h1
  obtain⟨vb,eb,wb,_⟩:=rh.dic h2
  obtain⟨_,na,ua,pa,da⟩:=Zk4 I.hok ea
  obtain⟨_,nb,ub,pb,db⟩:=Zk4 I.hok eb
  have z:ua.length=ub.length:=by rw[<- Paired.length pa,<- wa.length,<- Paired.length pb,<- wb.length];exact e
  have he:∀p∈ua,∃y,valueAt ub p.1=some y/\AliP X.prog X.w A.in1 s p.2 y:=by
   rintro⟨k,u1⟩ hp
   obtain⟨x1,c1,d1⟩:=ZjC pa hp
   obtain⟨m1,c2,d2⟩:=ZfH wa c1
   obtain⟨m2,c3,c4⟩:=h k m1 c2
   rcases Z5S (k:=k) wb with⟨z1,z2⟩|⟨x',u2,z1,z2,r3⟩
   ·rw[c3]at z1;cases z1
   ·rw[c3]at z1;cases z1
    obtain⟨w',hw,rw'⟩:=ZlL pb z2
    exact⟨w',hw,ih c4 d2 r3 d1 rw'⟩
  exact .inr ⟨_,_,rfl,rfl,ZiA na nb da db hu z he,Zh7 na nb da db hu z he⟩
theorem Z8s{K:Y00}{H:Hp}{A:Around}{s:Shared}{P:Program}{w:World}{x:MV}{u v:V}{u' v':Value}(f:Z2O x=true)(r1:RM K H x u)(r2:RM K H x v)(q1:RelV u u')(q2:RelV v v'):AliP P w A s u' v':=by
 obtain⟨rfl,f1⟩:=Z34 f r1
 obtain⟨rfl,f2⟩:=Z34 f r2
 have h:=Zgg (A:=A) (s:=s) q1 q2 f1 f2
 have e:eqV (toV x) (toV x)=true:=by cases x<;>first|(cases f;done)|simp[toV,eqV]
 rw[e]at h
 exact .of_at h
theorem Alike.ok{pins:List (Addr×Obj)}{s:Shared}{σ:St}{H:Hp}{M:MH}(I:Inv X pins σ H s)(rh:RH X.K M H):∀(n:Nat) {A:Around} {x y:MV} {u v:V} {u' v':Value},A.units+n<cLine->Alike M n x y->RM X.K H x u->RM X.K H y v->RelV u u'->RelV v v'->AliP X.prog X.w A s u' v'
 |0,A,x,y,u,v,u',v',hu,h,r1,r2,q1,q2=>by
  rw[Alike]at h
  obtain⟨f,rfl⟩:=h
  exact Z8s f r1 r2 q1 q2
 |n+1,A,x,y,u,v,u',v',hu,h,r1,r2,q1,q2=>by
  rcases Alike.inn I rh (A:=A) (by lia) (λh r1 r2 q1 q2=>Alike.ok I rh n (show A.units+1+n<cLine by lia) h r1 r2 q1 q2) h r1 r2 q1 q2 with⟨f,rfl⟩|⟨a,b,rfl,rfl,h,_⟩
  ·exact Z8s f r1 r2 q1 q2
  ·exact .refs h
theorem Alike.top{pins:List (Addr×Obj)}{s:Shared}{σ:St}{H:Hp}{M:MH}(I:Inv X pins σ H s)(rh:RH X.K M H){n:Nat}{x y:MV}{u v:V}{u' v':Value}(h:Alike M n x y)(hu:X.A.units+n<cLine)(ns:eqS x y=none)(r1:RM X.K H x u)(r2:RM X.K H y v)(q1:RelV u u')(q2:RelV v v'):
  RcP X.prog X.w X.A s u' v'/\RnP X.prog X.w X.A s u' v':=by
 have no:¬(Z2O x=true/\x=y):=by
  rintro⟨f,rfl⟩
  cases x<;>first|(cases f;done)|(cases ns;done)
 cases n with
 |zero=>rw[Alike]at h;exact(no h).elim
 |succ n=>
  rcases Alike.inn I rh (A:=X.A) (by lia) (λh r1 r2 q1 q2=>Alike.ok I rh n (show X.A.units+1+n<cLine by lia) h r1 r2 q1 q2) h r1 r2 q1 q2 with f|⟨a,b,rfl,rfl,h,h'⟩
  ·exact(no f).elim
  ·exact⟨h,h'⟩
theorem Z8d(hu:X.A.units+70<cLine)(op:CmpOp):OpR X (compareOp op) (li2 X.K (wCmp op)):=by
 intro pins s σ H x y v u Q I rx ry h
 obtain⟨mx,my,M,r1,r2,rh,h⟩:=h
 have hb:∀b,Dn X.K H Q (.bl b) M->Q (.bl b) H:=λb h=>h _ _ (Kp.refl _) (.bl b) rh
 have hu1:X.A.units+1<cLine:=by lia
 have hu64:X.A.units+64<cLine:=by lia
 have huI:X.A.in1.units+64<cLine:=by show X.A.units+1+64<cLine;lia
 have hu0:X.A.units<cLine:=by lia
 cases op with
 |Lt=>obtain⟨i,j,rfl,rfl,h⟩:=h;cases r1;cases r2;exact ZlF pins s σ H _ _ v u Q I rx ry ⟨_,_,rfl,rfl,hb _ h⟩
 |LtE=>
  rcases h with⟨i,j,rfl,rfl,h⟩|⟨i,j,rfl,rfl,h⟩
  ·cases r1;cases r2;exact ZlG pins s σ H _ _ v u Q I rx ry ⟨_,_,rfl,rfl,hb _ h⟩
  ·cases r1
   cases r2
   obtain⟨t1,rfl⟩:=rx
   obtain⟨t2,rfl⟩:=ry
   exact PySem.P.le_str ⟨.bl _,H,I,rfl,hb _ h⟩
 |Gt=>obtain⟨i,j,rfl,rfl,h⟩:=h;cases r1;cases r2;exact ZlH pins s σ H _ _ v u Q I rx ry ⟨_,_,rfl,rfl,hb _ h⟩
 |GtE=>obtain⟨i,j,rfl,rfl,h⟩:=h;cases r1;cases r2;exact ZlI pins s σ H _ _ v u Q I rx ry ⟨_,_,rfl,rfl,hb _ h⟩
 |Is=>
  rcases h with⟨rfl,h⟩|⟨b,rfl,h⟩
  ·cases r2;exact Zjm pins s σ H _ _ v u Q I rx ry ⟨rfl,by rw[Zbk r1];exact hb _ h⟩
  ·cases r2;exact Zh0 pins s σ H _ _ v u Q I rx ry ⟨b,rfl,by rw[Zdp r1];exact hb _ h⟩
 |IsNot=>
  rcases h with⟨rfl,h⟩|⟨b,rfl,h⟩
  ·cases r2;exact ZgY pins s σ H _ _ v u Q I rx ry ⟨rfl,by rw[Zbk r1];exact hb _ h⟩
  ·cases r2;exact ZeK pins s σ H _ _ v u Q I rx ry ⟨b,rfl,by rw[Zdp r1];exact hb _ h⟩
 |Eq=>
  have h:wEq mx my M λb=>Dn X.K H Q (.bl b) M:=h
  unfold wEq at h
  split at h
  ·rename_i b e
   obtain⟨e1,e2⟩:=Zgf e r1 r2
   exact ZlJ pins s σ H _ _ v u Q I rx ry ⟨e1,by rw[e2];exact hb _ h⟩
  ·rcases h with⟨n,h1,h2,h3⟩|⟨a,b,xs,rfl,rfl,h3,h4,h5⟩|h|h
   ·exact(h2.top I rh (by lia) (by assumption) r1 r2 rx ry).1 _ _ ⟨.bl true,H,I,rfl,hb _ h3⟩
   ·cases r1;cases r2
    obtain⟨vs,e1,q1⟩:=rh.lst h3
    obtain⟨us,e2,q2⟩:=rh.lst h4
    cases q2
    refine ZeN hu0 pins s σ H _ _ v u Q I rx ry ⟨_,_,vs,rfl,rfl,SqL.of e1,SqL.of e2,?_⟩
    have:vs.isEmpty=xs.isEmpty:=by cases q1<;>rfl
    rw[this];exact hb _ h5
   ·exact h.elim
   ·exact h.elim
 |NotEq=>
  have h:wEq mx my M λb=>Dn X.K H Q (.bl (!b)) M:=h
  unfold wEq at h
  split at h
  ·rename_i b e
   obtain⟨e1,e2⟩:=Zgf e r1 r2
   exact ZlE pins s σ H _ _ v u Q I rx ry ⟨e1,by rw[e2];exact hb _ h⟩
  ·rcases h with⟨n,h1,h2,h3⟩|⟨a,b,xs,rfl,rfl,h3,h4,h5⟩|h|h
   ·exact(h2.top I rh (by lia) (by assumption) r1 r2 rx ry).2 _ _ ⟨.bl false,H,I,rfl,hb _ h3⟩
   ·cases r1;cases r2
    obtain⟨vs,e1,q1⟩:=rh.lst h3
    obtain⟨us,e2,q2⟩:=rh.lst h4
    cases q2
    refine ZeL hu0 pins s σ H _ _ v u Q I rx ry ⟨_,_,vs,rfl,rfl,SqL.of e1,SqL.of e2,?_⟩
    have:vs.isEmpty=xs.isEmpty:=by cases q1<;>rfl
    rw[this];exact hb _ h5
   ·exact h.elim
   ·exact h.elim
 |In=>
  have h:wIn mx my M λb=>Dn X.K H Q (.bl b) M:=h
  unfold wIn at h
  split at h
  ·cases r2 with
   |tup h1 q1=>
    obtain⟨f1,f2,h⟩:=h
    obtain⟨e1,g1⟩:=Z34 f1 r1
    obtain⟨e2,g2⟩:=Z33 f2 q1
    exact Z77 pins s σ H _ _ v u Q I rx ry ⟨_,_,rfl,.inr (SqT.of h1),g1,g2,by rw[e1,e2];exact hb _ h⟩
  ·cases r2 with
   |frl h1 q1=>
    obtain⟨f1,f2,h⟩:=h
    obtain⟨e1,g1⟩:=Z34 f1 r1
    obtain⟨e2,g2⟩:=Z33 f2 q1
    exact Z77 pins s σ H _ _ v u Q I rx ry ⟨_,_,rfl,.inl h1.sq,g1,g2,by rw[e1,e2];exact hb _ h⟩
  ·cases r2
   rcases h with⟨xs,h1,f1,f2,h⟩|⟨kvs,kk,h1,h2,h⟩
   ·obtain⟨vs,e,q1⟩:=rh.lst h1
    obtain⟨e1,g1⟩:=Z34 f1 r1
    obtain⟨e2,g2⟩:=Z33 f2 q1
    exact Z77 pins s σ H _ _ v u Q I rx ry ⟨_,_,rfl,.inl (SqL.of e),g1,g2,by rw[e1,e2];exact hb _ h⟩
   ·obtain⟨vs,e,q1,_⟩:=rh.dic h1
    have:=Zbi h2 r1
    subst this
    obtain rfl:u=Y0k _:=ry
    refine d_in hu1 I (DGet.k (k:=kk) e) rx λs3 I3=>⟨.bl _,H,I3,rfl,?_⟩
    rcases Z5S (k:=kk) q1 with⟨z1,z2⟩|⟨x',u',z1,z2,_⟩
    ·rw[z2];rw[z1]at h;exact hb _ h
    ·rw[z2];rw[z1]at h;exact hb _ h
  ·exact h.elim
 |NotIn=>
  have h:wIn mx my M λb=>Dn X.K H Q (.bl (!b)) M:=h
  unfold wIn at h
  split at h
  ·cases r2 with
   |tup h1 q1=>
    obtain⟨f1,f2,h⟩:=h
    obtain⟨e1,g1⟩:=Z34 f1 r1
    obtain⟨e2,g2⟩:=Z33 f2 q1
    exact Z3r pins s σ H _ _ v u Q I rx ry ⟨_,_,rfl,.inr (SqT.of h1),g1,g2,by rw[e1,e2];exact hb _ h⟩
  ·cases r2 with
   |frl h1 q1=>
    obtain⟨f1,f2,h⟩:=h
    obtain⟨e1,g1⟩:=Z34 f1 r1
    obtain⟨e2,g2⟩:=Z33 f2 q1
    exact Z3r pins s σ H _ _ v u Q I rx ry ⟨_,_,rfl,.inl h1.sq,g1,g2,by rw[e1,e2];exact hb _ h⟩
  ·cases r2
   rcases h with⟨xs,h1,f1,f2,h⟩|⟨kvs,kk,h1,h2,h⟩
   ·obtain⟨vs,e,q1⟩:=rh.lst h1
    obtain⟨e1,g1⟩:=Z34 f1 r1
    obtain⟨e2,g2⟩:=Z33 f2 q1
    exact Z3r pins s σ H _ _ v u Q I rx ry ⟨_,_,rfl,.inl (SqL.of e),g1,g2,by rw[e1,e2];exact hb _ h⟩
   ·obtain⟨vs,e,q1,_⟩:=rh.dic h1
    have:=Zbi h2 r1
    subst this
    obtain rfl:u=Y0k _:=ry
    refine ZhO hu1 I (DGet.k (k:=kk) e) rx λs3 I3=>⟨.bl _,H,I3,rfl,?_⟩
    rcases Z5S (k:=kk) q1 with⟨z1,z2⟩|⟨x',u',z1,z2,_⟩
    ·rw[z2];rw[z1]at h;exact hb _ h
    ·rw[z2];rw[z1]at h;exact hb _ h
  ·exact h.elim
end
end L2
namespace L2
open PySem PySem.Spec PyProof.Rows
noncomputable def wIx(x y:MV)(M:MH)(Q:QM):Prop:=match x with
 |.tup xs=>∃i v,y=.int i/\atI xs i=some v/\Q v M
 |.frl xs=>∃i v,y=.int i/\atI xs i=some v/\Q v M
 |.str z=>∃i c,y=.int i/\z.length≤sizeLine/\atI z.cps.toList i=some c/\Q (.str ⟨#[c]⟩) M
 |.ref a=>(∃xs i v,M a=some (.lst xs)/\y=.int i/\atI xs i=some v/\Q v M)\/(∃kvs kk v,M a=some (.dic kvs)/\keyM y=some kk/\valM kvs kk=some v/\Q v M)\/∃o kvs kk v,M a=some (.fdic o kvs)/\keyM y=some kk/\valM kvs kk=some v/\Q v M
 |_=>False
theorem ZfX:Mon2 wIx:=by
 intro x y M Q Q' hq h
 unfold wIx at h ⊢
 split at h
 ·obtain⟨i,v,h1,h2,h3⟩:=h;exact⟨i,v,h1,h2,hq _ _ h3⟩
 ·obtain⟨i,v,h1,h2,h3⟩:=h;exact⟨i,v,h1,h2,hq _ _ h3⟩
 ·obtain⟨i,v,h1,h2,h3,h4⟩:=h;exact⟨i,v,h1,h2,h3,hq _ _ h4⟩
 ·rcases h with⟨xs,i,v,h1,h2,h3,h4⟩|⟨kvs,kk,v,h1,h2,h3,h4⟩|⟨o,kvs,kk,v,h1,h2,h3,h4⟩
  ·exact .inl ⟨xs,i,v,h1,h2,h3,hq _ _ h4⟩
  ·exact .inr (.inl ⟨kvs,kk,v,h1,h2,h3,hq _ _ h4⟩)
  ·exact .inr (.inr ⟨o,kvs,kk,v,h1,h2,h3,hq _ _ h4⟩)
 ·exact h.elim
theorem RMs.atI{K:Y00}{H:Hp}{m:List MV}{v:List V}{i:Int}{x:MV}(r:RMs K H m v)(e:atI m i=some x):∃u,atI v i=some u/\RM K H x u:=by
 unfold L2.atI at e ⊢
 rw[<- r.length]
 cases q:ixN m.length i with
 |none=>rw[q]at e;cases e
 |some j=>rw[q]at e;exact r.get e
section
variable{X:Cx}
theorem Zdn(hu:X.A.units+1<cLine):IxR X (λx y H Q=>∃a v,x=.ref a/\DGet H a y (some v)/\Q v H):=by
 intro value slice pins s σ H x y v u Q I rx ry h hs
 obtain⟨a,w',rfl,g,q⟩:=h
 obtain rfl:v=Y0k a:=rx
 exact tail_any (ZaV I g) PySem.F.slot_dict_getitem.lookup (ZdT hu I g ry λw2 s3 I3 rw'=>⟨w',H,I3,rw',q⟩) hs
theorem ZjL(hu:X.A.units+1<cLine):IxR X (li2 X.K wIx):=by
 intro value slice pins s σ H x y v u Q I rx ry h hs
 obtain⟨mx,my,M,r1,r2,rh,h⟩:=h
 unfold wIx at h
 split at h
 ·obtain⟨i,v',rfl,h2,h3⟩:=h
  cases r2
  cases r1 with
  |tup h1 q1=>
   obtain⟨u',e,r⟩:=q1.atI h2
   exact ZjJ value slice pins s σ H _ _ v u Q I rx ry ⟨_,_,_,u',rfl,rfl,SqT.of h1,e,h3 _ _ (Kp.refl _) r rh⟩ hs
 ·obtain⟨i,v',rfl,h2,h3⟩:=h
  cases r2
  cases r1 with
  |frl h1 q1=>
   obtain⟨u',e,r⟩:=q1.atI h2
   exact Zdm value slice pins s σ H _ _ v u Q I rx ry ⟨_,_,_,u',rfl,rfl,h1.sq,e,h3 _ _ (Kp.refl _) r rh⟩ hs
 ·obtain⟨i,c,rfl,h2,h3,h4⟩:=h
  cases r1;cases r2
  exact ZjK value slice pins s σ H _ _ v u Q I rx ry ⟨_,_,c,rfl,rfl,h2,h3,h4 _ _ (Kp.refl _) (.str _) rh⟩ hs
 ·cases r1
  rcases h with⟨xs,i,v',h1,rfl,h3,h4⟩|⟨kvs,kk,v',h1,h2,h3,h4⟩|⟨o,kvs,kk,v',h1,h2,h3,h4⟩
  ·cases r2
   obtain⟨vs,e,q1⟩:=rh.lst h1
   obtain⟨u',e2,r⟩:=q1.atI h3
   exact Zdm value slice pins s σ H _ _ v u Q I rx ry ⟨_,_,_,u',rfl,rfl,SqL.of e,e2,h4 _ _ (Kp.refl _) r rh⟩ hs
  ·obtain⟨vs,e,q1,_⟩:=rh.dic h1
   have ek:=Zbi h2 r2
   rcases Z5S (k:=kk) q1 with⟨z1,z2⟩|⟨x',u',z1,z2,r'⟩
   ·rw[z1]at h3;cases h3
   ·rw[z1]at h3;cases h3
    have g:=DGet.k (k:=kk) e
    rw[z2]at g
    subst ek
    exact Zdn hu value slice pins s σ H _ _ v u Q I rx ry ⟨_,u',rfl,g,h4 _ _ (Kp.refl _) r' rh⟩ hs
  ·obtain⟨vs,e,q1,_⟩:=rh.fdic h1
   have ek:=Zbi h2 r2
   rcases Z5S (k:=kk) q1 with⟨z1,z2⟩|⟨x',u',z1,z2,r'⟩
   ·rw[z1]at h3;cases h3
   ·rw[z1]at h3;cases h3
    have g:DGet H _ (kV kk) (valV vs kk):=.inl ⟨vs,kk,.inr ⟨o,e⟩,rfl,rfl⟩
    rw[z2]at g
    subst ek
    exact Zdn hu value slice pins s σ H _ _ v u Q I rx ry ⟨_,u',rfl,g,h4 _ _ (Kp.refl _) r' rh⟩ hs
 ·exact h.elim
end
noncomputable def cutM(xs:List MV)(lo hi:Option Int):List MV:=(xs.drop (HT.sIx xs.length 0 lo)).take (HT.sIx xs.length xs.length hi - HT.sIx xs.length 0 lo)
theorem RMs.cut{K:Y00}{H:Hp}{m:List MV}{v:List V}(r:RMs K H m v)(lo hi:Option Int):RMs K H (cutM m lo hi) (cutV v lo hi):=by
 unfold cutM cutV
 rw[<- r.length]
 exact(r.drop _).take _
noncomputable abbrev WS:=MV->Option Int->Option Int->MH->QM->Prop
noncomputable def wSl:WS:=λx lo hi M Q=>match x with
 |.tup xs=>Q (.tup (cutM xs lo hi)) M
 |.frl xs=>∀p,M p=none->Q (.ref p) (updM M p (.lst (cutM xs lo hi)))
 |.ref a=>∃xs,M a=some (.lst xs)/\∀p,M p=none->Q (.ref p) (updM M p (.lst (cutM xs lo hi)))
 |.str z=>z.length≤sizeLine/\Q (.str (cutS z lo hi)) M
 |_=>False
theorem ZfW{x:MV}{lo hi:Option Int}{M:MH}{Q Q':QM}(hq:∀m M',Q m M'->Q' m M')(h:wSl x lo hi M Q):wSl x lo hi M Q':=by
 unfold wSl at h ⊢
 split at h
 ·exact hq _ _ h
 ·exact λp hp=>hq _ _ (h p hp)
 ·obtain⟨xs,h1,h2⟩:=h;exact⟨xs,h1,λp hp=>hq _ _ (h2 p hp)⟩
 ·exact⟨h.1,hq _ _ h.2⟩
 ·exact h.elim
noncomputable def liS(K:Y00)(w:WS):V->Option Int->Option Int->Hp->VK->Prop:=λx lo hi H Q=>∃mx M,RM K H mx x/\RH K M H/\w mx lo hi M (Dn K H Q)
section
variable{X:Cx}
theorem Zip:SlR X (liS X.K wSl):=by
 intro pins s σ H x v vl vu lo hi sl Q I rx hs pl pu h
 obtain⟨mx,M,r1,rh,h⟩:=h
 unfold wSl at h
 split at h
 ·rename_i ms
  cases r1 with
  |tup h1 q1=>
   rename_i vs
   by_cases hw:HT.sIx ms.length 0 lo=0/\HT.sIx ms.length ms.length hi=ms.length
   ·have e:cutM ms lo hi=ms:=by unfold cutM;rw[hw.1,hw.2,Y3w,Nat.sub_zero,Y2Z]
    rw[e]at h
    refine Zgv pins s σ H _ v vl vu lo hi sl Q I rx hs pl pu ⟨_,_,rfl,SqT.of h1,by rw[<- q1.length];exact hw.1,by rw[<- q1.length];exact hw.2,?_⟩
    exact h _ _ (Kp.refl _) (.tup h1 q1) rh
   refine Zin pins s σ H _ v vl vu lo hi sl Q I rx hs pl pu ⟨_,_,rfl,SqT.of h1,by rw[<- q1.length];exact hw,λp hp=>?_⟩
   have k:=Kp.new hp (.tup (cutV vs lo hi))
   exact h _ _ k (.tup Z13 ((q1.cut lo hi).mono k)) (rh.kept hp _)
 ·cases r1 with
  |frl h1 q1=>
   rename_i vs
   refine ZcI pins s σ H _ v vl vu lo hi sl Q I rx hs pl pu ⟨_,_,rfl,h1.sq,λp hp=>?_⟩
   have k:=Kp.new hp (.lst (cutV vs lo hi))
   exact h p (rh.free hp) _ _ k (.ref p) (rh.put k ((q1.cut lo hi).mono k))
 ·cases r1
  obtain⟨xs,h1,h⟩:=h
  obtain⟨vs,e,q1⟩:=rh.lst h1
  refine ZcI pins s σ H _ v vl vu lo hi sl Q I rx hs pl pu ⟨_,_,rfl,SqL.of e,λp hp=>?_⟩
  have k:=Kp.new hp (.lst (cutV vs lo hi))
  exact h p (rh.free hp) _ _ k (.ref p) (rh.put k ((q1.cut lo hi).mono k))
 ·cases r1
  exact Zio pins s σ H _ v vl vu lo hi sl Q I rx hs pl pu ⟨_,rfl,h.1,h.2 _ _ (Kp.refl _) (.str _) rh⟩
 ·exact h.elim
end
noncomputable def tyM(M:MH):MV->Option Ty7
 |.non=>some .none|.bl _=>some .bool|.int _=>some .int|.str _=>some .str|.tup _=>some .tuple
 |.ref a=>match M a with|some (.lst _)=>some .list|some (.dic _)=>some .dict|_=>none
 |_=>none
noncomputable def isTy:Ty7->Ty7->Bool
 |.bool,.int=>true
 |a,b=>decide (a=b)
theorem Zdi(K:Y00)(T c:Ty7)(hc:c≠.none):Y17 K (.type T.name) (.type c.name)=some (isTy T c):=by
 cases T<;>cases c<;>first|exact absurd rfl hc|with_unfolding_all rfl
theorem ZfD{K:Y00}{M:MH}{H:Hp}{m:MV}{v:V}{T:Ty7}(rh:RH K M H)(r:RM K H m v)(e:tyM M m=some T):TyOf K H v (.type T.name):=by
 cases r with
 |non=>cases e;exact .non
 |bl b=>cases e;exact .bl b
 |int i=>cases e;exact .int i
 |str x=>cases e;exact .str x
 |tup h _=>cases e;exact .tup h
 |frl _ _=>cases e
 |ty _=>cases e
 |ref a=>
  unfold tyM at e
  dsimp only at e
  cases q:M a with
  |none=>rw[q]at e;cases e
  |some o=>
   rw[q]at e
   cases o with
   |lst xs=>cases e;obtain⟨vs,h,_⟩:=rh.lst q;exact .lst h
   |dic kvs=>cases e;obtain⟨vs,h,_⟩:=rh.dic q;exact .dK h
   |ins _ _=>cases e
   |fdic _ _=>cases e
inductive BI where|len|isinst|max|min|sum|abs|int|list|tuple|dict|sorted|dictL|all
  deriving DecidableEq
noncomputable def bLen(vs:List MV)(M:MH)(Q:QM):Prop:=match vs with
 |[.tup xs]=>Q (.int xs.length) M
 |[.frl xs]=>Q (.int xs.length) M
 |[.str z]=>z.length≤sizeLine/\Q (.int z.length) M
 |[.ref a]=>(∃xs,M a=some (.lst xs)/\Q (.int xs.length) M)\/∃kvs,M a=some (.dic kvs)/\Q (.int kvs.length) M
 |_=>False
noncomputable def bIsi(vs:List MV)(M:MH)(Q:QM):Prop:=match vs with
 |[x,.ty c]=>∃T,tyM M x=some T/\c≠.none/\Q (.bl (isTy T c)) M
 |[x,.tup [.ty c,.ty d]]=>∃T,tyM M x=some T/\c≠.none/\d≠.none/\Q (.bl (isTy T c||isTy T d)) M
 |_=>False
noncomputable def bMax(vs:List MV)(M:MH)(Q:QM):Prop:=match vs with
 |[.int i,.int j]=>Q (.int (if j>i then j else i)) M
 |[.ref a]=>∃ns:List Int,M a=some (.lst (ns.map MV.int))/\0<ns.length/\∀m,m∈ns->(∀x∈ns,x≤m)->Q (.int m) M
 |_=>False
noncomputable def bMin(vs:List MV)(M:MH)(Q:QM):Prop:=match vs with
 |[.int i,.int j]=>Q (.int (if j<i then j else i)) M
 |[.ref a]=>∃ns:List Int,M a=some (.lst (ns.map MV.int))/\0<ns.length/\∀m,m∈ns->(∀x∈ns,m≤x)->Q (.int m) M
 |_=>False
noncomputable def bAbs(vs:List MV)(M:MH)(Q:QM):Prop:=match vs with
 |[.int i]=>Q (.int (if i<0 then -i else i)) M
 |_=>False
noncomputable def bInt(vs:List MV)(M:MH)(Q:QM):Prop:=match vs with
 |[.int i]=>Q (.int i) M
 |[.bl k]=>Q (.int (if k then 1 else 0)) M
 |_=>False
noncomputable def bLst(vs:List MV)(M:MH)(Q:QM):Prop:=match vs with
 |[.tup xs]=>∀p,M p=none->Q (.ref p) (updM M p (.lst xs))
 |[.frl xs]=>∀p,M p=none->Q (.ref p) (updM M p (.lst xs))
 |[.ref a]=>∃xs,M a=some (.lst xs)/\∀p,M p=none->Q (.ref p) (updM M p (.lst xs))
 |_=>False
noncomputable def bTup(vs:List MV)(M:MH)(Q:QM):Prop:=match vs with
 |[.tup xs]=>Q (.tup xs) M
 |[.frl xs]=>Q (.tup xs) M
 |[.ref a]=>∃xs,M a=some (.lst xs)/\Q (.tup xs) M
 |_=>False
noncomputable def prM(p:Key×MV):MV:=.tup [match p.1 with|.inl i=>.int i|.inr x=>.str x,p.2]
noncomputable def Z75(ps:List (Key×MV)):List (Key×MV):=ps.foldl (λc z=>putM c z.1 z.2) []
noncomputable def bDic(vs:List MV)(M:MH)(Q:QM):Prop:=match vs with
 |[.ref a]=>∃kvs,M a=some (.dic kvs)/\∀p,M p=none->Q (.ref p) (updM M p (.dic kvs))
 |[.tup xs]=>∃ps:List (Key×MV),xs=ps.map prM/\∀p,M p=none->Q (.ref p) (updM M p (.dic (Z75 ps)))
 |_=>False
noncomputable def bDcl(vs:List MV)(M:MH)(Q:QM):Prop:=match vs with
 |[.ref a]=>∃ps:List (Key×MV),M a=some (.lst (ps.map prM))/\∀p,M p=none->Q (.ref p) (updM M p (.dic (Z75 ps)))
 |_=>False
theorem Z8R{K:Y00}{H:Hp}:∀{ps:List (Key×MV)} {vs:List V},RMs K H (ps.map prM) vs->∃ps':List (Key×V),Zeo H ps' vs/\RKs K H ps ps'
 |[],_,.nil=>⟨[],.nil,.nil⟩
 |(k,x)::r,_,.cons (.tup e t) u=>by
  obtain⟨ps',h1,h2⟩:=Z8R u
  cases t with
  |cons t1 t2=>
   cases t2 with
   |cons t3 t4=>
    cases t4
    rename_i v1 v2
    refine⟨(k,v2)::ps',.cons ⟨_,rfl,?_⟩ h1,.cons t3 h2⟩
    rw[e]
    cases k<;>cases t1<;>rfl
theorem Z74{K:Y00}{H:Hp}:∀{ps:List (Key×MV)} {ps':List (Key×V)} {c:List (Key×MV)} {c':List (Key×V)},RKs K H ps ps'->RKs K H c c'->(c.map (·.1)).Nodup->
  RKs K H (ps.foldl (λc z=>putM c z.1 z.2) c) (ps'.foldl (λc z=>putK c z.1 z.2) c')/\((ps.foldl (λc z=>putM c z.1 z.2) c).map (·.1)).Nodup
 |_,_,_,_,.nil,h,nd=>⟨h,nd⟩
 |_,_,_,_,.cons r t,h,nd=>by
  obtain⟨a,b⟩:=ZgK r nd h
  have z:=Z74 t a b
  exact z
noncomputable def bAll(vs:List MV)(M:MH)(Q:QM):Prop:=match vs with
 |[.ref a]=>∃bs:List Bool,M a=some (.lst (bs.map MV.bl))/\Q (.bl (bs.all id)) M
 |_=>False
theorem RMs.bls_of{K:Y00}{H:Hp}:∀{bs:List Bool} {vs:List V},RMs K H (bs.map MV.bl) vs->vs=bs.map V.bl
 |[],_,.nil=>rfl
 |n::r,_,.cons (.bl _) t=>by rw[t.bls_of];rfl
noncomputable def wBi(f:BI)(vs:List MV)(M:MH)(Q:QM):Prop:=match f with
 |.len=>bLen vs M Q
 |.isinst=>bIsi vs M Q
 |.max=>bMax vs M Q
 |.min=>bMin vs M Q
 |.sum=>False
 |.abs=>bAbs vs M Q
 |.int=>bInt vs M Q
 |.list=>bLst vs M Q
 |.tuple=>bTup vs M Q
 |.dict=>bDic vs M Q
 |.sorted=>False
 |.dictL=>bDcl vs M Q
 |.all=>bAll vs M Q
theorem Zhg:MonW bLen:=by
 intro vs M Q Q' hq h
 unfold bLen at h ⊢
 split at h
 ·exact hq _ _ h
 ·exact hq _ _ h
 ·exact⟨h.1,hq _ _ h.2⟩
 ·rcases h with⟨xs,h1,h2⟩|⟨xs,h1,h2⟩
  ·exact .inl ⟨xs,h1,hq _ _ h2⟩
  ·exact .inr ⟨xs,h1,hq _ _ h2⟩
 ·exact h.elim
theorem Zg0(f:BI):MonW (wBi f):=by
 intro vs M Q Q' hq h
 cases f
 ·exact Zhg hq h
 ·have h:bIsi vs M Q:=h
  show bIsi vs M Q'
  unfold bIsi at h ⊢
  split at h
  ·obtain⟨T,h1,h2,h3⟩:=h;exact⟨T,h1,h2,hq _ _ h3⟩
  ·obtain⟨T,h1,h2,h3,h4⟩:=h;exact⟨T,h1,h2,h3,hq _ _ h4⟩
  ·exact h.elim
 ·have h:bMax vs M Q:=h
  show bMax vs M Q'
  unfold bMax at h ⊢
  split at h
  ·exact hq _ _ h
  ·obtain⟨ns,h1,h2,h3⟩:=h;exact⟨ns,h1,h2,λm a b=>hq _ _ (h3 m a b)⟩
  ·exact h.elim
 ·have h:bMin vs M Q:=h
  show bMin vs M Q'
  unfold bMin at h ⊢
  split at h
  ·exact hq _ _ h
  ·obtain⟨ns,h1,h2,h3⟩:=h;exact⟨ns,h1,h2,λm a b=>hq _ _ (h3 m a b)⟩
  ·exact h.elim
 ·exact Y0G h
 ·have h:bAbs vs M Q:=h
  show bAbs vs M Q'
  unfold bAbs at h ⊢
  split at h
  ·exact hq _ _ h
  ·exact h.elim
 ·have h:bInt vs M Q:=h
  show bInt vs M Q'
  unfold bInt at h ⊢
  split at h
  ·exact hq _ _ h
  ·exact hq _ _ h
  ·exact h.elim
 ·have h:bLst vs M Q:=h
  show bLst vs M Q'
  unfold bLst at h ⊢
  split at h
  ·exact λp hp=>hq _ _ (h p hp)
  ·exact λp hp=>hq _ _ (h p hp)
  ·obtain⟨xs,h1,h2⟩:=h;exact⟨xs,h1,λp hp=>hq _ _ (h2 p hp)⟩
  ·exact h.elim
 ·have h:bTup vs M Q:=h
  show bTup vs M Q'
  unfold bTup at h ⊢
  split at h
  ·exact hq _ _ h
  ·exact hq _ _ h
  ·obtain⟨xs,h1,h2⟩:=h;exact⟨xs,h1,hq _ _ h2⟩
  ·exact h.elim
 ·have h:bDic vs M Q:=h
  show bDic vs M Q'
  unfold bDic at h ⊢
  split at h
  ·obtain⟨xs,h1,h2⟩:=h;exact⟨xs,h1,λp hp=>hq _ _ (h2 p hp)⟩
  ·obtain⟨xs,h1,h2⟩:=h;exact⟨xs,h1,λp hp=>hq _ _ (h2 p hp)⟩
  ·exact h.elim
 ·exact Y0G h
 ·have h:bDcl vs M Q:=h
  show bDcl vs M Q'
  unfold bDcl at h ⊢
  split at h
  ·obtain⟨ps,h1,h2⟩:=h;exact⟨ps,h1,λp hp=>hq _ _ (h2 p hp)⟩
  ·exact h.elim
 ·have h:bAll vs M Q:=h
  show bAll vs M Q'
  unfold bAll at h ⊢
  split at h
  ·obtain⟨bs,h1,h2⟩:=h;exact⟨bs,h1,hq _ _ h2⟩
  ·exact h.elim
noncomputable def BI.val:BI->Value
 |.len=>.builtin "len"|.isinst=>.builtin "isinstance"|.max=>.builtin "max"|.min=>.builtin "min"|.sum=>.builtin "sum"|.abs=>.builtin "abs"
 |.int=>.type "int"|.list=>.type "list"|.tuple=>.type "tuple"|.dict=>.type "dict"|.sorted=>.builtin "sorted"|.dictL=>.type "dict"|.all=>.builtin "all"
section
variable{X:Cx}
theorem RMs.one{K:Y00}{H:Hp}{m:MV}{vs:List V}(r:RMs K H [m] vs):∃v,vs=[v]/\RM K H m v:=by
 cases r with
 |cons a b=>cases b;exact⟨_,rfl,a⟩
theorem RMs.two{K:Y00}{H:Hp}{m n:MV}{vs:List V}(r:RMs K H [m,n] vs):∃v w,vs=[v,w]/\RM K H m v/\RM K H n w:=by
 cases r with
 |cons a b=>obtain⟨w,rfl,c⟩:=b.one;exact⟨_,_,rfl,a,c⟩
theorem Za7:CallR X (.type "dict") (fun xs H Q=>∃a kvs,xs=[.ref a]/\H a=some (.dK kvs)/\∀p,H p=none->Q (.ref p) (upd H p (.dK kvs))):=by
 intro pins s σ H xs us Q I r h
 obtain⟨a,kvs,rfl,ha,q⟩:=h
 obtain⟨u,rfl,ru⟩:=Z4M r
 cases ru
 exact Zfi I (.inl ha) λp s' hp I'=>⟨.ref p,_,I',rfl,q p hp⟩
theorem ZhT(hc:X.calm=true)(f:BI):CallR X f.val (liW X.K (wBi f)):=by
 intro pins s σ H xs us Q I r h
 obtain⟨ms,M,r1,rh,h⟩:=h
 cases f with
 |len=>
  have h:bLen ms M (Dn X.K H Q):=h
  unfold bLen at h
  split at h
  ·obtain⟨v,rfl,a⟩:=r1.one
   cases a with
   |tup h1 q1=>exact Z43 pins s σ H _ us Q I r ⟨_,_,rfl,.inr (SqT.of h1),by rw[<- q1.length];exact h _ _ (Kp.refl _) (.int _) rh⟩
  ·obtain⟨v,rfl,a⟩:=r1.one
   cases a with
   |frl h1 q1=>exact Z43 pins s σ H _ us Q I r ⟨_,_,rfl,.inl h1.sq,by rw[<- q1.length];exact h _ _ (Kp.refl _) (.int _) rh⟩
  ·obtain⟨v,rfl,a⟩:=r1.one
   cases a
   exact Za3 pins s σ H _ us Q I r ⟨_,rfl,h.1,h.2 _ _ (Kp.refl _) (.int _) rh⟩
  ·obtain⟨v,rfl,a⟩:=r1.one
   cases a
   rcases h with⟨xs,h1,h⟩|⟨kvs,h1,h⟩
   ·obtain⟨vs,e,q1⟩:=rh.lst h1
    exact Z43 pins s σ H _ us Q I r ⟨_,_,rfl,.inl (SqL.of e),by rw[<- q1.length];exact h _ _ (Kp.refl _) (.int _) rh⟩
   ·obtain⟨vs,e,q1,_⟩:=rh.dic h1
    exact Zeb pins s σ H _ us Q I r ⟨_,_,rfl,e,by rw[<- q1.length];exact h _ _ (Kp.refl _) (.int _) rh⟩
  ·exact h.elim
 |isinst=>
  have h:bIsi ms M (Dn X.K H Q):=h
  unfold bIsi at h
  split at h
  ·obtain⟨v,w,rfl,a,b⟩:=r1.two
   cases b
   obtain⟨T,h1,h2,h3⟩:=h
   exact Zb1 pins s σ H _ us Q I r ⟨_,_,_,_,rfl,ZfD rh a h1,Zdi _ _ _ h2,h3 _ _ (Kp.refl _) (.bl _) rh⟩
  ·obtain⟨v,w,rfl,a,b⟩:=r1.two
   obtain⟨T,h1,h2,h3,h4⟩:=h
   cases b with
   |tup ht qt=>
    cases qt with
    |cons q1 q2=>
     cases q2 with
     |cons q3 q4=>
      cases q4
      cases q1
      cases q3
      exact Za4 pins s σ H _ us Q I r ⟨_,_,_,_,_,_,_,rfl,ht,ZfD rh a h1,Zdi _ _ _ h2,Zdi _ _ _ h3,h4 _ _ (Kp.refl _) (.bl _) rh⟩
  ·exact h.elim
 |max=>
  have h:bMax ms M (Dn X.K H Q):=h
  unfold bMax at h
  split at h
  ·obtain⟨v,w,rfl,a,b⟩:=r1.two
   cases a;cases b
   exact Ze9 hc pins s σ H _ us Q I r ⟨_,_,rfl,h _ _ (Kp.refl _) (.int _) rh⟩
  ·obtain⟨v,rfl,a⟩:=r1.one
   cases a
   obtain⟨ns,h1,h2,h3⟩:=h
   obtain⟨vs,e,q1⟩:=rh.lst h1
   have:=q1.ints_of
   subst this
   exact Ze8 hc pins s σ H _ us Q I r ⟨_,ns,rfl,SqL.of e,h2,λm a b=>h3 m a b _ _ (Kp.refl _) (.int _) rh⟩
  ·exact h.elim
 |min=>
  have h:bMin ms M (Dn X.K H Q):=h
  unfold bMin at h
  split at h
  ·obtain⟨v,w,rfl,a,b⟩:=r1.two
   cases a;cases b
   exact Ze7 hc pins s σ H _ us Q I r ⟨_,_,rfl,h _ _ (Kp.refl _) (.int _) rh⟩
  ·obtain⟨v,rfl,a⟩:=r1.one
   cases a
   obtain⟨ns,h1,h2,h3⟩:=h
   obtain⟨vs,e,q1⟩:=rh.lst h1
   have:=q1.ints_of
   subst this
   exact Ze6 hc pins s σ H _ us Q I r ⟨_,ns,rfl,SqL.of e,h2,λm a b=>h3 m a b _ _ (Kp.refl _) (.int _) rh⟩
  ·exact h.elim
 |sum=>exact Y0G h
 |abs=>
  have h:bAbs ms M (Dn X.K H Q):=h
  unfold bAbs at h
  split at h
  ·obtain⟨v,rfl,a⟩:=r1.one
   cases a
   exact Zfo pins s σ H _ us Q I r ⟨_,rfl,h _ _ (Kp.refl _) (.int _) rh⟩
  ·exact h.elim
 |int=>
  have h:bInt ms M (Dn X.K H Q):=h
  unfold bInt at h
  split at h
  ·obtain⟨v,rfl,a⟩:=r1.one
   cases a
   exact Za6 pins s σ H _ us Q I r (.inl ⟨_,rfl,h _ _ (Kp.refl _) (.int _) rh⟩)
  ·obtain⟨v,rfl,a⟩:=r1.one
   cases a
   exact Za6 pins s σ H _ us Q I r (.inr ⟨_,rfl,h _ _ (Kp.refl _) (.int _) rh⟩)
  ·exact h.elim
 |list=>
  have h:bLst ms M (Dn X.K H Q):=h
  unfold bLst at h
  split at h
  ·obtain⟨v,rfl,a⟩:=r1.one
   cases a with
   |tup h1 q1=>
    refine Z42 pins s σ H _ us Q I r ⟨_,_,rfl,.inr (SqT.of h1),λp hp=>?_⟩
    have k:=λz=>Kp.new hp (.lst z)
    exact h p (rh.free hp) _ _ (k _) (.ref p) (rh.put (k _) (q1.mono (k _)))
  ·obtain⟨v,rfl,a⟩:=r1.one
   cases a with
   |frl h1 q1=>
    refine Z42 pins s σ H _ us Q I r ⟨_,_,rfl,.inl h1.sq,λp hp=>?_⟩
    have k:=λz=>Kp.new hp (.lst z)
    exact h p (rh.free hp) _ _ (k _) (.ref p) (rh.put (k _) (q1.mono (k _)))
  ·obtain⟨v,rfl,a⟩:=r1.one
   cases a
   obtain⟨xs,h1,h⟩:=h
   obtain⟨vs,e,q1⟩:=rh.lst h1
   refine Z42 pins s σ H _ us Q I r ⟨_,_,rfl,.inl (SqL.of e),λp hp=>?_⟩
   have k:=Kp.new hp (.lst vs)
   exact h p (rh.free hp) _ _ k (.ref p) (rh.put k (q1.mono k))
  ·exact h.elim
 |tuple=>
  have h:bTup ms M (Dn X.K H Q):=h
  unfold bTup at h
  split at h
  ·obtain⟨v,rfl,a⟩:=r1.one
   cases a with
   |tup h1 q1=>exact Z35 pins s σ H _ us Q I r ⟨_,_,rfl,.inr ⟨SqT.of h1,h _ _ (Kp.refl _) (.tup h1 q1) rh⟩⟩
  ·obtain⟨v,rfl,a⟩:=r1.one
   cases a with
   |frl h1 q1=>
    refine Z35 pins s σ H _ us Q I r ⟨_,_,rfl,.inl ⟨h1.sq,λp hp=>?_⟩⟩
    have k:=λz=>Kp.new hp (.tup z)
    exact h _ _ (k _) (.tup Z13 (q1.mono (k _))) (rh.kept hp _)
  ·obtain⟨v,rfl,a⟩:=r1.one
   cases a
   obtain⟨xs,h1,h⟩:=h
   obtain⟨vs,e,q1⟩:=rh.lst h1
   refine Z35 pins s σ H _ us Q I r ⟨_,_,rfl,.inl ⟨SqL.of e,λp hp=>?_⟩⟩
   have k:=Kp.new hp (.tup vs)
   exact h _ _ k (.tup Z13 (q1.mono k)) (rh.kept hp _)
  ·exact h.elim
 |dict=>
  have h:bDic ms M (Dn X.K H Q):=h
  unfold bDic at h
  split at h
  ·obtain⟨v,rfl,a⟩:=r1.one
   cases a
   obtain⟨kvs,h1,h⟩:=h
   obtain⟨vs,e,q1,nd⟩:=rh.dic h1
   refine Za7 pins s σ H _ us Q I r ⟨_,_,rfl,e,λp hp=>?_⟩
   have k:=Kp.new hp (.dK vs)
   exact h p (rh.free hp) _ _ k (.ref p) (rh.put k ⟨q1.mono k,nd⟩)
  ·obtain⟨v,rfl,a⟩:=r1.one
   obtain⟨ps,rfl,h2⟩:=h
   cases a with
   |tup e q1=>
    obtain⟨ps',pv,rk⟩:=Z8R q1
    refine Zb3 hc pins s σ H _ us Q I r ⟨_,ps',_,rfl,e,pv,λp hp=>?_⟩
    have k:=Kp.new hp (.dK (Z4f ps'))
    obtain⟨z1,z2⟩:=Z74 rk (.nil:RKs X.K H [] []) (by simp)
    exact h2 p (rh.free hp) _ _ k (.ref p) (rh.put k ⟨z1.mono k,z2⟩)
  ·exact h.elim
 |sorted=>exact Y0G h
 |dictL=>
  have h:bDcl ms M (Dn X.K H Q):=h
  unfold bDcl at h
  split at h
  ·obtain⟨v,rfl,a⟩:=r1.one
   cases a
   obtain⟨ps,h1,h2⟩:=h
   obtain⟨vs,e,q1⟩:=rh.lst h1
   obtain⟨ps',pv,rk⟩:=Z8R q1
   refine Zck hc pins s σ H _ us Q I r ⟨_,ps',vs,rfl,e,pv,λp hp=>?_⟩
   have k:=Kp.new hp (.dK (Z4f ps'))
   obtain⟨z1,z2⟩:=Z74 rk (.nil:RKs X.K H [] []) (by simp)
   exact h2 p (rh.free hp) _ _ k (.ref p) (rh.put k ⟨z1.mono k,z2⟩)
  ·exact h.elim
 |all=>
  have h:bAll ms M (Dn X.K H Q):=h
  unfold bAll at h
  split at h
  ·obtain⟨v,rfl,a⟩:=r1.one
   cases a
   obtain⟨bs,h1,h2⟩:=h
   obtain⟨vs,e,q1⟩:=rh.lst h1
   have:=q1.bls_of
   subst this
   exact Zec hc pins s σ H _ us Q I r ⟨_,bs,rfl,SqL.of e,h2 _ _ (Kp.refl _) (.bl _) rh⟩
  ·exact h.elim
end
theorem RMs.strs{K:Y00}{H:Hp}:∀ns:List Str,RMs K H (ns.map MV.str) (ns.map V.str)
 |[]=>.nil
 |n::r=>.cons (.str n) (RMs.strs r)
theorem RMs.strs_of{K:Y00}{H:Hp}:∀{ns:List Str} {vs:List V},RMs K H (ns.map MV.str) vs->vs=ns.map V.str
 |[],_,.nil=>rfl
 |n::r,_,.cons (.str _) t=>by rw[t.strs_of];rfl
theorem ZfG{K:Y00}{H:Hp}(f:Nat->Int):∀l:List Nat,RMs K H (l.map λi=>MV.int (f i)) (l.map λi=>V.int (f i))
 |[]=>.nil
 |_::r=>.cons (.int _) (ZfG f r)
theorem ZcO{K:Y00}{H:Hp}(n:Nat):RMs K H ((Y0E n).map λi=>MV.int (i:Nat)) ((Y0E n).map λi=>V.int (i:Nat)):=ZfG (λi=>(i:Int)) _
inductive B2 where|ssrt|lset|tset|lrng
  deriving DecidableEq
noncomputable def B2.out:B2->String
 |.ssrt=>"sorted"
 |.lset=>"len"
 |.tset=>"len"
 |.lrng=>"list"
noncomputable def B2.inn:B2->String
 |.ssrt=>"set"
 |.lset=>"set"
 |.tset=>"set"
 |.lrng=>"range"
noncomputable def B2.outV:B2->Value
 |.ssrt=>.builtin "sorted"
 |.lset=>.builtin "len"
 |.tset=>.builtin "len"
 |.lrng=>.type "list"
noncomputable def wB2(f:B2)(v:MV)(M:MH)(Q:QM):Prop:=match f with
 |.ssrt=>∃(a:Addr) (xs N:List Str),v=.ref a/\M a=some (.lst (xs.map MV.str))/\xs.length+1<scanBound/\(∀z∈xs,z∈N)/\N.length<64/\
   ∀p (ys:List Str),M p=none->ys.Nodup->(∀y,y∈ys↔y∈xs)->sortedS ys=true->Q (.ref p) (updM M p (.lst (ys.map MV.str)))
 |.lset=>False
 |.tset=>False
 |.lrng=>∃n:Nat,v=.int n/\n≤1000000/\∀p,M p=none->Q (.ref p) (updM M p (.lst ((Y0E n).map λi=>MV.int (i:Nat))))
theorem Zg1(f:B2):Mon1 (wB2 f):=by
 intro v M Q Q' hq h
 cases f with
 |ssrt=>
  obtain⟨a,xs,N,h1,h2,h3,h4,h5,h6⟩:=h
  exact⟨a,xs,N,h1,h2,h3,h4,h5,λp ys a1 a2 a3 a4=>hq _ _ (h6 p ys a1 a2 a3 a4)⟩
 |lset=>exact Y0G h
 |tset=>exact Y0G h
 |lrng=>
  obtain⟨n,h1,h2,h3⟩:=h
  exact⟨n,h1,h2,λp hp=>hq _ _ (h3 p hp)⟩
section
variable{X:Cx}
theorem ZhU(hc:X.calm=true)(f:B2):Zeq X f.outV (.type f.inn) (li1 X.K (wB2 f)):=by
 intro pins s σ H x u Q I r h
 obtain⟨m,M,r1,rh,h⟩:=h
 cases f with
 |ssrt=>
  obtain⟨a,xs,N,rfl,h2,h3,h4,h5,h6⟩:=h
  cases r1
  obtain⟨vs,e,q1⟩:=rh.lst h2
  have:=q1.strs_of
  subst this
  refine Ze4 hc pins s σ H _ u Q I r ⟨_,xs,N,rfl,SqL.of e,h3,h4,h5,λp ys hp a1 a2 a3=>?_⟩
  have k:=Kp.new hp (.lst (ys.map V.str))
  exact h6 p ys (rh.free hp) a1 a2 a3 _ _ k (.ref p) (rh.put k (RMs.strs ys))
 |lset=>exact Y0G h
 |tset=>exact Y0G h
 |lrng=>
  obtain⟨n,rfl,h2,h3⟩:=h
  cases r1
  refine Zea hc pins s σ H _ u Q I r ⟨n,rfl,h2,λp hp=>?_⟩
  have k:=Kp.new hp (.lst ((Y0E n).map λi=>V.int (i:Nat)))
  exact h3 p (rh.free hp) _ _ k (.ref p) (rh.put k (ZcO n))
end
inductive MT where|append|extend|reverse|clear|pop|popAt|dclear|dget|dgetD|join|remove
  deriving DecidableEq
noncomputable def wMt(m:MT)(a:Addr)(vs:List MV)(M:MH)(Q:QM):Prop:=∃xs,M a=some (.lst xs)/\match m,vs with
 |.append,[y]=>xs.length<sizeLine/\Q .non (updM M a (.lst (xs++[y])))
 |.extend,[.ref b]=>∃ys,M b=some (.lst ys)/\xs.length+ys.length≤sizeLine/\Q .non (updM M a (.lst (xs++ys)))
 |.clear,[]=>Q .non (updM M a (.lst []))
 |_,_=>False
noncomputable def wMl(m:MT)(x:MV)(vs:List MV)(M:MH)(Q:QM):Prop:=match x with
 |.ref a=>wMt m a vs M Q
 |_=>False
noncomputable def wMd(m:MT)(x:MV)(vs:List MV)(M:MH)(Q:QM):Prop:=match m with
 |.join=>∃sep b ss,x=.str sep/\vs=[.ref b]/\M b=some (.lst (ss.map MV.str))/\ss.toArray.foldl (λn z=>n+z.length+sep.length) 0≤sizeLine/\(Y14 sep ss).length≤sizeLine/\Q (.str (Y14 sep ss)) M
 |_=>False
noncomputable def MT.isL:MT->Bool
 |.dclear=>false|.dget=>false|.dgetD=>false|.join=>false|_=>true
noncomputable def MT.ty:MT->String
 |.dclear=>"dict"|.dget=>"dict"|.dgetD=>"dict"|.join=>"str"|_=>"list"
noncomputable def mtOk(m:MT)(x:MV)(M:MH):Prop:=match m with
 |.dclear=>∃a kvs,x=.ref a/\M a=some (.dic kvs)
 |.dget=>∃a kvs,x=.ref a/\M a=some (.dic kvs)
 |.dgetD=>∃a kvs,x=.ref a/\M a=some (.dic kvs)
 |.join=>∃z,x=.str z
 |_=>∃a xs,x=.ref a/\M a=some (.lst xs)
noncomputable def wMts(m:MT)(x:MV)(vs:List MV)(M:MH)(Q:QM):Prop:=match m with
 |.dclear=>wMd .dclear x vs M Q
 |.dget=>wMd .dget x vs M Q
 |.dgetD=>wMd .dgetD x vs M Q
 |.join=>wMd .join x vs M Q
 |m=>wMl m x vs M Q
theorem Zfz{m:MT}{x:MV}{vs:List MV}{M:MH}{Q:QM}(h:m.isL=true):wMts m x vs M Q=wMl m x vs M Q:=by cases m<;>first|rfl|cases h
theorem ZfA{m:MT}{x:MV}{vs:List MV}{M:MH}{Q:QM}(h:m.isL=false):wMts m x vs M Q=wMd m x vs M Q:=by cases m<;>first|rfl|cases h
theorem Zjx{m:MT}{a:MV}{vs:List MV}{M:MH}{Q Q':QM}(hq:∀m M',Q m M'->Q' m M')(h:wMl m a vs M Q):wMl m a vs M Q':=by
 cases a<;>try exact h.elim
 obtain⟨xs,h1,h⟩:=h
 refine⟨xs,h1,?_⟩
 split at h
 ·exact⟨h.1,hq _ _ h.2⟩
 ·obtain⟨ys,a,b,c⟩:=h;exact⟨ys,a,b,hq _ _ c⟩
 ·exact hq _ _ h
 ·exact h.elim
theorem Zjy{m:MT}{x:MV}{vs:List MV}{M:MH}{Q Q':QM}(hq:∀m M',Q m M'->Q' m M')(h:wMd m x vs M Q):wMd m x vs M Q':=by
 cases m<;>try exact h.elim
 ·obtain⟨sep,b,ss,h1,h2,h3,h4,h5,h6⟩:=h;exact⟨sep,b,ss,h1,h2,h3,h4,h5,hq _ _ h6⟩
theorem Zdd{m:MT}{a:MV}{vs:List MV}{M:MH}{Q Q':QM}(hq:∀m M',Q m M'->Q' m M')(h:wMts m a vs M Q):wMts m a vs M Q':=by
 cases e:m.isL
 ·rw[ZfA e]at h ⊢;exact Zjy hq h
 ·rw[Zfz e]at h ⊢;exact Zjx hq h
noncomputable def MT.id:MT->String
 |.dclear=>"dict.clear"|.dget=>"dict.get"|.dgetD=>"dict.get"|.join=>"str.join"
 |.append=>"list.append"|.extend=>"list.extend"|.reverse=>"list.reverse"|.clear=>"list.clear"|.pop=>"list.pop"|.popAt=>"list.pop"|.remove=>"list.remove"
noncomputable def liM(K:Y00)(w:MV->List MV->MH->QM->Prop):V->List V->Hp->VK->Prop:=λx xs H Q=>∃mx ms M,RM K H mx x/\RMs K H ms xs/\RH K M H/\w mx ms M (Dn K H Q)
section
variable{X:Cx}
theorem Zhb(m:MT):MtR X m.id (liM X.K (wMl m)):=by
 intro pins s σ H x xs v us Q I rx rs h
 obtain⟨mx,ms,M,r1,r2,rh,h⟩:=h
 cases r1<;>try exact h.elim
 obtain⟨ys,h1,h⟩:=h
 obtain⟨vs,e,q1⟩:=rh.lst h1
 have ku:∀o,Kp H (upd H _ o):=λo=>Kp.upd e rfl o
 split at h
 ·obtain⟨w,rfl,r3⟩:=r2.one
  exact Z9C pins s σ H _ _ v us Q I rx rs ⟨_,vs,w,rfl,rfl,e,by rw[<- q1.length];exact h.1,h.2 _ _ (ku _) .non (rh.put (ku _) ((q1.append (.cons r3 .nil)).mono (ku _)))⟩
 ·obtain⟨w,rfl,r3⟩:=r2.one
  cases r3
  obtain⟨zs,a,b,c⟩:=h
  obtain⟨ws,e2,q2⟩:=rh.lst a
  exact Zdb pins s σ H _ _ v us Q I rx rs ⟨_,_,vs,ws,rfl,rfl,e,e2,by rw[<- q1.length,<- q2.length];exact b,c _ _ (ku _) .non (rh.put (ku _) ((q1.append q2).mono (ku _)))⟩
 ·cases r2
  exact ZeT pins s σ H _ _ v us Q I rx rs ⟨_,vs,rfl,rfl,e,h _ _ (ku _) .non (rh.put (ku _) RMs.nil)⟩
 ·exact h.elim
theorem ZcP{K:Y00}{H:Hp}:∀{ss:List Str} {vs:List V},RMs K H (ss.map MV.str) vs->vs=ss.map V.str
 |[],_,.nil=>rfl
 |x::ss,_,.cons r t=>by cases r;rw[ZcP t];rfl
theorem Zhc(hu:X.A.units+1<cLine)(m:MT):MtR X m.id (liM X.K (wMd m)):=by
 intro pins s σ H x xs v us Q I rx rs h
 obtain⟨mx,ms,M,r1,r2,rh,h⟩:=h
 cases m<;>try exact h.elim
 ·obtain⟨sep,b,ss,rfl,rfl,h3,h4,h5,h6⟩:=h
  cases r1
  obtain⟨w,rfl,r3⟩:=r2.one
  cases r3
  obtain⟨vs,e,q⟩:=rh.lst h3
  have:=ZcP q
  subst this
  exact ZeS pins s σ H _ _ v us Q I rx rs ⟨sep,b,ss,rfl,rfl,SqL.of e,h4,h5,h6 _ _ (Kp.refl _) (.str _) rh⟩
theorem ZfV(hu:X.A.units+1<cLine)(m:MT):MtR X m.id (liM X.K (wMts m)):=by
 intro pins s σ H x xs v us Q I rx rs h
 obtain⟨mx,ms,M,r1,r2,rh,h⟩:=h
 cases e:m.isL
 ·rw[ZfA e]at h;exact Zhc hu m pins s σ H x xs v us Q I rx rs ⟨mx,ms,M,r1,r2,rh,h⟩
 ·rw[Zfz e]at h;exact Zhb m pins s σ H x xs v us Q I rx rs ⟨mx,ms,M,r1,r2,rh,h⟩
end
noncomputable def wPut(o i v:MV)(M:MH)(Q:MH->Prop):Prop:=match o with
 |.ref a=>(∃xs k j,M a=some (.lst xs)/\i=.int k/\ixN xs.length k=some j/\Q (updM M a (.lst (xs.set j v))))\/∃kvs kk,M a=some (.dic kvs)/\keyM i=some kk/\kvs.length<sizeLine/\Q (updM M a (.dic (putM kvs kk v)))
 |_=>False
theorem Zhe{o i v:MV}{M:MH}{Q Q':MH->Prop}(hq:∀M',Q M'->Q' M')(h:wPut o i v M Q):wPut o i v M Q':=by
 cases o<;>try exact h.elim
 rcases h with⟨xs,k,j,h1,h2,h3,h4⟩|⟨kvs,kk,h1,h2,h3,h4⟩
 ·exact .inl ⟨xs,k,j,h1,h2,h3,hq _ h4⟩
 ·exact .inr ⟨kvs,kk,h1,h2,h3,hq _ h4⟩
section
variable{X:Cx}
end
end L2
namespace L2
set_option genInjectivity false
open PySem PySem.Spec PyProof.Rows
mutual
inductive ITg where|nm (i:Nat)|tup (ts:ITgs)
inductive ITgs where|nil|cons (t:ITg) (ts:ITgs)
end
mutual
inductive IE where
 |var (i:Nat)
 |int (i:Int)|str (x:Str)|bl (b:Bool)|non
 |glb (x:Str) (i:Int)
 |ty (c:Ty7)
 |bin (op:Operator) (a b:IE)
 |neg (a:IE)
 |not (a:IE)
 |cmp (op:CmpOp) (a b:IE)
 |chn (op op':CmpOp) (a b c:IE)
 |and (a b:IE)
 |or (a b:IE)
 |ife (c a b:IE)
 |tup (es:IEs)
 |lst (es:IEs)
 |dic
 |ix (a b:IE)
 |sl (a:IE) (lo hi:IO)
 |call (j:Nat) (e:IE) (es:IEs)
 |bi (f:BI) (e:IE) (es:IEs)
 |b2 (f:B2) (e:IE)
 |mt (m:MT) (o:IE) (es:IEs)
 |comp (own:List Str) (fr:List Nat) (src:ISr) (tg:ITg) (test:IO) (elt:IE)
 |fld (c:Str) (o:IE) (f:Str)
 |mcall (j:Nat) (c m:Str) (o:IE) (es:IEs)
 |make (j:Nat) (c:Str) (e:IE) (es:IEs)
 |disp (ps:IPs)
 |mxd (e:IE)
 |st3 (e:IE)
inductive IPs where|nil|cons (k v:IE) (r:IPs)
inductive IEs where|nil|cons (e:IE) (es:IEs)
inductive IO where|none|some (e:IE)
inductive ISr where|seq (e:IE)|rng (e:IE)|rng2 (a b:IE)|rng3 (a b c:IE)
end
noncomputable def wSt3(v:MV)(M:MH)(Q:QM):Prop:=∃(a:Addr) (xs:List MV),v=.ref a/\M a=some (.lst xs)/\∀p,M p=none->Q (.ref p) (updM M p (.lst (st3 xs)))
theorem Zhd{v:MV}{M:MH}{Q Q':QM}(hq:∀v M,Q v M->Q' v M)(h:wSt3 v M Q):wSt3 v M Q':=by
 obtain⟨a,xs,h1,h2,h3⟩:=h
 exact⟨a,xs,h1,h2,λp hp=>hq _ _ (h3 p hp)⟩
noncomputable def wMxd(v:MV)(M:MH)(Q:QM):Prop:=∃(a:Addr) (ns:List Int),v=.ref a/\M a=some (.lst (ns.map MV.int))/\∀m,(ns=[]/\m=0\/m∈ns/\∀i∈ns,i≤m)->Q (.int m) M
theorem Zhf{v:MV}{M:MH}{Q Q':QM}(hq:∀v M,Q v M->Q' v M)(h:wMxd v M Q):wMxd v M Q':=by
 obtain⟨a,ns,h1,h2,h3⟩:=h
 exact⟨a,ns,h1,h2,λm hm=>hq _ _ (h3 m hm)⟩
inductive Src where|tup (xs:List MV)|lst (a:Addr) (xs:List MV)|rng (lo:Int) (n:Nat)|rst (lo st:Int) (n:Nat)|dic (a:Addr) (o:Obj) (kvs:List (Key×MV))|str (x:Str)
noncomputable def kM:Key->MV
 |.inl i=>.int i
 |.inr x=>.str x
noncomputable def Src.items:Src->List MV
 |.tup xs=>xs
 |.lst _ xs=>xs
 |.rng lo n=>(Y0E n).map λi=>.int (lo+(i:Nat))
 |.rst lo st n=>(Y0E n).map λi=>.int (lo+(i:Nat)*st)
 |.dic _ _ kvs=>kvs.map λp=>kM p.1
 |.str x=>x.cps.toList.map λc=>.str ⟨#[c]⟩
noncomputable def Src.ok(M:MH):Src->Prop
 |.lst a xs=>M a=some (.lst xs)
 |.dic a o kvs=>M a=some (.fdic o kvs)
 |_=>True
noncomputable def Src.okF(M:MH):Src->Prop
 |.lst a xs=>M a=some (.lst xs)
 |.dic _ _ _=>False
 |_=>True
noncomputable def Src.okT(M:MH):Src->Prop
 |.dic a o kvs=>M a=some (.fdic o kvs)
 |_=>True
noncomputable def Src.thaw(M:MH):Src->MH
 |.dic a _ kvs=>updM M a (.dic kvs)
 |_=>M
noncomputable def Src.len:Src->Nat
 |.tup xs=>xs.length
 |.lst _ xs=>xs.length
 |.rng _ n=>n
 |.rst _ _ n=>n
 |.dic _ _ kvs=>kvs.length
 |.str x=>x.cps.size
theorem Src.items_len(S:Src):S.items.length=S.len:=by cases S<;>simp[Src.items,Src.len]
noncomputable abbrev SpM:=List MV->MH->QM->Prop
noncomputable abbrev TSm:=Sm->MH->(Src->MH->Prop)->Prop
mutual
noncomputable def wTg:ITg->MV->Sm->(Sm->Prop)->Prop
 |.nm i,v,σ,Q=>Q (σ.set i (some v))
 |.tup ts,v,σ,Q=>∃xs,v=.tup xs/\wTgs ts xs σ Q
noncomputable def wTgs:ITgs->List MV->Sm->(Sm->Prop)->Prop
 |.nil,xs,σ,Q=>xs=[]/\Q σ
 |.cons t ts,xs,σ,Q=>∃v r,xs=v::r/\wTg t v σ λσ'=>wTgs ts r σ' Q
end
noncomputable def sCm(own:List Str)(fr:List Nat)(σ:Sm):Sm:=own.map (λ_=>none)++fr.map (λi=>σ.getD i none)
noncomputable def onV(o:Option (Option MV))(k:MV->Prop):Prop:=match o with
 |some (some v)=>k v
 |_=>False
theorem Zjq{o:Option (Option MV)}{k:MV->Prop}:onV o k=∃v,o=some (some v)/\k v:=by
 refine propext ⟨λh=>?_,fun⟨v,e,h⟩=>by subst e;exact h⟩
 match o,h with
 |some (some v),h=>exact⟨v,rfl,h⟩
noncomputable def onB(x:MV)(k:Bool->Prop):Prop:=match x with
 |.bl c=>k c
 |_=>False
theorem Z78{x:MV}{k:Bool->Prop}:onB x k=∃c,x=.bl c/\k c:=by
 refine propext ⟨λh=>?_,fun⟨v,e,h⟩=>by subst e;exact h⟩
 cases x<;>first|exact⟨_,rfl,h⟩|exact h.elim
noncomputable def onF(o:Option (Str×SpM))(k:SpM->Prop):Prop:=match o with
 |some p=>k p.2
 |none=>False
theorem Zjr{o:Option (Str×SpM)}{k:SpM->Prop}:onF o k=∃f sp,o=some (f,sp)/\k sp:=by
 refine propext ⟨λh=>?_,fun⟨f,v,e,h⟩=>by subst e;exact h⟩
 match o,h with
 |some (f,sp),h=>exact⟨f,sp,rfl,h⟩
mutual
noncomputable def wE(Φ:List (Str×SpM)):IE->TEm
 |.var i,σ,M,Q=>onV σ[i]? λv=>Q v M
 |.int i,_,M,Q=>Q (.int i) M
 |.str x,_,M,Q=>Q (.str x) M
 |.bl b,_,M,Q=>Q (.bl b) M
 |.non,_,M,Q=>Q .non M
 |.glb _ i,_,M,Q=>Q (.int i) M
 |.ty c,_,M,Q=>Q (.ty c) M
 |.bin op a b,σ,M,Q=>wE Φ a σ M λx M1=>wE Φ b σ M1 λy M2=>wBin op x y M2 Q
 |.neg a,σ,M,Q=>wE Φ a σ M λx M1=>∃i,x=.int i/\Q (.int (-i)) M1
 |.not a,σ,M,Q=>wE Φ a σ M λx M1=>onB x λb=>Q (.bl (!b)) M1
 |.cmp op a b,σ,M,Q=>wE Φ a σ M λx M1=>wE Φ b σ M1 λy M2=>wCmp op x y M2 Q
 |.chn op op' a b c,σ,M,Q=>wE Φ a σ M λx M1=>wE Φ b σ M1 λy M2=>wCmp op x y M2 λz M3=>onB z λk=>(if k=true then wE Φ c σ M3 λw M4=>wCmp op' y w M4 Q else Q (.bl false) M3)
 |.and a b,σ,M,Q=>wE Φ a σ M λx M1=>onB x λc=>(if c=true then wE Φ b σ M1 Q else Q (.bl false) M1)
 |.or a b,σ,M,Q=>wE Φ a σ M λx M1=>onB x λc=>(if c=true then Q (.bl true) M1 else wE Φ b σ M1 Q)
 |.ife c a b,σ,M,Q=>wE Φ c σ M λx M1=>onB x λk=>(if k=true then wE Φ a σ M1 Q else wE Φ b σ M1 Q)
 |.tup es,σ,M,Q=>wEs Φ es σ M λvs M1=>vs.length≤sizeLine/\Q (.tup vs) M1
 |.lst es,σ,M,Q=>wEs Φ es σ M λvs M1=>vs.length≤sizeLine/\∀p,M1 p=none->Q (.ref p) (updM M1 p (.lst vs))
 |.dic,_,M,Q=>∀p,M p=none->Q (.ref p) (updM M p (.dic []))
 |.ix a b,σ,M,Q=>wE Φ a σ M λx M1=>wE Φ b σ M1 λy M2=>wIx x y M2 Q
 |.sl a lo hi,σ,M,Q=>wE Φ a σ M λx M1=>wO Φ lo σ M1 λl M2=>wO Φ hi σ M2 λh M3=>wSl x l h M3 Q
 |.call j e es,σ,M,Q=>wE Φ e σ M λv M1=>wEs Φ es σ M1 λvs M2=>onF Φ[j]? λsp=>sp (v::vs) M2 Q
 |.bi f e es,σ,M,Q=>wE Φ e σ M λv M1=>wEs Φ es σ M1 λvs M2=>wBi f (v::vs) M2 Q
 |.b2 f e,σ,M,Q=>wE Φ e σ M λv M1=>wB2 f v M1 Q
 |.mxd e,σ,M,Q=>wE Φ e σ M λv M1=>wMxd v M1 Q
 |.st3 e,σ,M,Q=>wE Φ e σ M λv M1=>wSt3 v M1 Q
 |.mt m o es,σ,M,Q=>wE Φ o σ M λx M1=>mtOk m x M1/\wEs Φ es σ M1 λvs M2=>wMts m x vs M2 Q
 |.comp own fr src tg test elt,σ,M,Q=>wSr Φ src σ M λS M1=>S.len<sizeLine/\∀D,M1 D=none->∃J:Nat->List MV->MH->Prop,J 0 [] (updM M1 D (.lst []))/\
   (∀i ys M2,J i ys M2->M2 D=some (.lst ys)/\ys.length≤i/\S.ok M2)/\
   (∀i x ys M2,S.items[i]?=some x->J i ys M2->wTg tg x (sCm own fr σ) λσ2=>wI Φ test σ2 M2 λb M4=>
    if b=true then wE Φ elt σ2 M4 λy M5=>M5 D=some (.lst ys)/\J (i+1) (ys++[y]) (updM M5 D (.lst (ys++[y])))else J (i+1) ys M4)/\
   ∀ys M2,J S.len ys M2->Q (.ref D) (S.thaw M2)
 |.fld c o f,σ,M,Q=>wE Φ o σ M λx M1=>∃a fs v,x=.ref a/\M1 a=some (.ins c fs)/\valM fs f=some v/\Q v M1
 |.mcall j c m o es,σ,M,Q=>wE Φ o σ M λx M1=>∃a fs,x=.ref a/\M1 a=some (.ins c fs)/\valM fs m=none/\wEs Φ es σ M1 λvs M2=>∃f sp,Φ[j]?=some (f,sp)/\sp (.ref a::vs) M2 Q
 |.make j c e es,σ,M,Q=>wE Φ e σ M λv M1=>wEs Φ es σ M1 λvs M2=>∃f sp,Φ[j]?=some (f,sp)/\∀p,M2 p=none->sp (.ref p::v::vs) (updM M2 p (.ins c [])) λu M3=>u=.non/\Q (.ref p) M3
 |.disp ps,σ,M,Q=>∀p,M p=none->wPs Φ ps σ (updM M p (.dic [])) λl M2=>M2 p=some (.dic [])/\l.length≤15/\Q (.ref p) (updM M2 p (.dic (Z75 l)))
noncomputable def wPs(Φ:List (Str×SpM)):IPs->Sm->MH->(List (Key×MV)->MH->Prop)->Prop
 |.nil,_,M,Q=>Q [] M
 |.cons k v r,σ,M,Q=>wE Φ k σ M λx M1=>∃kk,keyM x=some kk/\wE Φ v σ M1 λy M2=>wPs Φ r σ M2 λl M3=>Q ((kk,y)::l) M3
noncomputable def wEs(Φ:List (Str×SpM)):IEs->TAm
 |.nil,_,M,Q=>Q [] M
 |.cons e es,σ,M,Q=>wE Φ e σ M λv M1=>wEs Φ es σ M1 λvs M2=>Q (v::vs) M2
noncomputable def wO(Φ:List (Str×SpM)):IO->Sm->MH->(Option Int->MH->Prop)->Prop
 |.none,_,M,Q=>Q none M
 |.some e,σ,M,Q=>wE Φ e σ M λv M1=>∃i,v=.int i/\Q (some i) M1
noncomputable def wI(Φ:List (Str×SpM)):IO->Sm->MH->(Bool->MH->Prop)->Prop
 |.none,_,M,Q=>Q true M
 |.some e,σ,M,Q=>wE Φ e σ M λv M1=>∃b,v=.bl b/\Q b M1
noncomputable def wSr(Φ:List (Str×SpM)):ISr->TSm
 |.seq e,σ,M,Q=>wE Φ e σ M λv M1=>(∃xs,(v=.tup xs\/v=.frl xs)/\Q (.tup xs) M1)\/(∃a xs,v=.ref a/\M1 a=some (.lst xs)/\Q (.lst a xs) M1)\/(∃a kvs,v=.ref a/\M1 a=some (.dic kvs)/\∀o,Q (.dic a o kvs) (updM M1 a (.fdic o kvs)))\/∃z,v=.str z/\Q (.str z) M1
 |.rng e,σ,M,Q=>wE Φ e σ M λv M1=>∃j,v=.int j/\ -(2^62)≤j/\j<2^62/\Q (.rng 0 j.toNat) M1
 |.rng2 a b,σ,M,Q=>wE Φ a σ M λx M1=>wE Φ b σ M1 λy M2=>∃i j,x=.int i/\y=.int j/\(-(2^62)≤i/\i<2^62/\ -(2^62)≤j/\j<2^62)/\Q (.rng i (j - i).toNat) M2
 |.rng3 a b c,σ,M,Q=>wE Φ a σ M λx M1=>wE Φ b σ M1 λy M2=>wE Φ c σ M2 λz M3=>∃i j,x=.int i/\y=.int j/\z=.int 2/\(0≤i/\i<2^60/\0≤j/\j<2^60)/\Q (.rst i 2 (len2 i j)) M3
end
section
variable{Φ:List (Str×SpM)}{σ:Sm}{M:MH}{Q:QM}
theorem Zia{i:Nat}:wE Φ (.var i) σ M Q=∃v,σ[i]?=some (some v)/\Q v M:=Zjq
theorem Zgn{a:IE}:wE Φ (.not a) σ M Q=wE Φ a σ M λx M1=>∃b,x=.bl b/\Q (.bl (!b)) M1:=congrArg (wE Φ a σ M) (funext λ_=>funext λ_=>Z78)
theorem Zid{op op':CmpOp}{a b c:IE}:wE Φ (.chn op op' a b c) σ M Q=wE Φ a σ M λx M1=>wE Φ b σ M1 λy M2=>wCmp op x y M2 λz M3=>∃k,z=.bl k/\(if k=true then wE Φ c σ M3 λw M4=>wCmp op' y w M4 Q else Q (.bl false) M3):=congrArg (wE Φ a σ M) (funext λ_=>funext λ_=>congrArg (wE Φ b σ _) (funext λ_=>funext λ_=>congrArg (wCmp op _ _ _) (funext λ_=>funext λ_=>Z78)))
theorem Zgo{a b:IE}:wE Φ (.and a b) σ M Q=wE Φ a σ M λx M1=>∃c,x=.bl c/\(if c=true then wE Φ b σ M1 Q else Q (.bl false) M1):=congrArg (wE Φ a σ M) (funext λ_=>funext λ_=>Z78)
theorem x_or{a b:IE}:wE Φ (.or a b) σ M Q=wE Φ a σ M λx M1=>∃c,x=.bl c/\(if c=true then Q (.bl true) M1 else wE Φ b σ M1 Q):=congrArg (wE Φ a σ M) (funext λ_=>funext λ_=>Z78)
theorem Zkf{a b c:IE}:wE Φ (.ife c a b) σ M Q=wE Φ c σ M λx M1=>∃k,x=.bl k/\(if k=true then wE Φ a σ M1 Q else wE Φ b σ M1 Q):=congrArg (wE Φ c σ M) (funext λ_=>funext λ_=>Z78)
theorem Zfy{j:Nat}{e:IE}{es:IEs}:wE Φ (.call j e es) σ M Q=wE Φ e σ M λv M1=>wEs Φ es σ M1 λvs M2=>∃f sp,Φ[j]?=some (f,sp)/\sp (v::vs) M2 Q:=congrArg (wE Φ e σ M) (funext λ_=>funext λ_=>congrArg (wEs Φ es σ _) (funext λ_=>funext λ_=>Zjr))
end
mutual
theorem Z7f:∀(t:ITg) {v:MV} {σ:Sm} {Q Q':Sm->Prop},(∀σ,Q σ->Q' σ)->wTg t v σ Q->wTg t v σ Q'
 |.nm i,v,σ,Q,Q',hq,h=>by exact hq _ h
 |.tup ts,v,σ,Q,Q',hq,h=>by
  obtain⟨xs,e,h⟩:=h
  exact⟨xs,e,mon_tgs ts hq h⟩
theorem mon_tgs:∀(t:ITgs) {v:List MV} {σ:Sm} {Q Q':Sm->Prop},(∀σ,Q σ->Q' σ)->wTgs t v σ Q->wTgs t v σ Q'
 |.nil,v,σ,Q,Q',hq,h=>by exact⟨h.1,hq _ h.2⟩
 |.cons t ts,v,σ,Q,Q',hq,h=>by
  obtain⟨x,r,e,h⟩:=h
  exact⟨x,r,e,Z7f t (λσ' h'=>mon_tgs ts hq h') h⟩
end
theorem Z16{c:Prop} [Decidable c] {A B A' B':Prop}(ha:A->A')(hb:B->B')(h:if c then A else B):if c then A' else B':=by
 split at h
 ·rw[if_pos (by assumption)];exact ha h
 ·rw[if_neg (by assumption)];exact hb h
mutual
theorem Z04{Φ:List (Str×SpM)}(hΦ:∀(j:Nat) f sp,Φ[j]?=some (f,sp)->MonW sp):∀e:IE,MonE (wE Φ e)
 |.var i,σ,M,Q,Q',hq,h=>by rw[Zia]at h ⊢;obtain⟨v,e,h⟩:=h;exact⟨v,e,hq _ _ h⟩
 |.int _,σ,M,Q,Q',hq,h=>by exact hq _ _ h
 |.str _,σ,M,Q,Q',hq,h=>by exact hq _ _ h
 |.bl _,σ,M,Q,Q',hq,h=>by exact hq _ _ h
 |.non,σ,M,Q,Q',hq,h=>by exact hq _ _ h
 |.glb _ _,σ,M,Q,Q',hq,h=>by exact hq _ _ h
 |.ty _,σ,M,Q,Q',hq,h=>by exact hq _ _ h
 |.bin op a b,σ,M,Q,Q',hq,h=>by
  exact Z04 hΦ a (λx M1 h1=>Z04 hΦ b (λy M2 h2=>Zde op hq h2) h1) h
 |.neg a,σ,M,Q,Q',hq,h=>by
  exact Z04 hΦ a (λx M1 ⟨i,e,h1⟩=>⟨i,e,hq _ _ h1⟩) h
 |.not a,σ,M,Q,Q',hq,h=>by
  rw[Zgn]at h ⊢
  exact Z04 hΦ a (λx M1 ⟨i,e,h1⟩=>⟨i,e,hq _ _ h1⟩) h
 |.cmp op a b,σ,M,Q,Q',hq,h=>by
  exact Z04 hΦ a (λx M1 h1=>Z04 hΦ b (λy M2 h2=>Z5X op hq h2) h1) h
 |.chn op op' a b c,σ,M,Q,Q',hq,h=>by
  rw[Zid]at h ⊢
  exact Z04 hΦ a (λx M1 h1=>Z04 hΦ b (λy M2 h2=>Z5X op (λz M3 ⟨k,e,h3⟩=>⟨k,e,Z16 (Z04 hΦ c λw M4 h4=>Z5X op' hq h4) (hq _ _) h3⟩) h2) h1) h
 |.and a b,σ,M,Q,Q',hq,h=>by
  rw[Zgo]at h ⊢
  exact Z04 hΦ a (λx M1 ⟨c,e,h1⟩=>⟨c,e,Z16 (Z04 hΦ b hq) (hq _ _) h1⟩) h
 |.or a b,σ,M,Q,Q',hq,h=>by
  rw[x_or]at h ⊢
  exact Z04 hΦ a (λx M1 ⟨c,e,h1⟩=>⟨c,e,Z16 (hq _ _) (Z04 hΦ b hq) h1⟩) h
 |.ife c a b,σ,M,Q,Q',hq,h=>by
  rw[Zkf]at h ⊢
  exact Z04 hΦ c (λx M1 ⟨k,e,h1⟩=>⟨k,e,Z16 (Z04 hΦ a hq) (Z04 hΦ b hq) h1⟩) h
 |.tup es,σ,M,Q,Q',hq,h=>by
  exact mon_es hΦ es (λvs M1 ⟨e,h1⟩=>⟨e,hq _ _ h1⟩) h
 |.lst es,σ,M,Q,Q',hq,h=>by
  exact mon_es hΦ es (λvs M1 ⟨e,h1⟩=>⟨e,λp hp=>hq _ _ (h1 p hp)⟩) h
 |.dic,σ,M,Q,Q',hq,h=>by
  exact λp hp=>hq _ _ (h p hp)
 |.ix a b,σ,M,Q,Q',hq,h=>by
  exact Z04 hΦ a (λx M1 h1=>Z04 hΦ b (λy M2 h2=>ZfX hq h2) h1) h
 |.sl a lo hi,σ,M,Q,Q',hq,h=>by
  exact Z04 hΦ a (λx M1 h1=>mon_o hΦ lo (λy M2 h2=>mon_o hΦ hi (λz M3 h3=>ZfW hq h3) h2) h1) h
 |.call j e es,σ,M,Q,Q',hq,h=>by
  rw[Zfy]at h ⊢
  exact Z04 hΦ e (λx M1 h1=>mon_es hΦ es (λy M2 ⟨f,sp,e,h2⟩=>⟨f,sp,e,hΦ _ _ _ e hq h2⟩) h1) h
 |.bi f e es,σ,M,Q,Q',hq,h=>by
  exact Z04 hΦ e (λx M1 h1=>mon_es hΦ es (λy M2 h2=>Zg0 f hq h2) h1) h
 |.b2 f e,σ,M,Q,Q',hq,h=>by
  exact Z04 hΦ e (λx M1 h1=>Zg1 f hq h1) h
 |.mxd e,σ,M,Q,Q',hq,h=>by
  exact Z04 hΦ e (λx M1 h1=>Zhf hq h1) h
 |.st3 e,σ,M,Q,Q',hq,h=>by
  exact Z04 hΦ e (λx M1 h1=>Zhd hq h1) h
 |.mt m o es,σ,M,Q,Q',hq,h=>by
  exact Z04 hΦ o (λx M1 ⟨h0,h1⟩=>⟨h0,mon_es hΦ es (λy M2 h2=>Zdd hq h2) h1⟩) h
 |.comp own fr src tg test elt,σ,M,Q,Q',hq,h=>by
  exact mon_sr hΦ src (λS M1 ⟨hz,h1⟩=>⟨hz,λD hD=>by
   obtain⟨J,j0,j1,j2,j3⟩:=h1 D hD
   exact⟨J,j0,j1,j2,λys M2 hj=>hq _ _ (j3 ys M2 hj)⟩⟩) h
 |.fld c o f,σ,M,Q,Q',hq,h=>by
  exact Z04 hΦ o (λx M1 ⟨a,fs,v,e,e2,e3,h1⟩=>⟨a,fs,v,e,e2,e3,hq _ _ h1⟩) h
 |.mcall j c m o es,σ,M,Q,Q',hq,h=>by
  exact Z04 hΦ o (λx M1 ⟨a,fs,e,e2,e3,h1⟩=>⟨a,fs,e,e2,e3,mon_es hΦ es (λy M2 ⟨f,sp,e,h2⟩=>⟨f,sp,e,hΦ _ _ _ e hq h2⟩) h1⟩) h
 |.make j c e es,σ,M,Q,Q',hq,h=>by
  exact Z04 hΦ e (λx M1 h1=>mon_es hΦ es (λy M2 ⟨f,sp,e,h2⟩=>⟨f,sp,e,λp hp=>hΦ _ _ _ e (λm M' z=>⟨z.1,hq _ _ z.2⟩) (h2 p hp)⟩) h1) h
 |.disp ps,σ,M,Q,Q',hq,h=>by
  exact λp hp=>mon_ps hΦ ps (λl M2 ⟨e,e2,h1⟩=>⟨e,e2,hq _ _ h1⟩) (h p hp)
theorem mon_ps{Φ:List (Str×SpM)}(hΦ:∀(j:Nat) f sp,Φ[j]?=some (f,sp)->MonW sp):∀(e:IPs) {σ M} {Q Q':List (Key×MV)->MH->Prop},(∀m M',Q m M'->Q' m M')->wPs Φ e σ M Q->wPs Φ e σ M Q'
 |.nil,σ,M,Q,Q',hq,h=>by exact hq _ _ h
 |.cons k v r,σ,M,Q,Q',hq,h=>by
  exact Z04 hΦ k (λx M1 ⟨kk,e,h1⟩=>⟨kk,e,Z04 hΦ v (λy M2 h2=>mon_ps hΦ r (λl M3 h3=>hq _ _ h3) h2) h1⟩) h
theorem mon_es{Φ:List (Str×SpM)}(hΦ:∀(j:Nat) f sp,Φ[j]?=some (f,sp)->MonW sp):∀e:IEs,MonA (wEs Φ e)
 |.nil,σ,M,Q,Q',hq,h=>by exact hq _ _ h
 |.cons e es,σ,M,Q,Q',hq,h=>by
  exact Z04 hΦ e (λx M1 h1=>mon_es hΦ es (λy M2 h2=>hq _ _ h2) h1) h
theorem mon_o{Φ:List (Str×SpM)}(hΦ:∀(j:Nat) f sp,Φ[j]?=some (f,sp)->MonW sp):∀(e:IO) {σ M} {Q Q':Option Int->MH->Prop},(∀m M',Q m M'->Q' m M')->wO Φ e σ M Q->wO Φ e σ M Q'
 |.none,σ,M,Q,Q',hq,h=>by exact hq _ _ h
 |.some e,σ,M,Q,Q',hq,h=>by
  exact Z04 hΦ e (λx M1 ⟨i,e,h1⟩=>⟨i,e,hq _ _ h1⟩) h
theorem mon_i{Φ:List (Str×SpM)}(hΦ:∀(j:Nat) f sp,Φ[j]?=some (f,sp)->MonW sp):∀(e:IO) {σ M} {Q Q':Bool->MH->Prop},(∀m M',Q m M'->Q' m M')->wI Φ e σ M Q->wI Φ e σ M Q'
 |.none,σ,M,Q,Q',hq,h=>by exact hq _ _ h
 |.some e,σ,M,Q,Q',hq,h=>by
  exact Z04 hΦ e (λx M1 ⟨i,e,h1⟩=>⟨i,e,hq _ _ h1⟩) h
theorem mon_sr{Φ:List (Str×SpM)}(hΦ:∀(j:Nat) f sp,Φ[j]?=some (f,sp)->MonW sp):∀(e:ISr) {σ M} {Q Q':Src->MH->Prop},(∀m M',Q m M'->Q' m M')->wSr Φ e σ M Q->wSr Φ e σ M Q'
 |.seq e,σ,M,Q,Q',hq,h=>by
  exact Z04 hΦ e (λx M1 h1=>by
   rcases h1 with⟨xs,e,h1⟩|⟨a,xs,e,e2,h1⟩|⟨a,xs,e,e2,h1⟩|⟨z,e,h1⟩
   ·exact .inl ⟨xs,e,hq _ _ h1⟩
   ·exact .inr (.inl ⟨a,xs,e,e2,hq _ _ h1⟩)
   ·exact .inr (.inr (.inl ⟨a,xs,e,e2,λo=>hq _ _ (h1 o)⟩))
   ·exact .inr (.inr (.inr ⟨z,e,hq _ _ h1⟩))) h
 |.rng e,σ,M,Q,Q',hq,h=>by
  exact Z04 hΦ e (λx M1 ⟨j,e,a,b,h1⟩=>⟨j,e,a,b,hq _ _ h1⟩) h
 |.rng2 a b,σ,M,Q,Q',hq,h=>by
  exact Z04 hΦ a (λx M1 h1=>Z04 hΦ b (λy M2 ⟨i,j,e,e2,c,h2⟩=>⟨i,j,e,e2,c,hq _ _ h2⟩) h1) h
 |.rng3 a b c,σ,M,Q,Q',hq,h=>by
  exact Z04 hΦ a (λx M1 h1=>Z04 hΦ b (λy M2 h2=>Z04 hΦ c (λz M3 ⟨i,j,e,e2,e3,c,h3⟩=>⟨i,j,e,e2,e3,c,hq _ _ h3⟩) h2) h1) h
end
end L2
namespace L2
open PySem PySem.Spec PyProof.Rows
structure GI where
 bl:List Str
 gl:List (Str×Int)
 fns:List Str
 mts:List (Nat×Str×Str):=[]
 mks:List (Nat×Str):=[]
 cls:List (Str×Str):=[]
noncomputable def visB(sc:Scope)(x:Str):Bool:=match sc.names.lookup x with
 |some .local=>true|some .cell=>true|some .free=>true|_=>false
noncomputable def locB(sc:Scope)(x:Str):Bool:=match sc.names.lookup x with
 |some .local=>true|some .cell=>true|_=>false
noncomputable def glB(sc:Scope)(x:Str):Bool:=decide (sc.names.lookup x=some .globalImplicit)&& !(x==("__debug__":Str))&&decide (x≠"__name__")
noncomputable def ZbR(scope osc:Scope):Scope:={scope with names:=scope.names.map fun(n,k)=>if(k==.free&&osc.kind==.function&&osc.names.lookup n==some .cell)then(n,.cell)else(n,k)}
noncomputable def BI.name:BI->String
 |.len=>"len"|.isinst=>"isinstance"|.max=>"max"|.min=>"min"|.sum=>"sum"|.abs=>"abs"|.int=>"int"|.list=>"list"|.tuple=>"tuple"|.dict=>"dict"|.sorted=>"sorted"|.dictL=>"dict"|.all=>"all"
noncomputable def MT.name:MT->String
 |.dclear=>"clear"|.dget=>"get"|.dgetD=>"get"|.join=>"join"
 |.append=>"append"|.extend=>"extend"|.reverse=>"reverse"|.clear=>"clear"|.pop=>"pop"|.popAt=>"pop"|.remove=>"remove"
noncomputable def Zh8:Expr->Bool
 |.Slice ..=>false|_=>true
noncomputable def Z8f:Expr->Bool
 |.Set ..=>false|_=>true
noncomputable def tok:IE->Bool
 |.ife ..=>false
 |.not a=>tok a
 |.and a b=>tok a&&tok b
 |.or a b=>tok a&&tok b
 |_=>true
noncomputable def Z0K:Expr->Option Str|.Name x _=>some x|_=>none
noncomputable def Z68:Expr->Option Const|.Constant c _ _=>some c|_=>none
noncomputable def Zi4:Expr->Option (Expr×Operator×Expr)|.BinOp l o r _=>some (l,o,r)|_=>none
noncomputable def asUn:Expr->Option (UnaryOp×Expr)|.UnaryOp o x _=>some (o,x)|_=>none
noncomputable def Zft:Expr->Option (Expr×List CmpOp×List Expr)|.Compare l o r _=>some (l,o,r)|_=>none
noncomputable def Zek:Expr->Option (BoolOp×List Expr×Pos)|.BoolOp o vs p=>some (o,vs,p)|_=>none
noncomputable def asIf:Expr->Option (Expr×Expr×Expr)|.IfExp t x y _=>some (t,x,y)|_=>none
noncomputable def Zcm:Expr->Option (List Expr)|.Tuple xs _ _=>some xs|_=>none
noncomputable def Zfr:Expr->Option (List Expr)|.List xs _=>some xs|_=>none
noncomputable def Zm4:Expr->Option (List (Option Expr)×List Expr)|.Dict ks vs _=>some (ks,vs)|_=>none
noncomputable def Zfq:Expr->Option (Expr×Expr)|.Subscript x y _=>some (x,y)|_=>none
noncomputable def asSl:Expr->Option (Option Expr×Option Expr×Option Expr)|.Slice l u s _=>some (l,u,s)|_=>none
noncomputable def Z2R:Expr->Option (Expr×List Expr×List Keyword×Pos)|.Call f xs ks p=>some (f,xs,ks,p)|_=>none
noncomputable def Zi5:Expr->Option (Expr×Str×Pos)|.Attribute o n p=>some (o,n,p)|_=>none
noncomputable def asLC:Expr->Option (Expr×List Comprehension×Scope)|.ListComp e gs sc _=>some (e,gs,sc)|_=>none
noncomputable def the1{α:Type}:List α->Option α|[x]=>some x|_=>none
noncomputable def the3{α:Type}:List α->Option (α×α×α)|[x,y,z]=>some (x,y,z)|_=>none
noncomputable def the2{α:Type}:List α->Option (α×α)|[x,y]=>some (x,y)|_=>none
noncomputable def hd1{α:Type}:List α->Option (α×List α)|x::r=>some (x,r)|_=>none
noncomputable def hd2{α:Type}:List α->Option (α×α×List α)|x::y::r=>some (x,y,r)|_=>none
noncomputable def non0{α:Type}:List α->Bool|[]=>true|_=>false
theorem Z01{α:Type}{o:Option α}{p:α->Bool}(h:o.any p=true):∃x,o=some x/\p x=true:=by
 cases o with
 |none=>cases h
 |some x=>exact⟨x,rfl,h⟩
section
variable{e:Expr}
theorem Z09{x:Str}(h:Z0K e=some x):∃p,e=.Name x p:=by cases e<;>cases h;exact⟨_,rfl⟩
theorem Z49{x:Const}(h:Z68 e=some x):∃k p,e=.Constant x k p:=by cases e<;>cases h;exact⟨_,_,rfl⟩
theorem Zfu{x:Expr×Operator×Expr}(h:Zi4 e=some x):∃p,e=.BinOp x.1 x.2.1 x.2.2 p:=by cases e<;>cases h;exact⟨_,rfl⟩
theorem Zeg{x:UnaryOp×Expr}(h:asUn e=some x):∃p,e=.UnaryOp x.1 x.2 p:=by cases e<;>cases h;exact⟨_,rfl⟩
theorem ZbJ{x:Expr×List CmpOp×List Expr}(h:Zft e=some x):∃p,e=.Compare x.1 x.2.1 x.2.2 p:=by cases e<;>cases h;exact⟨_,rfl⟩
theorem Z9c{x:BoolOp×List Expr×Pos}(h:Zek e=some x):e=.BoolOp x.1 x.2.1 x.2.2:=by cases e<;>cases h;rfl
theorem Z6Y{x:List Expr}(h:Zcm e=some x):∃k p,e=.Tuple x k p:=by cases e<;>cases h;exact⟨_,_,rfl⟩
theorem ZbF{x:List Expr}(h:Zfr e=some x):∃p,e=.List x p:=by cases e<;>cases h;exact⟨_,rfl⟩
theorem ZbD{x:Expr×Expr}(h:Zfq e=some x):∃p,e=.Subscript x.1 x.2 p:=by cases e<;>cases h;exact⟨_,rfl⟩
theorem ZhZ{x:Option Expr×Option Expr×Option Expr}(h:asSl e=some x):∃p,e=.Slice x.1 x.2.1 x.2.2 p:=by cases e<;>cases h;exact⟨_,rfl⟩
theorem Z0S{x:Expr×List Expr×List Keyword×Pos}(h:Z2R e=some x):e=.Call x.1 x.2.1 x.2.2.1 x.2.2.2:=by cases e<;>cases h;rfl
theorem Zfv{x:Expr×Str×Pos}(h:Zi5 e=some x):e=.Attribute x.1 x.2.1 x.2.2:=by cases e<;>cases h;rfl
theorem Zi1{x:Expr×List Comprehension×Scope}(h:asLC e=some x):∃p,e=.ListComp x.1 x.2.1 x.2.2 p:=by cases e<;>cases h;exact⟨_,rfl⟩
theorem Z1b{α:Type}{l:List α}{x:α}(h:the1 l=some x):l=[x]:=by
 match l,h with
 |[_],h=>cases h;rfl
theorem Z5T{α:Type}{l:List α}{x:α×α}(h:the2 l=some x):l=[x.1,x.2]:=by
 match l,h with
 |[_,_],h=>cases h;rfl
theorem Zgr{α:Type}{l:List α}{x:α×α×α}(h:the3 l=some x):l=[x.1,x.2.1,x.2.2]:=by
 match l,h with
 |[_,_,_],h=>cases h;rfl
theorem Z3i{α:Type}{l:List α}{x:α×List α}(h:hd1 l=some x):l=x.1::x.2:=by
 match l,h with
 |_::_,h=>cases h;rfl
theorem ZdN{α:Type}{l:List α}{x:α×α×List α}(h:hd2 l=some x):l=x.1::x.2.1::x.2.2:=by
 match l,h with
 |_::_::_,h=>cases h;rfl
theorem Z0s{α:Type}{l:List α}(h:non0 l=true):l=[]:=by
 match l,h with
 |[],_=>rfl
end
noncomputable def ZfN(e:Expr):Bool:=(Z0K e).isSome||(Z68 e).isSome||(Zi4 e).isSome||(asUn e).isSome||(Zft e).isSome||(Zek e).isSome||(asIf e).isSome||(Zcm e).isSome||(Zfr e).isSome||(Zm4 e).isSome||(Zfq e).isSome||(Z2R e).isSome||(asLC e).isSome||(Zi5 e).isSome
mutual
noncomputable def Z67(sc:Scope)(N:List Str)(lim:Nat)(all:Bool):ITg->Expr->Bool
 |.nm i,e=>(Z0K e).any λx=>decide (N[i]?=some x)&&decide (i<lim)&&(if all then locB sc x else decide (sc.names.lookup x=some .local))
 |.tup ts,e=>(Zcm e).any λes=>chkTgs sc N lim all ts es
noncomputable def chkTgs(sc:Scope)(N:List Str)(lim:Nat)(all:Bool):ITgs->List Expr->Bool
 |.nil,l=>non0 l
 |.cons t ts,l=>(hd1 l).any λq=>Z67 sc N lim all t q.1&&chkTgs sc N lim all ts q.2
end
mutual
noncomputable def chkE(G:GI):IE->Scope->List Str->Expr->Bool
 |.var i,sc,N,e=>(Z0K e).any fun x=>decide (N[i]?=some x)&&visB sc x&& !(x==("__debug__":Str))&& !(x==("__classdict__":Str))
 |.int i,_,_,e=>(Z68 e).any λc=>decide (c=.int i)
 |.str x,_,_,e=>(Z68 e).any λc=>decide (c=.str x)
 |.bl b,_,_,e=>(Z68 e).any λc=>decide (c=.bool b)
 |.non,_,_,e=>(Z68 e).any λc=>decide (c=.none)
 |.glb x i,sc,_,e=>(Z0K e).any λy=>decide (x=y)&&decide (G.gl.lookup x=some i)&&glB sc x
 |.ty c,sc,_,e=>(Z0K e).any λy=>decide (y=(c.name:Str))&&decide (c≠.none)&&G.bl.contains y&&glB sc y
 |.bin op a b,sc,N,e=>(Zi4 e).any λq=>decide (op=q.2.1)&&chkE G a sc N q.1&&chkE G b sc N q.2.2
 |.neg a,_,_,_=>false
 |.not a,sc,N,e=>(asUn e).any λq=>decide (q.1=.Not)&&chkE G a sc N q.2
 |.cmp op a b,sc,N,e=>(Zft e).any λq=>(the1 q.2.1).any λo=>(the1 q.2.2).any λr=>decide (op=o)&&chkE G a sc N q.1&&chkE G b sc N r&& !behindInMarks op r
 |.chn op op' a b c,sc,N,e=>(Zft e).any λq=>(the2 q.2.1).any λo=>(the2 q.2.2).any λr=>decide (op=o.1)&&decide (op'=o.2)&&chkE G a sc N q.1&&chkE G b sc N r.1&&chkE G c sc N r.2&& !lastMarks [op,op'] [r.1,r.2]
 |.and a b,sc,N,e=>(Zek e).any λq=>(hd2 q.2.1).any λv=>decide (q.1=.And)&&chkE G a sc N v.1&&chkE G b sc N (if non0 v.2.2 then v.2.1 else .BoolOp .And (v.2.1::v.2.2) q.2.2)
 |.or a b,sc,N,e=>(Zek e).any λq=>(hd2 q.2.1).any λv=>decide (q.1=.Or)&&chkE G a sc N v.1&&chkE G b sc N (if non0 v.2.2 then v.2.1 else .BoolOp .Or (v.2.1::v.2.2) q.2.2)
 |.ife c a b,_,_,_=>false
 |.tup es,sc,N,e=>(Zcm e).any λxs=>chkEs G es sc N xs
 |.lst es,sc,N,e=>(Zfr e).any λxs=>chkEs G es sc N xs
 |.dic,_,_,_=>false
 |.ix a b,sc,N,e=>(Zfq e).any λq=>chkE G a sc N q.1&&chkE G b sc N q.2&&Zh8 q.2
 |.sl a lo hi,sc,N,e=>(Zfq e).any λq=>(asSl q.2).any λs=>chkE G a sc N q.1&&chkO G lo sc N s.1&&chkO G hi sc N s.2.1&& !s.2.2.isSome
 |.call j f es,sc,N,e=>(Z2R e).any λq=>(Z0K q.1).any λg=>(hd1 q.2.1).any λx=>non0 q.2.2.1&&decide (G.fns[j]?=some g)&&glB sc g&&chkE G f sc N x.1&&chkEs G es sc N x.2
 |.bi f a es,sc,N,e=>(Z2R e).any λq=>(Z0K q.1).any λg=>(hd1 q.2.1).any λx=>non0 q.2.2.1&&decide (g=(f.name:Str))&&G.bl.contains g&&glB sc g&&chkE G a sc N x.1&&chkEs G es sc N x.2
 |.b2 f a,sc,N,e=>(Z2R e).any λq=>(Z0K q.1).any λg=>(the1 q.2.1).any λy=>(Z2R y).any λr=>(Z0K r.1).any λk=>(the1 r.2.1).any λx=>non0 q.2.2.1&&non0 r.2.2.1&&decide (g=(f.out:Str))&&decide (k=(f.inn:Str))&&G.bl.contains g&&G.bl.contains k&&glB sc g&&glB sc k&&chkE G a sc N x
 |.st3 a,_,_,_=>false
 |.mxd a,_,_,_=>false
 |.mt m o es,sc,N,e=>(Z2R e).any λq=>(Zi5 q.1).any λa=>non0 q.2.2.1&&decide (a.2.1=(m.name:Str))&&(a.2.2.endLine==q.2.2.2.line)&&chkE G o sc N a.1&&chkEs G es sc N q.2.1&&decide (q.2.1.length<20)
 |.comp own fr src tg test elt,sc,N,e=>(asLC e).any λq=>(the1 q.2.1).any λg=>Z8u sc q.2.2 N own fr&&Z8f g.iter&&decide (nC own fr N).Nodup&&chkSr G src sc N g.iter&&Z67 (ZbR q.2.2 sc) (nC own fr N) own.length false tg g.target&&
   chkI G test (ZbR q.2.2 sc) (nC own fr N) g.ifs&&chkE G elt (ZbR q.2.2 sc) (nC own fr N) q.1&&decide (g.is_async=0)
 |.fld c o f,_,_,_=>false
 |.mcall j c m o es,_,_,_=>false
 |.make j c a es,_,_,_=>false
 |.disp ps,_,_,_=>false
noncomputable def Ze0(G:GI):IPs->Scope->List Str->List (Option Expr)->List Expr->Bool
 |.nil,_,_,l,r=>non0 l&&non0 r
 |.cons k v ps,sc,N,l,r=>(hd1 l).any λq=>(hd1 r).any λs=>q.1.any λx=>chkE G k sc N x&&chkE G v sc N s.1&&Ze0 G ps sc N q.2 s.2
noncomputable def chkEs(G:GI):IEs->Scope->List Str->List Expr->Bool
 |.nil,_,_,l=>non0 l
 |.cons e es,sc,N,l=>(hd1 l).any λq=>chkE G e sc N q.1&&chkEs G es sc N q.2
noncomputable def chkO(G:GI):IO->Scope->List Str->Option Expr->Bool
 |.none,_,_,o=>!o.isSome
 |.some e,sc,N,o=>o.any λx=>chkE G e sc N x
noncomputable def chkI(G:GI):IO->Scope->List Str->List Expr->Bool
 |.none,_,_,l=>non0 l
 |.some e,sc,N,l=>(the1 l).any λx=>tok e&&chkE G e sc N x
noncomputable def chkSr(G:GI):ISr->Scope->List Str->Expr->Bool
 |.seq a,sc,N,e=>chkE G a sc N e
 |.rng a,sc,N,e=>(Z2R e).any fun q=>(Z0K q.1).any fun f=>(the1 q.2.1).any fun x=>non0 q.2.2.1&&decide (f=("range":Str))&&G.bl.contains f&&glB sc f&&chkE G a sc N x
 |.rng2 a b,sc,N,e=>(Z2R e).any fun q=>(Z0K q.1).any fun f=>(the2 q.2.1).any fun x=>non0 q.2.2.1&&decide (f=("range":Str))&&G.bl.contains f&&glB sc f&&chkE G a sc N x.1&&chkE G b sc N x.2
 |.rng3 a b c,sc,N,e=>(Z2R e).any fun q=>(Z0K q.1).any fun f=>(the3 q.2.1).any fun x=>non0 q.2.2.1&&decide (f=("range":Str))&&G.bl.contains f&&glB sc f&&chkE G a sc N x.1&&chkE G b sc N x.2.1&&chkE G c sc N x.2.2
end
noncomputable def liSp(K:Y00)(sp:SpM):Sp:=λvs H Q _=>∃ms M,RMs K H ms vs/\RH K M H/\sp ms M (Dn K H Q)
structure Cok (X:Cx) (G:GI) (Φ:List (Str×SpM)):Prop where
 room:X.A.units+70<cLine
 calm:X.calm=true
 nox:X.xe=λ_ _=>False
 blk:X.env.blockKind=.function
 nd:X.N.Nodup
 bls:∀x,G.bl.contains x=true->X.mg x=none
 gls:∀x i,G.gl.lookup x=some i->∃tk,X.mg x=some (.int i tk)
 fnn:∀(j:Nat) f,G.fns[j]?=some f->∃sp,Φ[j]?=some (f,sp)
 mon:∀(j:Nat) f sp,Φ[j]?=some (f,sp)->MonW sp
 fns:∀(j:Nat) f sp,G.fns[j]?=some f->Φ[j]?=some (f,sp)->∃k fa fd ps,Room k X.A/\FnOk X.prog X.w X.K X.mg X.base CX0 k fa fd ps (liSp X.K sp)/\X.mg f=some (.ref fa)/\Y0V X.K (.ref fa)=true/\Binds X.K fd ps []
 mts:∀(j:Nat) c m,G.mts.contains (j,c,m)=true->∃f sp,Φ[j]?=some (f,sp)/\∃k C fa fd ps,Room k X.A/\FnOk X.prog X.w X.K X.mg X.base CX0 k fa fd ps (liSp X.K sp)/\Y0h X.K mainGlobals c=some (some (.ref C))/\Cls X.K C/\Meth X.K C m fa/\Binds X.K fd ps []
 mks:∀(j:Nat) c,G.mks.contains (j,c)=true->∃f sp,Φ[j]?=some (f,sp)/\∃k C fa fd ps,Room (k+1) X.A/\FnOk X.prog X.w X.K X.mg X.base CX0 k fa fd ps (liSp X.K sp)/\Y0h X.K mainGlobals c=some (some (.ref C))/\X.mg c=some (.ref C)/\Mk X.K C fa/\Binds X.K fd ps []
 cls:∀c f,G.cls.contains (c,f)=true->∃C,Y0h X.K mainGlobals c=some (some (.ref C))/\Cls X.K C/\Zep X.K C f
section
variable{X:Cx}{G:GI}{Φ:List (Str×SpM)}
theorem ZfB{sc:Scope}{x:Str}(h:visB sc x=true):Vis sc x:=by
 unfold visB at h
 unfold Vis
 cases e:sc.names.lookup x with
 |none=>rw[e]at h;cases h
 |some k=>rw[e]at h;cases k<;>first|exact .inl rfl|exact .inr (.inl rfl)|exact .inr (.inr rfl)|cases h
theorem Z4h{sc:Scope}{x:Str}(h:locB sc x=true):Loc sc x:=by
 unfold locB at h
 unfold Loc
 cases e:sc.names.lookup x with
 |none=>rw[e]at h;cases h
 |some k=>rw[e]at h;cases k<;>first|exact .inl rfl|exact .inr rfl|cases h
theorem Z2N{x:Str}(h:glB X.env.scope x=true):Gl X x/\(x==("__debug__":Str))=false/\x≠"__name__":=by
 unfold glB at h
 simp only[Y04,decide_eq_true_eq,Y1r]at h
 exact⟨h.1.1,h.1.2,h.2⟩
theorem ZhW(f:BI):bootBuiltins (f.name:Str)=some f.val:=by cases f<;>(show bootBuiltins _=some _;decide+kernel)
theorem ZhV{c:Ty7}(h:c≠.none):bootBuiltins (c.name:Str)=some (.type c.name):=by cases c<;>first|exact absurd rfl h|decide+kernel
theorem boot_range:bootBuiltins ("range":Str)=some (.type "range"):=by decide+kernel
theorem Zci:∀{ie:IE} {sc:Scope} {N:List Str} {e:Expr},chkE G ie sc N e=true->ZfN e=true:=by
 intro ie sc N e h
 cases ie
 all_goals
  first
   |exact absurd h Y05
   |(replace h:=Z01 h
     obtain⟨x,hx,_⟩:=h
     simp only[ZfN,hx,Option.isSome_some,Y1G,Y3c])
theorem Z0a:∀{ie:IE} {sc:Scope} {N:List Str} {e:Expr} {es:List Expr} {env:Env},chkE G ie sc N e=true->starEach (e::es) env=(false,eval e env)::starEach es env:=by
 intro ie sc N e es env h
 cases e<;>first|rfl|cases Zci h
theorem Z2k:∀{ies:IEs} {sc:Scope} {N:List Str} {es:List Expr} {env:Env} {pos:Pos},chkEs G ies sc N es=true->(starEach es env).all (λx=>!x.1)=true
 |.nil,sc,N,es,_,_,h=>by
  cases Z0s h
  rfl
 |.cons e es,sc,N,xs,env,pos,h=>by
  replace h:=Z01 h
  obtain⟨q,h1,h2⟩:=h
  cases Z3i h1
  rw[Y04]at h2
  rw[Z0a h2.1,Y13]
  exact Z2k (pos:=pos) h2.2
theorem ZeP:∀{ie:IE} {sc:Scope} {N:List Str} {x:Str} {px p:Pos} {ks:List Keyword},chkE G ie sc N (.Call (.Name x px) [] ks p)=true->False:=by
 intro ie sc N x px p ks h
 cases ie
 all_goals exact absurd h Y05
theorem Zad{ie:IE}{sc:Scope}{N:List Str}{o:Expr}{nm:Str}{env:Env}(h:chkE G ie sc N o=true):attributeBase o nm env (eval o env)=eval o env:=by
 cases o<;>try rfl
 rename_i fn args kw pos
 cases fn<;>try rfl
 cases args with
 |cons a r=>rfl
 |nil=>exact(ZeP h).elim
theorem Z36{pos:Pos}{l:List (Bool×Sem Value)}(h:l.all (λx=>!x.1)=true):(backTo pos l).all (λx=>!x.1)=true/\(backTo pos l).any (·.1)=false:=by
 induction l with
 |nil=>exact⟨rfl,rfl⟩
 |cons a r ih=>
  rw[Y13,Y04]at h
  obtain⟨h1,h2⟩:=ih h.2
  have e:a.1=false:=by simpa using h.1
  unfold backTo at h1 h2 ⊢
  rw[Y0b,Y13,Y1o,h1,h2]
  obtain⟨b,t⟩:=a
  cases e
  exact⟨rfl,rfl⟩
end
end L2
namespace L2
open PySem PySem.Spec PyProof.Rows
noncomputable def tCW2(own:List Str)(fr:List Nat)(g:TG)(tt:TT)(te:TE)(σ:St)(H1:Hp)(Q:VK)(J:It)(D:Addr):Prop:=∃W:Nat->Nat->List V->Hp->Prop,
 (∃m,W 0 m [] (upd H1 D (.lst [])))/\∀i m ys H2,W i m ys H2->
  ((J.stop i H2/\Q (.ref D) H2)\/(J.go i H2/\∃N:List V->Hp->Prop,(∀ys' H',N ys' H'->∃m',m'<m/\W (i+1) m' ys' H')/\∀x H3,J.yld i H2 x H3->g x (sC own fr σ) H3 λσ2 H4=>Keep (sC own fr σ) σ2/\tt σ2 H4 λb H5=>
   if b=true then te σ2 H5 λy H6=>∃zs,H6 D=some (.lst zs)/\zs.length<sizeLine/\N (zs++[y]) (upd H6 D (.lst (zs++[y])))else N ys H5))
noncomputable def ZcA(own:List Str)(fr:List Nat)(wi:TI)(g:TG)(tt:TT)(te:TE):TE:=λσ H Q=>wi σ H λJ H1=>∀D,H1 D=none->tCW2 own fr g tt te σ H1 Q J D
section
variable{X:Cx}{pins:List (Addr×Obj)}{σ:St}{H1:Hp}{s2:Shared}{tg elt iter:Expr}{ifs:List Expr}{scope:Scope}{pos:Pos}{own:List Str}{fr:List Nat}{g:TG}{tt:TT}{te:TE}
theorem Z8t{J:It}{fp:List Addr}{it:Addr}{tn:Nat->Heap->Prop}{RR:Value->Addr->Result->Shared->Prop}{Q:VK}{E:Value->Shared->Prop}(hc:X.calm=true)(ok:CompOk X.env.scope scope X.N fr)
  (hg:∀C fp s₃ H₃,PG (cxC X scope own fr C fp s₃ H₃) tg g) (ht:∀C fp s₃ H₃,PTs (cxC X scope own fr C fp s₃ H₃) ifs tt) (he:∀C fp s₃ H₃,PE (cxC X scope own fr C fp s₃ H₃) elt te)
  (I2:Inv X pins σ H1 s2) (T:Turn X.prog X.w X.K tg J fp it tn) (st:tn 0 s2.heap) (hf:∀b∈fp,FpOk X pins H1 b)
  (h:∀D,H1 D=none->tCW2 own fr g tt te σ H1 Q J D)
  (hRR:∀D C H' s',Inv X pins σ H' s'->(∃m,s'.heap.Ns C m)->H' C=none->C≠X.env.locals->X.s₀.heap.objs.size≤C->(∀x c,X.env.cells.lookup x=some c->c≠C)->(∀p∈X.pn++pins,p.1≠C)->Q (.ref D) H'->RR (.ref D) C (.ok .next) s'):
  wpAny (model X.prog X.w) X.A (newList []) (λacc s₃=>wpAny (model X.prog X.w) X.A (newFunctionEnv scope X.env.globals (clOf X.env.cells scope.names []) [] X.env.qual none .none (some X.env)) (λcenv s₄=>
   codeAny (model X.prog X.w) X.A (.compStart (.ListComp elt [⟨tg,iter,ifs,0⟩] scope pos) 0 (.ref it) acc {cenv with scope:=relabel scope X.env}) (RR acc cenv.locals) s₄) E s₃) E s2:=by
 have hD:H1 s2.heap.objs.size=none:=I2.hok.fresh (Y07 _)
 obtain⟨W,⟨m0,w0⟩,step⟩:=h _ hD
 refine wpAny_newObj_type (wpAny_newFunctionEnv ok.nocell (by intro y hy;simp at hy) (λh4 ns4 sb4=>?_) ok.kind)
 dsimp only at ns4 sb4 ⊢
 have I3:Inv X pins σ (upd H1 s2.heap.objs.size (.lst [])) {s2 with heap:=s2.heap.push {cls:=.type "list",dict:=none,data:=.seq ([]:List Value).toArray},toks:=s2.toks}:=
  I2.laid (λb u e=>Y02 _ e) (Y07 _) ⟨Y1t _,[],0,.nil,Y0a _ rfl⟩
 have fpo:∀b∈fp,∃o,s2.heap.get? b=some o:=λb hb=>let⟨o,e,_⟩:=T.obj 0 _ st b hb;⟨o,e⟩
 have fpD:∀b∈fp,b≠s2.heap.objs.size:=λb hb=>let⟨o,e⟩:=fpo b hb;Y0f (Y09 e)
 have hf3:∀b∈fp,FpOk X pins (upd H1 s2.heap.objs.size (.lst [])) b:=λb hb=>⟨by rw[Z0g (fpD b hb)];exact(hf b hb).1,(hf b hb).2⟩
 generalize hs3:({s2 with heap:=s2.heap.push {cls:=.type "list",dict:=none,data:=.seq ([]:List Value).toArray},toks:=s2.toks}:Shared)=s3 at*
 have e3:s2.heap.push {cls:=.type "list",dict:=none,data:=.seq ([]:List Value).toArray}=s3.heap:=by rw[<- hs3]
 rw[e3]at ns4 sb4 ⊢
 have kp:∀b o,s3.heap.get? b=some o->h4.get? b=some o:=λb o e=>(sb4.2 b (Y0f (Y09 e))).trans (Y02 _ e)
 have fpo3:∀b∈fp,∃o,s3.heap.get? b=some o:=λb hb=>let⟨o,e⟩:=fpo b hb;⟨o,by rw[<- e3];exact Y02 _ e⟩
 have I4:=Zcd (own:=own) (scope:=scope) (fr:=fr) (tk:=s2.toks+0) ok I3 rfl hf3 fpo3 ns4 kp
 have st4:tn 0 h4:=T.keep _ _ _ st λb hb o e=>kp b o (by rw[<- e3];exact Y02 _ e)
 have fpC:∀b∈fp,b≠s3.heap.objs.size:=λb hb=>let⟨o,e⟩:=fpo3 b hb;Y0f (Y09 e)
 have stat:∀{H':Hp},(∀b∈fp,H' b=none)->∀b∈fp,FpOk (cxC X scope own fr s3.heap.objs.size fp s3 (upd H1 s2.heap.objs.size (.lst []))) pins H' b:=λhn b hb=>by
  refine⟨hn b hb,fpC b hb,λz=>?_,.inl hb,λx c e=>?_,(hf b hb).2.2.2.2.2⟩
  ·rcases Y0d.mp (I3.stkSub b z)with z|z
   ·exact(hf b hb).2.1 z
   ·exact(hf b hb).2.2.1 z
  ·exact(hf b hb).2.2.2.2.1 x c ((Z40 _ _ _ _ _ e).elim (λz=>by simp at z) id)
 have loop:codeAny (model X.prog X.w) X.A (.compLoop (.ListComp elt [⟨tg,iter,ifs,0⟩] scope pos) 0 (.ref it) (.ref s2.heap.objs.size) (compEnvC scope (clOf X.env.cells scope.names []) s3.heap.objs.size X.env))
   (RR (.ref s2.heap.objs.size) s3.heap.objs.size) {s3 with heap:=h4,toks:=s2.toks+0}:=by
  refine Z9U (λn s'=>∃i ys H',Inv (cxC X scope own fr s3.heap.objs.size fp s3 (upd H1 s2.heap.objs.size (.lst []))) pins (sC own fr σ) H' s'/\tn i s'.heap/\(∀b∈fp,H' b=none)/\W i n ys H') ?_ m0
   ⟨0,[],_,I4,st4,λb hb=>(hf3 b hb).1,w0⟩
  rintro n s5 ⟨i,ys,H5,I5,st5,fr5,w5⟩
  have way:=step i n ys H5 w5
  rcases way with⟨stop,q⟩|⟨go,N,hN,turn⟩
  ·refine thn (T.done (cxC X scope own fr s3.heap.objs.size fp s3 (upd H1 s2.heap.objs.size (.lst []))) rfl rfl rfl hc i pins s5 _ H5 _ I5 (stat fr5) st5 stop) λr s6 ⟨hr,I6⟩=>?_
   subst hr
   have J6:Inv X pins σ H5 s6:=I3.call' I6.os I6.base I6.hok I6.bare λb hb=>⟨(hf b hb).2.2.2.1,(hf b hb).2.1,(hf b hb).2.2.2.2.1,(hf b hb).2.2.2.2.2⟩
   obtain⟨m6,ns6,_⟩:=I6.loc
   refine hRR _ _ H5 s6 J6 ⟨m6,ns6⟩ I6.free (Y23 I3.lt) I3.sz (λx c e=>?_) (λp hp=>?_) q
   ·obtain⟨v,z⟩:=I3.cell x c e
    exact Y0f z.lt
   ·exact Y0f (Y09 (I3.pin p hp).1)
  ·refine thn (T.item (cxC X scope own fr s3.heap.objs.size fp s3 (upd H1 s2.heap.objs.size (.lst []))) rfl rfl rfl hc i pins s5 _ H5 _ I5 (stat fr5) st5 go) λr s6 ⟨u,hr,h6⟩=>?_
   subst hr
   refine thn h6 λ_ s7 ⟨x,H7,I7,r7,y7,st7,fr7⟩=>?_
   have I7':=I7.pinned (stat fr7) (T.obj _ _ st7)
   refine thn (hg _ _ _ _ _ s7 _ H7 x u _ I7' r7 (turn x H7 y7)) λ_ s8 ⟨σ8,H8,I8,kp8,q8⟩=>?_
   have again:∀{H9:Hp} {s9:Shared},Inv (cxC X scope own fr s3.heap.objs.size fp s3 (upd H1 s2.heap.objs.size (.lst []))) (pins++Z8c fp s7.heap) σ8 H9 s9->∀{ys'},(∃m',m'<n/\W (i+1) m' ys' H9)->
     ∃m,m<n/\∃i ys H',Inv (cxC X scope own fr s3.heap.objs.size fp s3 (upd H1 s2.heap.objs.size (.lst []))) pins (sC own fr σ) H' s9/\tn i s9.heap/\(∀b∈fp,H' b=none)/\W i m ys H':=fun{H9 s9} I9 {ys'} ⟨m',hm,w9⟩=>by
    refine⟨m',hm,i+1,ys',H9,(I9.unpinned).weak kp8.1 kp8.2,T.keep _ _ _ st7 λb hb o e=>(I9.pin (b,o) (Y0L _ (Y0L _ (Z48 hb e)))).1,λb hb=>?_,w9⟩
    obtain⟨o,e,d⟩:=T.obj _ _ st7 b hb
    exact(I9.pin (b,o) (Y0L _ (Y0L _ (Z48 hb e)))).2.1
   have fin:∀{ok:Bool} {s9:Shared} {H9:Hp},Inv (cxC X scope own fr s3.heap.objs.size fp s3 (upd H1 s2.heap.objs.size (.lst []))) (pins++Z8c fp s7.heap) σ8 H9 s9->
     (if ok=true then te σ8 H9 λy H6=>∃zs,H6 s2.heap.objs.size=some (.lst zs)/\zs.length<sizeLine/\N (zs++[y]) (upd H6 s2.heap.objs.size (.lst (zs++[y])))else N ys H9)->
     (if ok=true then wpAny (model X.prog X.w) X.A (eval elt (compEnvC scope (clOf X.env.cells scope.names []) s3.heap.objs.size X.env)) (λx s₄=>
      wpAny (model X.prog X.w) X.A (call (.builtin "list.append") [.ref s2.heap.objs.size,x]) (fun _ s₅=>∃m,m<n/\∃i ys H',Inv (cxC X scope own fr s3.heap.objs.size fp s3 (upd H1 s2.heap.objs.size (.lst []))) pins (sC own fr σ) H' s₅/\tn i s₅.heap/\(∀b∈fp,H' b=none)/\W i m ys H') (fun _ _=>False) s₄) (fun _ _=>False) s9
      else∃m,m<n/\∃i ys H',Inv (cxC X scope own fr s3.heap.objs.size fp s3 (upd H1 s2.heap.objs.size (.lst []))) pins (sC own fr σ) H' s9/\tn i s9.heap/\(∀b∈fp,H' b=none)/\W i m ys H'):=fun{ok s9 H9} I9 q9=>by
    cases ok with
    |false=>
     rw[if_neg Y05]at q9 ⊢
     exact again I9 (hN _ _ q9)
    |true=>
     rw[if_pos rfl]at q9 ⊢
     refine thn (he _ _ _ _ _ s9 σ8 H9 _ I9 q9) λv s10 ⟨y,H10,I10,r10,zs,hl10,hz5,w10⟩=>?_
     refine thn (Z9C (X:=cxC X scope own fr s3.heap.objs.size fp s3 (upd H1 s2.heap.objs.size (.lst []))) _ s10 σ8 H10 (.ref s2.heap.objs.size) [y] (.ref s2.heap.objs.size) [v] (λ_ H'=>H'=upd H10 s2.heap.objs.size (.lst (zs++[y]))) I10 rfl (.cons r10 .nil) ⟨_,zs,y,rfl,rfl,hl10,hz5,rfl⟩) λ_ s11 ⟨_,H11,I11,_,e11⟩=>?_
     subst e11
     exact again I11 (hN _ _ w10)
   rcases ht s3.heap.objs.size fp s3 (upd H1 s2.heap.objs.size (.lst []))with⟨e,et⟩|⟨c,e,hcT⟩
   ·subst e et
    exact wpAny_tests_nil (fin (ok:=true) I8 q8)
   ·subst e
    exact wpAny_tests_one (thn (hcT _ s8 σ8 H8 _ I8 q8) λb s9 ⟨H9,I9,q9⟩=>fin I9 q9)
 subst hs3
 exact codeAny_compStart_list loop (T.self _ 0 _ _ _ st4 loop)
theorem ZeH(own:List Str)(fr:List Nat){wi:TI}(hx:∀e s,¬X.xe e s)(hc:X.calm=true)(ok:Z8u X.env.scope scope X.N own fr=true)(hi:PI X tg iter wi)
  (hg:∀C fp s₃ H₃,PG (cxC X scope own fr C fp s₃ H₃) tg g) (ht:∀C fp s₃ H₃,PTs (cxC X scope own fr C fp s₃ H₃) ifs tt) (he:∀C fp s₃ H₃,PE (cxC X scope own fr C fp s₃ H₃) elt te)
  (hs:∀x,foldedSetIterable iter X.env x=pure x:=by intro _;rfl):
  PE X (.ListComp elt [⟨tg,iter,ifs,0⟩] scope pos) (ZcA own fr wi g tt te):=by
 have ok':=Z2Q ok
 intro pins s σ H Q I h
 rw[eval_ListComp]
 refine wpAny_comprehension_free (use:=none) (cl:=clOf X.env.cells scope.names []) rfl hs (Z8v λy hy hk=>I.ok.has y.1 (ok'.has y hy hk)) ok'.kind ok'.names (thn (hi pins s σ H _ I h) λv s1 h1=>thn h1 λitv s2 h2=>?_)
 obtain⟨it,fp,tn,J,H2,e,I2,T,st2,f2,R⟩:=h2
 subst e
 refine Z8t (RR:=λacc C=>compPost (model X.prog X.w) X.A X.xe none (EP X pins σ Q) acc C) (Q:=Q) hc ok' hg ht he I2 T st2 f2 R ?_
 rintro D C H' s' I' ⟨m,ns⟩ c1 c2 c3 c4 c5 q
 refine⟨m,ns,λh' sb=>⟨.ref D,H',?_,rfl,q⟩⟩
 exact I'.turned (t':=s'.toks) (λb o hb e=>(sb.2 b hb).trans e) c1 c2 (.inr c3) c4 c5
theorem Zax(own:List Str)(fr:List Nat){i:Nat}{y:Str}{py spos:Pos}{wi:TI}(hN:X.N.Nodup)(hi:X.N[i]?=some y) (hy:Loc X.env.scope y) (hx:∀e s,¬X.xe e s) (hc:X.calm=true) (ok:Z8u X.env.scope scope X.N own fr=true) (hit:PI X tg iter wi)
  (hg:∀C fp s₃ H₃,PG (cxC X scope own fr C fp s₃ H₃) tg g) (ht:∀C fp s₃ H₃,PTs (cxC X scope own fr C fp s₃ H₃) ifs tt) (he:∀C fp s₃ H₃,PE (cxC X scope own fr C fp s₃ H₃) elt te)
  (hsw:swapsWith (.ListComp elt [⟨tg,iter,ifs,0⟩] scope pos) (some (.Name y py)) spos.line X.env=pure true:=by rfl) (hs:∀x,foldedSetIterable iter X.env x=pure x:=by intro _;rfl)
  (hf:X.fn y=true\/X.env.scope.names.lookup y=some .local:=by first|exact .inl rfl|exact .inr rfl|assumption):
  PS X (.Assign [.Name y py] (.ListComp elt [⟨tg,iter,ifs,0⟩] scope pos) spos) (tAsg (ZcA own fr wi g tt te) (Zfc i)):=by
 have ok':=Z2Q ok
 intro pins s σ H D I h
 rw[exec_Assign_Name_used _ _ _ _ hsw]
 refine wpAny_bind (wpAny_standAt (wpAny_bind ?_))
 show wpAny _ X.A (do let _<- comprehension (.ListComp elt [⟨tg,iter,ifs,0⟩] scope pos) scope X.env _ (newList []) false (eval iter X.env) (some (assign (.Name y py) X.env))) _ _ s
 refine wpAny_bind (wpAny_mono (wpAny_comprehension_free (use:=some (assign (.Name y py) X.env)) (cl:=clOf X.env.cells scope.names []) (Q:=λ_ s'=>SP X pins D .next s') rfl hs (Z8v λy hy hk=>I.ok.has y.1 (ok'.has y hy hk)) ok'.kind ok'.names
  (thn (hit pins s σ H _ I h) λv s1 h1=>thn h1 λitv s2 h2=>?_)) (λ_ s' hq=>wpAny_pure (wpAny_pure hq)) λ_ _ e=>e)
 obtain⟨it,fp,tn,J,H2,e,I2,T,st2,f2,R⟩:=h2
 subst e
 refine Z8t (RR:=λacc C=>compPost (model X.prog X.w) X.A X.xe (some (assign (.Name y py) X.env)) (λ_ s'=>SP X pins D .next s') acc C) (Q:=λv H'=>D.nx (σ.set i (some v)) H') hc ok' hg ht he I2 T st2 f2 R ?_
 rintro E C H' s' I' ⟨m,ns⟩ c1 c2 c3 c4 c5 q
 show wpAny _ X.A (assign (.Name y py) X.env (.ref E)) _ _ _
 refine wpAny_assign_Name (Z9k I' hN hi hy (v:=.ref E) (u:=.ref E) rfl (λs'' I'' sb=>?_) hf)
 obtain⟨a,sb,ha⟩:=sb
 have hCa:C≠a:=by
  rcases ha with z|z
  ·rw[z];exact c2
  ·exact λe=>c4 _ _ z e.symm
 refine⟨m,ns.sameBut sb hCa,λh' sb'=>⟨_,H',?_,q⟩⟩
 exact I''.turned (t':=s''.toks) (λb o hb e=>(sb'.2 b hb).trans e) c1 c2 (.inr c3) c4 c5
end
end L2
namespace L2
open PySem PySem.Spec PyProof.Rows
section
variable{G:GI}{sc:Scope}{N:List Str}{e:Expr}
theorem Z03{a b:Bool}(h:(a&&b)=true):a=true/\b=true:=by rwa [Y04]at h
theorem Z05{p:Prop} [Decidable p] (h:decide p=true):p:=of_decide_eq_true h
theorem not_of{b:Bool}(h:(!b)=true):b=false:=by cases b with|false=>rfl|true=>cases h
theorem Zhr{i:Nat}(h:chkE G (.var i) sc N e=true):∃x p,e=.Name x p/\N[i]?=some x/\visB sc x=true/\(x==("__debug__":Str))=false/\(x==("__classdict__":Str))=false:=by
 replace h:=Z01 h
 obtain⟨x,h1,h⟩:=h
 obtain⟨p,rfl⟩:=Z09 h1
 replace h:=Z03 h
 obtain⟨h,h5⟩:=h
 replace h:=Z03 h
 obtain⟨h,h4⟩:=h
 replace h:=Z03 h
 obtain⟨h2,h3⟩:=h
 exact⟨x,p,rfl,Z05 h2,h3,not_of h4,not_of h5⟩
theorem Zhy{i:Int}(h:chkE G (.int i) sc N e=true):∃k p,e=.Constant (.int i) k p:=by
 replace h:=Z01 h
 obtain⟨x,h1,h⟩:=h
 obtain⟨k,p,rfl⟩:=Z49 h1
 exact⟨k,p,by rw[Z05 h]⟩
theorem Zht{i:Str}(h:chkE G (.str i) sc N e=true):∃k p,e=.Constant (.str i) k p:=by
 replace h:=Z01 h
 obtain⟨x,h1,h⟩:=h
 obtain⟨k,p,rfl⟩:=Z49 h1
 exact⟨k,p,by rw[Z05 h]⟩
theorem ZjS{i:Bool}(h:chkE G (.bl i) sc N e=true):∃k p,e=.Constant (.bool i) k p:=by
 replace h:=Z01 h
 obtain⟨x,h1,h⟩:=h
 obtain⟨k,p,rfl⟩:=Z49 h1
 exact⟨k,p,by rw[Z05 h]⟩
theorem Zhw(h:chkE G .non sc N e=true):∃k p,e=.Constant .none k p:=by
 replace h:=Z01 h
 obtain⟨x,h1,h⟩:=h
 obtain⟨k,p,rfl⟩:=Z49 h1
 exact⟨k,p,by rw[Z05 h]⟩
theorem Zhz{x:Str}{i:Int}(h:chkE G (.glb x i) sc N e=true):∃p,e=.Name x p/\G.gl.lookup x=some i/\glB sc x=true:=by
 replace h:=Z01 h
 obtain⟨y,h1,h⟩:=h
 obtain⟨p,rfl⟩:=Z09 h1
 replace h:=Z03 h
 obtain⟨h,h4⟩:=h
 replace h:=Z03 h
 obtain⟨h2,h3⟩:=h
 obtain rfl:=Z05 h2
 exact⟨p,rfl,Z05 h3,h4⟩
theorem ZjN{c:Ty7}(h:chkE G (.ty c) sc N e=true):∃p,e=.Name (c.name:Str) p/\c≠.none/\G.bl.contains (c.name:Str)=true/\glB sc (c.name:Str)=true:=by
 replace h:=Z01 h
 obtain⟨y,h1,h⟩:=h
 obtain⟨p,rfl⟩:=Z09 h1
 replace h:=Z03 h
 obtain⟨h,h5⟩:=h
 replace h:=Z03 h
 obtain⟨h,h4⟩:=h
 replace h:=Z03 h
 obtain⟨h2,h3⟩:=h
 obtain rfl:=Z05 h2
 exact⟨p,rfl,Z05 h3,h4,h5⟩
theorem ZhC{op:Operator}{a b:IE}(h:chkE G (.bin op a b) sc N e=true):∃l r p,e=.BinOp l op r p/\chkE G a sc N l=true/\chkE G b sc N r=true:=by
 replace h:=Z01 h
 obtain⟨⟨l,o,r⟩,h1,h⟩:=h
 obtain⟨p,rfl⟩:=Zfu h1
 replace h:=Z03 h
 obtain⟨h,h4⟩:=h
 replace h:=Z03 h
 obtain⟨h2,h3⟩:=h
 obtain rfl:=Z05 h2
 exact⟨l,r,p,rfl,h3,h4⟩
theorem Zhv{a:IE}(h:chkE G (.not a) sc N e=true):∃l p,e=.UnaryOp .Not l p/\chkE G a sc N l=true:=by
 replace h:=Z01 h
 obtain⟨⟨o,l⟩,h1,h⟩:=h
 obtain⟨p,rfl⟩:=Zeg h1
 replace h:=Z03 h
 obtain⟨h2,h3⟩:=h
 obtain rfl:=Z05 h2
 exact⟨l,p,rfl,h3⟩
theorem ZhA{op:CmpOp}{a b:IE}(h:chkE G (.cmp op a b) sc N e=true):∃l r p,e=.Compare l [op] [r] p/\chkE G a sc N l=true/\chkE G b sc N r=true/\behindInMarks op r=false:=by
 replace h:=Z01 h
 obtain⟨⟨l,os,rs⟩,h1,h⟩:=h
 obtain⟨p,rfl⟩:=ZbJ h1
 replace h:=Z01 h
 obtain⟨o,h2,h⟩:=h
 replace h:=Z01 h
 obtain⟨r,h3,h⟩:=h
 obtain rfl:=Z1b h2
 obtain rfl:=Z1b h3
 replace h:=Z03 h
 obtain⟨h,h7⟩:=h
 replace h:=Z03 h
 obtain⟨h,h6⟩:=h
 replace h:=Z03 h
 obtain⟨h4,h5⟩:=h
 obtain rfl:=Z05 h4
 exact⟨l,r,p,rfl,h5,h6,not_of h7⟩
theorem ZhB{op op':CmpOp}{a b c:IE}(h:chkE G (.chn op op' a b c) sc N e=true):∃l m r p,e=.Compare l [op,op'] [m,r] p/\chkE G a sc N l=true/\chkE G b sc N m=true/\chkE G c sc N r=true/\lastMarks [op,op'] [m,r]=false:=by
 replace h:=Z01 h
 obtain⟨⟨l,os,rs⟩,h1,h⟩:=h
 obtain⟨p,rfl⟩:=ZbJ h1
 replace h:=Z01 h
 obtain⟨⟨o,o'⟩,h2,h⟩:=h
 replace h:=Z01 h
 obtain⟨⟨m,r⟩,h3,h⟩:=h
 obtain rfl:=Z5T h2
 obtain rfl:=Z5T h3
 replace h:=Z03 h
 obtain⟨h,h9⟩:=h
 replace h:=Z03 h
 obtain⟨h,h8⟩:=h
 replace h:=Z03 h
 obtain⟨h,h7⟩:=h
 replace h:=Z03 h
 obtain⟨h,h6⟩:=h
 replace h:=Z03 h
 obtain⟨h4,h5⟩:=h
 obtain rfl:=Z05 h4
 obtain rfl:=Z05 h5
 exact⟨l,m,r,p,rfl,h6,h7,h8,not_of h9⟩
theorem ZhD{a b:IE}(h:chkE G (.and a b) sc N e=true):∃l r rest p,e=.BoolOp .And (l::r::rest) p/\chkE G a sc N l=true/\((rest=[]/\chkE G b sc N r=true)\/chkE G b sc N (.BoolOp .And (r::rest) p)=true):=by
 replace h:=Z01 h
 obtain⟨⟨o,vs,p⟩,h1,h⟩:=h
 obtain rfl:=Z9c h1
 replace h:=Z01 h
 obtain⟨⟨l,r,rest⟩,h2,h⟩:=h
 obtain rfl:=ZdN h2
 replace h:=Z03 h
 obtain⟨h,h4⟩:=h
 replace h:=Z03 h
 obtain⟨h2,h3⟩:=h
 obtain rfl:=Z05 h2
 refine⟨l,r,rest,p,rfl,h3,?_⟩
 cases rest with
 |nil=>exact .inl ⟨rfl,h4⟩
 |cons _ _=>exact .inr h4
theorem ZjP{a b:IE}(h:chkE G (.or a b) sc N e=true):∃l r rest p,e=.BoolOp .Or (l::r::rest) p/\chkE G a sc N l=true/\((rest=[]/\chkE G b sc N r=true)\/chkE G b sc N (.BoolOp .Or (r::rest) p)=true):=by
 replace h:=Z01 h
 obtain⟨⟨o,vs,p⟩,h1,h⟩:=h
 obtain rfl:=Z9c h1
 replace h:=Z01 h
 obtain⟨⟨l,r,rest⟩,h2,h⟩:=h
 obtain rfl:=ZdN h2
 replace h:=Z03 h
 obtain⟨h,h4⟩:=h
 replace h:=Z03 h
 obtain⟨h2,h3⟩:=h
 obtain rfl:=Z05 h2
 refine⟨l,r,rest,p,rfl,h3,?_⟩
 cases rest with
 |nil=>exact .inl ⟨rfl,h4⟩
 |cons _ _=>exact .inr h4
theorem Zhs{es:IEs}(h:chkE G (.tup es) sc N e=true):∃xs k p,e=.Tuple xs k p/\chkEs G es sc N xs=true:=by
 replace h:=Z01 h
 obtain⟨xs,h1,h⟩:=h
 obtain⟨k,p,rfl⟩:=Z6Y h1
 exact⟨xs,k,p,rfl,h⟩
theorem Zhx{es:IEs}(h:chkE G (.lst es) sc N e=true):∃xs p,e=.List xs p/\chkEs G es sc N xs=true:=by
 replace h:=Z01 h
 obtain⟨xs,h1,h⟩:=h
 obtain⟨p,rfl⟩:=ZbF h1
 exact⟨xs,p,rfl,h⟩
theorem ZjR{a b:IE}(h:chkE G (.ix a b) sc N e=true):∃x y p,e=.Subscript x y p/\chkE G a sc N x=true/\chkE G b sc N y=true/\Zh8 y=true:=by
 replace h:=Z01 h
 obtain⟨⟨x,y⟩,h1,h⟩:=h
 obtain⟨p,rfl⟩:=ZbD h1
 replace h:=Z03 h
 obtain⟨h,h4⟩:=h
 replace h:=Z03 h
 obtain⟨h2,h3⟩:=h
 exact⟨x,y,p,rfl,h2,h3,h4⟩
theorem ZjO{a:IE}{lo hi:IO}(h:chkE G (.sl a lo hi) sc N e=true):∃x l u p p2,e=.Subscript x (.Slice l u none p2) p/\chkE G a sc N x=true/\chkO G lo sc N l=true/\chkO G hi sc N u=true:=by
 replace h:=Z01 h
 obtain⟨⟨x,y⟩,h1,h⟩:=h
 obtain⟨p,rfl⟩:=ZbD h1
 replace h:=Z01 h
 obtain⟨⟨l,u,st⟩,h2,h⟩:=h
 obtain⟨p2,rfl⟩:=ZhZ h2
 replace h:=Z03 h
 obtain⟨h,h6⟩:=h
 replace h:=Z03 h
 obtain⟨h,h5⟩:=h
 replace h:=Z03 h
 obtain⟨h3,h4⟩:=h
 cases st with
 |some _=>cases h6
 |none=>exact⟨x,l,u,p,p2,rfl,h3,h4,h5⟩
theorem Zf5{j:Nat}{a:IE}{es:IEs}(h:chkE G (.call j a es) sc N e=true):∃f p x xs p2,e=.Call (.Name f p) (x::xs) [] p2/\G.fns[j]?=some f/\glB sc f=true/\chkE G a sc N x=true/\chkEs G es sc N xs=true:=by
 replace h:=Z01 h
 obtain⟨⟨f,l,ks,p2⟩,h1,h⟩:=h
 obtain rfl:=Z0S h1
 replace h:=Z01 h
 obtain⟨g,h2,h⟩:=h
 obtain⟨p,rfl⟩:=Z09 h2
 replace h:=Z01 h
 obtain⟨⟨x,xs⟩,h3,h⟩:=h
 obtain rfl:=Z3i h3
 replace h:=Z03 h
 obtain⟨h,h8⟩:=h
 replace h:=Z03 h
 obtain⟨h,h7⟩:=h
 replace h:=Z03 h
 obtain⟨h,h6⟩:=h
 replace h:=Z03 h
 obtain⟨h4,h5⟩:=h
 obtain rfl:=Z0s h4
 exact⟨g,p,x,xs,p2,rfl,Z05 h5,h6,h7,h8⟩
theorem ZjT{f:BI}{a:IE}{es:IEs}(h:chkE G (.bi f a es) sc N e=true):∃p x xs p2,e=.Call (.Name (f.name:Str) p) (x::xs) [] p2/\G.bl.contains (f.name:Str)=true/\glB sc (f.name:Str)=true/\chkE G a sc N x=true/\chkEs G es sc N xs=true:=by
 replace h:=Z01 h
 obtain⟨⟨f',l,ks,p2⟩,h1,h⟩:=h
 obtain rfl:=Z0S h1
 replace h:=Z01 h
 obtain⟨g,h2,h⟩:=h
 obtain⟨p,rfl⟩:=Z09 h2
 replace h:=Z01 h
 obtain⟨⟨x,xs⟩,h3,h⟩:=h
 obtain rfl:=Z3i h3
 replace h:=Z03 h
 obtain⟨h,h9⟩:=h
 replace h:=Z03 h
 obtain⟨h,h8⟩:=h
 replace h:=Z03 h
 obtain⟨h,h7⟩:=h
 replace h:=Z03 h
 obtain⟨h,h6⟩:=h
 replace h:=Z03 h
 obtain⟨h4,h5⟩:=h
 obtain rfl:=Z0s h4
 obtain rfl:=Z05 h5
 exact⟨p,x,xs,p2,rfl,h6,h7,h8,h9⟩
theorem ZjU{f:B2}{a:IE}(h:chkE G (.b2 f a) sc N e=true):∃p p' x p2 p2',e=.Call (.Name (f.out:Str) p) [.Call (.Name (f.inn:Str) p') [x] [] p2'] [] p2/\G.bl.contains (f.out:Str)=true/\G.bl.contains (f.inn:Str)=true/\glB sc (f.out:Str)=true/\glB sc (f.inn:Str)=true/\chkE G a sc N x=true:=by
 replace h:=Z01 h
 obtain⟨⟨f',l,ks,p2⟩,h1,h⟩:=h
 obtain rfl:=Z0S h1
 replace h:=Z01 h
 obtain⟨g,h2,h⟩:=h
 obtain⟨p,rfl⟩:=Z09 h2
 replace h:=Z01 h
 obtain⟨y,h3,h⟩:=h
 obtain rfl:=Z1b h3
 replace h:=Z01 h
 obtain⟨⟨f'',l',ks',p2'⟩,h4,h⟩:=h
 obtain rfl:=Z0S h4
 replace h:=Z01 h
 obtain⟨k,h5,h⟩:=h
 obtain⟨p',rfl⟩:=Z09 h5
 replace h:=Z01 h
 obtain⟨x,h6,h⟩:=h
 obtain rfl:=Z1b h6
 simp only[Y04]at h
 obtain⟨⟨⟨⟨⟨⟨⟨⟨a1,a2⟩,a3⟩,a4⟩,a5⟩,a6⟩,a7⟩,a8⟩,a9⟩:=h
 obtain rfl:=Z0s a1
 obtain rfl:=Z0s a2
 obtain rfl:=Z05 a3
 obtain rfl:=Z05 a4
 exact⟨p,p',x,p2,p2',rfl,a5,a6,a7,a8,a9⟩
theorem ZjQ{m:MT}{o:IE}{es:IEs}(h:chkE G (.mt m o es) sc N e=true):∃ob ap args cp,e=.Call (.Attribute ob (m.name:Str) ap) args [] cp/\(ap.endLine==cp.line)=true/\chkE G o sc N ob=true/\chkEs G es sc N args=true/\args.length<20:=by
 replace h:=Z01 h
 obtain⟨⟨f',args,ks,cp⟩,h1,h⟩:=h
 obtain rfl:=Z0S h1
 replace h:=Z01 h
 obtain⟨⟨ob,nm,ap⟩,h2,h⟩:=h
 obtain rfl:=Zfv h2
 replace h:=Z03 h
 obtain⟨h,h8⟩:=h
 replace h:=Z03 h
 obtain⟨h,h7⟩:=h
 replace h:=Z03 h
 obtain⟨h,h6⟩:=h
 replace h:=Z03 h
 obtain⟨h,h5⟩:=h
 replace h:=Z03 h
 obtain⟨h3,h4⟩:=h
 obtain rfl:=Z0s h3
 obtain rfl:=Z05 h4
 exact⟨ob,ap,args,cp,rfl,h5,h6,h7,Z05 h8⟩
theorem Zbl{own:List Str}{fr:List Nat}{src:ISr}{tg:ITg}{test:IO}{elt:IE}(h:chkE G (.comp own fr src tg test elt) sc N e=true):∃x t it ifs scope p,e=.ListComp x [⟨t,it,ifs,0⟩] scope p/\Z8u sc scope N own fr=true/\Z8f it=true/\
  (nC own fr N).Nodup/\chkSr G src sc N it=true/\Z67 (ZbR scope sc) (nC own fr N) own.length false tg t=true/\chkI G test (ZbR scope sc) (nC own fr N) ifs=true/\chkE G elt (ZbR scope sc) (nC own fr N) x=true:=by
 replace h:=Z01 h
 obtain⟨⟨x,gs,scope⟩,h1,h⟩:=h
 obtain⟨p,rfl⟩:=Zi1 h1
 replace h:=Z01 h
 obtain⟨⟨t,it,ifs,k⟩,h2,h⟩:=h
 obtain rfl:=Z1b h2
 replace h:=Z03 h
 obtain⟨h,h9⟩:=h
 replace h:=Z03 h
 obtain⟨h,h8⟩:=h
 replace h:=Z03 h
 obtain⟨h,h7⟩:=h
 replace h:=Z03 h
 obtain⟨h,h6⟩:=h
 replace h:=Z03 h
 obtain⟨h,h5⟩:=h
 replace h:=Z03 h
 obtain⟨h,h4⟩:=h
 replace h:=Z03 h
 obtain⟨h2,h3⟩:=h
 obtain rfl:=Z05 h9
 exact⟨x,t,it,ifs,scope,p,rfl,h2,h3,Z05 h4,h5,h6,h7,h8⟩
theorem Zc4{ks:List (Option Expr)}{vs:List Expr}(h:Ze0 G .nil sc N ks vs=true):ks=[]/\vs=[]:=by
 replace h:=Z03 h
 exact⟨Z0s h.1,Z0s h.2⟩
theorem ZaM{k v:IE}{ps:IPs}{ks:List (Option Expr)}{vs:List Expr}(h:Ze0 G (.cons k v ps) sc N ks vs=true):∃x ks' y vs',ks=some x::ks'/\vs=y::vs'/\chkE G k sc N x=true/\chkE G v sc N y=true/\Ze0 G ps sc N ks' vs'=true:=by
 replace h:=Z01 h
 obtain⟨⟨o,ks'⟩,h1,h⟩:=h
 replace h:=Z01 h
 obtain⟨⟨y,vs'⟩,h2,h⟩:=h
 replace h:=Z01 h
 obtain⟨x,h3,h⟩:=h
 replace h:=Z03 h
 obtain⟨h,h6⟩:=h
 replace h:=Z03 h
 obtain⟨h4,h5⟩:=h
 dsimp only at h3
 subst h3
 exact⟨x,ks',y,vs',Z3i h1,Z3i h2,h4,h5,h6⟩
theorem Z8p{l:List Expr}(h:chkEs G .nil sc N l=true):l=[]:=by
 exact Z0s h
theorem Z7o{a:IE}{es:IEs}{l:List Expr}(h:chkEs G (.cons a es) sc N l=true):∃x xs,l=x::xs/\chkE G a sc N x=true/\chkEs G es sc N xs=true:=by
 replace h:=Z01 h
 obtain⟨⟨x,xs⟩,h1,h⟩:=h
 exact⟨x,xs,Z3i h1,Z03 h⟩
theorem Zc6{o:Option Expr}(h:chkO G .none sc N o=true):o=none:=by
 cases o with
 |none=>rfl
 |some _=>cases h
theorem Zc5{a:IE}{o:Option Expr}(h:chkO G (.some a) sc N o=true):∃x,o=some x/\chkE G a sc N x=true:=by
 exact Z01 h
theorem Zc8{l:List Expr}(h:chkI G .none sc N l=true):l=[]:=by
 exact Z0s h
theorem Zc7{a:IE}{l:List Expr}(h:chkI G (.some a) sc N l=true):∃x,l=[x]/\tok a=true/\chkE G a sc N x=true:=by
 replace h:=Z01 h
 obtain⟨x,h1,h⟩:=h
 exact⟨x,Z1b h1,Z03 h⟩
theorem Zhu{a:IE}(h:chkSr G (.rng a) sc N e=true):∃p x p2,e=.Call (.Name ("range":Str) p) [x] [] p2/\G.bl.contains ("range":Str)=true/\glB sc ("range":Str)=true/\chkE G a sc N x=true:=by
 replace h:=Z01 h
 obtain⟨⟨f',l,ks,p2⟩,h1,h⟩:=h
 obtain rfl:=Z0S h1
 replace h:=Z01 h
 obtain⟨g,h2,h⟩:=h
 obtain⟨p,rfl⟩:=Z09 h2
 replace h:=Z01 h
 obtain⟨x,h3,h⟩:=h
 obtain rfl:=Z1b h3
 replace h:=Z03 h
 obtain⟨h,h8⟩:=h
 replace h:=Z03 h
 obtain⟨h,h7⟩:=h
 replace h:=Z03 h
 obtain⟨h,h6⟩:=h
 replace h:=Z03 h
 obtain⟨h4,h5⟩:=h
 obtain rfl:=Z0s h4
 obtain rfl:=Z05 h5
 exact⟨p,x,p2,rfl,h6,h7,h8⟩
theorem Zf4{a b:IE}(h:chkSr G (.rng2 a b) sc N e=true):∃p x y p2,e=.Call (.Name ("range":Str) p) [x,y] [] p2/\G.bl.contains ("range":Str)=true/\glB sc ("range":Str)=true/\chkE G a sc N x=true/\chkE G b sc N y=true:=by
 replace h:=Z01 h
 obtain⟨⟨f',l,ks,p2⟩,h1,h⟩:=h
 obtain rfl:=Z0S h1
 replace h:=Z01 h
 obtain⟨g,h2,h⟩:=h
 obtain⟨p,rfl⟩:=Z09 h2
 replace h:=Z01 h
 obtain⟨⟨x,y⟩,h3,h⟩:=h
 obtain rfl:=Z5T h3
 replace h:=Z03 h
 obtain⟨h,h9⟩:=h
 replace h:=Z03 h
 obtain⟨h,h8⟩:=h
 replace h:=Z03 h
 obtain⟨h,h7⟩:=h
 replace h:=Z03 h
 obtain⟨h,h6⟩:=h
 replace h:=Z03 h
 obtain⟨h4,h5⟩:=h
 obtain rfl:=Z0s h4
 obtain rfl:=Z05 h5
 exact⟨p,x,y,p2,rfl,h6,h7,h8,h9⟩
theorem Zf3{a b c:IE}(h:chkSr G (.rng3 a b c) sc N e=true):∃p x y z p2,e=.Call (.Name ("range":Str) p) [x,y,z] [] p2/\G.bl.contains ("range":Str)=true/\glB sc ("range":Str)=true/\chkE G a sc N x=true/\chkE G b sc N y=true/\chkE G c sc N z=true:=by
 replace h:=Z01 h
 obtain⟨⟨f',l,ks,p2⟩,h1,h⟩:=h
 obtain rfl:=Z0S h1
 replace h:=Z01 h
 obtain⟨g,h2,h⟩:=h
 obtain⟨p,rfl⟩:=Z09 h2
 replace h:=Z01 h
 obtain⟨⟨x,y,z⟩,h3,h⟩:=h
 obtain rfl:=Zgr h3
 replace h:=Z03 h
 obtain⟨h,h10⟩:=h
 replace h:=Z03 h
 obtain⟨h,h9⟩:=h
 replace h:=Z03 h
 obtain⟨h,h8⟩:=h
 replace h:=Z03 h
 obtain⟨h,h7⟩:=h
 replace h:=Z03 h
 obtain⟨h,h6⟩:=h
 replace h:=Z03 h
 obtain⟨h4,h5⟩:=h
 obtain rfl:=Z0s h4
 obtain rfl:=Z05 h5
 exact⟨p,x,y,z,p2,rfl,h6,h7,h8,h9,h10⟩
theorem Z7n{lim:Nat}{all:Bool}{i:Nat}(h:Z67 sc N lim all (.nm i) e=true):∃x p,e=.Name x p/\N[i]?=some x/\i<lim/\(if all then locB sc x else decide (sc.names.lookup x=some .local))=true:=by
 replace h:=Z01 h
 obtain⟨x,h1,h⟩:=h
 obtain⟨p,rfl⟩:=Z09 h1
 replace h:=Z03 h
 obtain⟨h,h4⟩:=h
 replace h:=Z03 h
 obtain⟨h2,h3⟩:=h
 exact⟨x,p,rfl,Z05 h2,Z05 h3,h4⟩
theorem Z63{lim:Nat}{all:Bool}{ts:ITgs}(h:Z67 sc N lim all (.tup ts) e=true):∃es k p,e=.Tuple es k p/\chkTgs sc N lim all ts es=true:=by
 replace h:=Z01 h
 obtain⟨es,h1,h⟩:=h
 obtain⟨k,p,rfl⟩:=Z6Y h1
 exact⟨es,k,p,rfl,h⟩
theorem ZaL{lim:Nat}{all:Bool}{l:List Expr}(h:chkTgs sc N lim all .nil l=true):l=[]:=by
 exact Z0s h
theorem Z6g{lim:Nat}{all:Bool}{t:ITg}{ts:ITgs}{l:List Expr}(h:chkTgs sc N lim all (.cons t ts) l=true):∃x xs,l=x::xs/\Z67 sc N lim all t x=true/\chkTgs sc N lim all ts xs=true:=by
 replace h:=Z01 h
 obtain⟨⟨x,xs⟩,h1,h⟩:=h
 exact⟨x,xs,Z3i h1,Z03 h⟩
end
end L2
namespace L2
open PySem PySem.Spec PyProof.Rows
noncomputable def liT(K:Y00)(t:TEm):TT:=λσ H Q=>∃σm M,RS K H σm σ/\RH K M H/\t σm M (λm M'=>∃b,m=.bl b/\∀H',Kp H H'->RH K M' H'->Q b H')
noncomputable def liO(K:Y00)(t:Sm->MH->(Option Int->MH->Prop)->Prop):TO:=λσ H Q=>∃σm M,RS K H σm σ/\RH K M H/\t σm M (λo M'=>∀H',Kp H H'->RH K M' H'->Q o H')
section
variable{K:Y00}
theorem ZaE{t:TEm}(m:MonE t){σ:St}{H:Hp}{Q:Bool->Hp->Prop}(h:liT K t σ H Q):liE K t σ H λx H'=>∃c,x=.bl c/\Q c H':=by
 obtain⟨σm,M,rs,rh,h⟩:=h
 refine⟨σm,M,rs,rh,m (λx M1 ⟨b,e,h1⟩=>?_) h⟩
 subst e
 intro v H1 k1 r1 rh1
 cases r1
 exact⟨b,rfl,h1 H1 k1 rh1⟩
theorem Zg3{t:TEm}(m:MonE t){σm:Sm}{M:MH}{H H1:Hp}{Q:Bool->Hp->Prop}(k:Kp H H1)(h:t σm M λx M'=>∃b,x=.bl b/\∀H',Kp H H'->RH K M' H'->Q b H'):
  t σm M λx M'=>∃b,x=.bl b/\∀H',Kp H1 H'->RH K M' H'->Q b H':=
 m (λx M' ⟨b,e,q⟩=>⟨b,e,λH' k'=>q H' (k.trans k')⟩) h
theorem Zhl{te:TEm}{t:TAm}(me:MonE te)(mt:MonA t){σ:St}{H:Hp}{Q:List V->Hp->Prop}(h:liA K (λσ M Q=>te σ M λv M1=>t σ M1 λvs M2=>Q (v::vs) M2) σ H Q):Z6Z (liE K te) (liA K t) σ H Q:=by
 obtain⟨σm,M,rs,rh,h⟩:=h
 refine⟨σm,M,rs,rh,me (λx M1 h1=>?_) h⟩
 intro v H1 k1 r1 rh1
 refine⟨σm,M1,rs.mono k1,rh1,mt (λms M2 h2=>?_) h1⟩
 intro vs H2 k2 r2 rh2
 exact h2 (v::vs) H2 (k1.trans k2) (.cons (r1.mono k2) r2) rh2
end
noncomputable def Zi9(X:Cx)(H:Hp):Src->It->Prop
 |.tup xs,J=>(∃a vs,H a=some (.tup vs)/\RMs X.K H xs vs/\J=Itt X.K a)\/∃a vs,FrL X.K H a vs/\RMs X.K H xs vs/\J=Itl X.K a
 |.lst a _,J=>J=Itl X.K a
 |.rng lo n,J=>J=Itr lo n
 |.rst lo st n,J=>J=Itrs lo st n
 |.dic a o _,J=>J=Itd a o/\∀o' u',X.H₀ a≠some (.frz o' u')
 |.str x,J=>J=Its x
theorem Z6U{X:Cx}{H0 H:Hp}{M:MH}{S:Src}{J:It}(s:Zi9 X H0 S J)(rh:RH X.K M H)(ok:S.okT M):∃H',Thw X H H'/\Kp H H'/\RH X.K (S.thaw M) H':=by
 cases S with
 |tup xs=>exact⟨H,.inl rfl,Kp.refl _,rh⟩
 |lst a xs=>exact⟨H,.inl rfl,Kp.refl _,rh⟩
 |rng a xs=>exact⟨H,.inl rfl,Kp.refl _,rh⟩
 |rst a b xs=>exact⟨H,.inl rfl,Kp.refl _,rh⟩
 |str x=>exact⟨H,.inl rfl,Kp.refl _,rh⟩
 |dic a o kvs=>
  obtain⟨vs,e,r,nd⟩:=rh.fdic ok
  have k:=Kp.upd e rfl (.dK vs)
  exact⟨_,.inr ⟨a,o,.dK vs,e,trivial,s.2,rfl⟩,k,rh.put k (o:=.dic kvs) ⟨r.mono k,nd⟩⟩
theorem ZfT{M:MH}{S:Src}(ok:S.ok M):S.okT M:=by
 cases S<;>first|trivial|exact ok
theorem ZfI{K:Y00}{H:Hp}{k:Key}{v:V}:∀{m:List (Key×MV)} {vs:List (Key×V)} {i:Nat},RKs K H m vs->vs[i]?=some (k,v)->∃x,m[i]?=some (k,x)/\RM K H x v
 |_,_,_,.nil,h=>by cases h
 |_,_,0,.cons r _,h=>by cases h;exact⟨_,rfl,r⟩
 |_,_,i+1,.cons _ t,h=>ZfI (i:=i) t h
theorem Z8F{X:Cx}{H0 H:Hp}{M:MH}{S:Src}{J:It}(s:Zi9 X H0 S J)(k:Kp H0 H)(rh:RH X.K M H)(ok:S.ok M):
  (∀i,i<S.len->J.go i H/\∀x H',J.yld i H x H'->H'=H/\∃m,S.items[i]?=some m/\RM X.K H m x)/\∀i,S.len≤i->J.stop i H:=by
 have seqL:∀{a:Addr} {xs:List MV} {vs:List V},SqL X.K H a vs->RMs X.K H xs vs->(∀i,i<xs.length->(Itl X.K a).go i H/\∀x H',(Itl X.K a).yld i H x H'->H'=H/\∃m,xs[i]?=some m/\RM X.K H m x)/\∀i,xs.length≤i->(Itl X.K a).stop i H:=by
  intro a xs vs hs r
  refine⟨λi hi=>⟨⟨vs,_,hs,Y01 (by rw[<- r.length];exact hi)⟩,λx H' y=>?_⟩,λi hi=>⟨vs,hs,by rw[<- r.length];exact hi⟩⟩
  exact⟨y.1,r.get' (y.2 vs hs)⟩
 cases S with
 |tup xs=>
  rcases s with⟨a,vs,h,r,rfl⟩|⟨a,vs,h,r,rfl⟩
  ·have h:=SqT.of (K:=X.K) (k _ _ h rfl)
   have r:=r.mono k
   refine⟨λi hi=>⟨⟨vs,_,h,Y01 (by rw[<- r.length];exact hi)⟩,λx H' y=>?_⟩,λi hi=>⟨vs,h,by rw[<- r.length];exact hi⟩⟩
   exact⟨y.1,r.get' (y.2 vs h)⟩
  ·refine seqL (FrL.sq ?_) (r.mono k)
   rcases h with⟨o,h⟩|h
   ·exact .inl ⟨o,k _ _ h rfl⟩
   ·exact .inr h
 |lst a xs=>
  cases s
  obtain⟨vs,h,r⟩:=rh.lst ok
  exact seqL (SqL.of h) r
 |rng lo n=>
  cases s
  refine⟨λi hi=>⟨hi,λx H' y=>⟨y.1,.int (lo+(i:Nat)),?_,?_⟩⟩,λi hi=>hi⟩
  ·show((Y0E n).map _)[i]?=_
   rw[Y06,Y01 (by simpa using(show i<n from hi))]
   simp
  ·rw[y.2];exact .int _
 |rst lo st n=>
  cases s
  refine⟨λi hi=>⟨hi,λx H' y=>⟨y.1,.int (lo+(i:Nat)*st),?_,?_⟩⟩,λi hi=>hi⟩
  ·show((Y0E n).map _)[i]?=_
   rw[Y06,Y01 (by simpa using(show i<n from hi))]
   simp
  ·rw[y.2];exact .int _
 |str z=>
  cases s
  refine⟨λi hi=>⟨hi,λx H' y=>?_⟩,λi hi=>hi⟩
  obtain⟨e,c,hc,rfl⟩:=y
  refine⟨e,.str ⟨#[c]⟩,?_,.str _⟩
  show(z.cps.toList.map _)[i]?=_
  rw[Y06,Y3f,hc]
  rfl
 |dic a o kvs=>
  obtain⟨rfl,_⟩:=s
  obtain⟨vs,e,r,nd⟩:=rh.fdic ok
  refine⟨λi hi=>⟨⟨vs,e,by rw[<- r.length];exact hi⟩,λx H' y=>?_⟩,λi hi=>⟨vs,e,by rw[<- r.length];exact hi⟩⟩
  obtain⟨rfl,y⟩:=y
  obtain⟨kk,v,hv,rfl⟩:=y vs e
  obtain⟨x,hx,_⟩:=ZfI r hv
  refine⟨rfl,kM kk,?_,?_⟩
  ·show(kvs.map λp=>kM p.1)[i]?=_
   rw[Y06,hx];rfl
  ·cases kk with
   |inl i=>exact .int i
   |inr x=>exact .str x
noncomputable def liSr(X:Cx)(t:TSm):TI:=λσ H R=>∃σm M,RS X.K H σm σ/\RH X.K M H/\t σm M (λS M'=>∀J H',Kp H H'->RH X.K M' H'->Zi9 X H' S J->R J H')
section
variable{X:Cx}{tg:Expr}
theorem PI.weak{e:Expr}{t t':TI}(h:PI X tg e t)(i:∀σ H R,t' σ H R->t σ H R):PI X tg e t':=λpins s σ H R I q=>h pins s σ H R I (i _ _ _ q)
end
mutual
noncomputable def gOf(K:Y00):ITg->TG
 |.nm i=>Zfc i
 |.tup ts=>gTup K (ITgs.len ts) (gsOf K ts)
noncomputable def gsOf(K:Y00):ITgs->TGs
 |.nil=>gNil
 |.cons t ts=>ZjY (gOf K t) (gsOf K ts)
noncomputable def ITgs.len:ITgs->Nat
 |.nil=>0
 |.cons _ ts=>ts.len+1
end
mutual
theorem sTg{X:Cx}{lim:Nat}{all:Bool}(hc:X.calm=true)(hN:X.N.Nodup)(hf:all=true->∀x,X.fn x=true):∀(t:ITg) {e:Expr},Z67 X.env.scope X.N lim all t e=true->PG X e (gOf X.K t)
 |.nm i,e,h=>by
  obtain⟨x,p,rfl,h1,h2,h3⟩:=Z7n h
  cases all with
  |true=>
   rw[if_pos rfl]at h3
   exact Zd2 hN h1 (Z4h h3) (.inl (hf rfl _))
  |false=>
   rw[if_neg Y05,decide_eq_true_eq]at h3
   exact Zd2 hN h1 (.inl h3) (.inr h3)
 |.tup ts,e,h=>by
  obtain⟨es,k,p,rfl,h⟩:=Z63 h
  obtain⟨h1,h2,h3⟩:=sTgs hc hN hf ts h
  exact Zjg hc h1 h2 h3
theorem sTgs{X:Cx}{lim:Nat}{all:Bool}(hc:X.calm=true)(hN:X.N.Nodup)(hf:all=true->∀x,X.fn x=true):∀(t:ITgs) {es:List Expr},chkTgs X.env.scope X.N lim all t es=true->PGs X es (gsOf X.K t)/\(assignEach es X.env).length=t.len/\(assignEach es X.env).findIdx? (·.1)=none
 |.nil,l,h=>by
  cases ZaL h
  rw[gsOf,ITgs.len];exact⟨ZgT,rfl,rfl⟩
 |.cons t ts,l,h=>by
  obtain⟨e,es,rfl,ha,hb⟩:=Z6g h
  obtain⟨h1,h2,h3⟩:=sTgs hc hN hf ts hb
  have h4:=sTg hc hN hf t ha
  have e1:assignEach (e::es) X.env=(false,assign e X.env)::assignEach es X.env:=by
   cases t with
   |nm i=>obtain⟨x,p,rfl,_⟩:=Z7n ha;rfl
   |tup ts=>obtain⟨x,k,p,rfl,_⟩:=Z63 ha;rfl
  rw[gsOf,ITgs.len]
  refine⟨ZeF h4 h1 (by rw[e1];rfl),by rw[e1,Y0I,h2],?_⟩
  rw[e1,List.findIdx?_cons,if_neg Y05,h3]
  rfl
end
theorem RMs.len_tgs{K:Y00}:∀{ts:ITgs} {xs:List MV} {σ:Sm} {P:Sm->Prop},wTgs ts xs σ P->xs.length=ts.len
 |.nil,xs,σ,P,h=>by rw[h.1,ITgs.len];rfl
 |.cons t ts,xs,σ,P,h=>by
  obtain⟨v,r,rfl,h⟩:=h
  rw[Y0I,ITgs.len]
  have aux:∀(t:ITg) {v:MV} {σ:Sm},wTg t v σ (λσ'=>wTgs ts r σ' P)->∃σ',wTgs ts r σ' P:=by
   have both:(∀(t:ITg) {v:MV} {σ:Sm} {P:Sm->Prop},wTg t v σ P->∃σ',P σ')/\(∀(t:ITgs) {v:List MV} {σ:Sm} {P:Sm->Prop},wTgs t v σ P->∃σ',P σ'):=by
    refine⟨λt=>?_,λt=>?_⟩
    ·exact ITg.rec (motive_1:=λt=>∀{v:MV} {σ:Sm} {P:Sm->Prop},wTg t v σ P->∃σ',P σ') (motive_2:=λt=>∀{v:List MV} {σ:Sm} {P:Sm->Prop},wTgs t v σ P->∃σ',P σ')
      (λi v σ P h=>⟨_,h⟩) (λts ih v σ P h=>by obtain⟨xs,_,h⟩:=h;exact ih h)
      (fun{v σ P} h=>⟨_,h.2⟩) (λt ts i1 i2 v σ P h=>by obtain⟨x,r,_,h⟩:=h;obtain⟨σ',h⟩:=i1 h;exact i2 h) t
    ·exact ITgs.rec (motive_1:=λt=>∀{v:MV} {σ:Sm} {P:Sm->Prop},wTg t v σ P->∃σ',P σ') (motive_2:=λt=>∀{v:List MV} {σ:Sm} {P:Sm->Prop},wTgs t v σ P->∃σ',P σ')
      (λi v σ P h=>⟨_,h⟩) (λts ih v σ P h=>by obtain⟨xs,_,h⟩:=h;exact ih h)
      (fun{v σ P} h=>⟨_,h.2⟩) (λt ts i1 i2 v σ P h=>by obtain⟨x,r,_,h⟩:=h;obtain⟨σ',h⟩:=i1 h;exact i2 h) t
   exact λt {v σ} h=>both.1 t h
  obtain⟨σ',h'⟩:=aux t h
  rw[RMs.len_tgs (K:=K) h']
mutual
theorem Zcz{K:Y00}{H:Hp}{lim:Nat}{sc:Scope}{N:List Str}{all:Bool}{Ψ:St->Prop}(hΨ:∀σ i v,i<lim->Ψ σ->Ψ (σ.set i (some v))):∀(t:ITg) {e:Expr} {mv:MV} {v:V} {σm:Sm} {σ:St} {P:Sm->Prop} {Q:St->Hp->Prop},Z67 sc N lim all t e=true->
  RM K H mv v->RS K H σm σ->Ψ σ->wTg t mv σm P->(∀σm' σ',P σm'->RS K H σm' σ'->Ψ σ'->Q σ' H)->gOf K t v σ H Q
 |.nm i,e,mv,v,σm,σ,P,Q,hc,r,rs,ps,h,hq=>by
  obtain⟨x,p,rfl,_,hl,_⟩:=Z7n hc
  exact hq _ _ h (rs.set r i) (hΨ _ _ _ hl ps)
 |.tup ts,e,mv,v,σm,σ,P,Q,hc,r,rs,ps,h,hq=>by
  obtain⟨es,k,p,rfl,hc⟩:=Z63 hc
  obtain⟨xs,rfl,h⟩:=h
  cases r with
  |tup h1 q1=>
   exact⟨_,_,rfl,SqT.of h1,by rw[<- q1.length];exact RMs.len_tgs (K:=K) h,tgs_ok hΨ ts hc q1 rs ps h hq⟩
theorem tgs_ok{K:Y00}{H:Hp}{lim:Nat}{sc:Scope}{N:List Str}{all:Bool}{Ψ:St->Prop}(hΨ:∀σ i v,i<lim->Ψ σ->Ψ (σ.set i (some v))):∀(t:ITgs) {es:List Expr} {mvs:List MV} {vs:List V} {σm:Sm} {σ:St} {P:Sm->Prop} {Q:St->Hp->Prop},chkTgs sc N lim all t es=true->
  RMs K H mvs vs->RS K H σm σ->Ψ σ->wTgs t mvs σm P->(∀σm' σ',P σm'->RS K H σm' σ'->Ψ σ'->Q σ' H)->gsOf K t vs σ H Q
 |.nil,es,mvs,vs,σm,σ,P,Q,hc,r,rs,ps,h,hq=>by
  obtain⟨rfl,h⟩:=h
  cases r
  rw[gsOf]
  exact⟨rfl,hq _ _ h rs ps⟩
 |.cons t ts,es,mvs,vs,σm,σ,P,Q,hc,r,rs,ps,h,hq=>by
  obtain⟨e,es,rfl,hc1,hc2⟩:=Z6g hc
  obtain⟨x,rr,rfl,h⟩:=h
  cases r with
  |cons r1 r2=>
   rw[gsOf]
   exact⟨_,_,rfl,Zcz hΨ t hc1 r1 rs ps h λσm' σ' h' rs' ps'=>tgs_ok hΨ ts hc2 r2 rs' ps' h' hq⟩
end
end L2
namespace L2
open PySem PySem.Spec PyProof.Rows
theorem Zky{K:Y00}{H:Hp}{own:List Str}{fr:List Nat}{σm:Sm}{σ:St}(rs:RS K H σm σ):RS K H (sCm own fr σm) (sC own fr σ):=by
 refine⟨by simp[sCm,sC],λi m e=>?_⟩
 unfold sCm at e
 unfold sC
 by_cases hi:i<own.length
 ·rw[Y0H (by simpa using hi),Y06]at e
  cases q:own[i]? with
  |none=>rw[q]at e;cases e
  |some z=>rw[q]at e;cases e
 ·rw[Y0S (by simpa using hi),Y03,Y06]at e
  rw[Y0S (by simpa using hi),Y03,Y06]
  cases q:fr[i - own.length]? with
  |none=>rw[q]at e;cases e
  |some j=>
   rw[q]at e
   have e':σm.getD j none=some m:=Y0C e
   have e2:σm[j]?=some (some m):=by
    rw[Y0x]at e'
    cases q2:σm[j]? with
    |none=>rw[q2]at e';cases e'
    |some o=>rw[q2]at e';rw[show o=some m from e']
   obtain⟨v,hv,r⟩:=rs.2 j m e2
   refine⟨v,?_,r⟩
   show some (σ.getD j none)=_
   rw[Y0x,hv]
   rfl
theorem Zf0{own:List Str}{fr:List Nat}{σ σ':St}{i:Nat}{v:V}(hi:i<own.length)(k:Keep (sC own fr σ) σ'):Keep (sC own fr σ) (σ'.set i (some v)):=by
 refine⟨by rw[List.length_set];exact k.1,λj w h=>?_⟩
 by_cases hij:i=j
 ·subst hij
  exfalso
  unfold sC at h
  rw[Y0H (by simpa using hi),Y06]at h
  cases q:own[i]? with
  |none=>rw[q]at h;cases h
  |some z=>rw[q]at h;cases h
 ·rw[Y16,if_neg hij]
  exact k.2 j w h
theorem ZeC{y:Expr}(h:Zh8 y=true):Zen y:=by
 intro o i
 cases y<;>first|rfl|cases h
theorem Z6X{it:Expr}(h:Z8f it=true)(env:Env):∀x,foldedSetIterable it env x=pure x:=by
 intro x
 cases it<;>first|rfl|cases h
theorem Cok.comp{X:Cx}{G:GI}{Φ:List (Str×SpM)}(c:Cok X G Φ){scope:Scope}{own:List Str}{fr:List Nat}{C:Addr}{fp:List Addr}{s₃:Shared}{H₃:Hp}(hk:scope.kind=.function)(nd:(nC own fr X.N).Nodup):Cok (cxC X scope own fr C fp s₃ H₃) G Φ:=
 ⟨c.room,c.calm,rfl,(by show(if scope.kind.isAnnotationScope then Y2C else scope.kind)=.function;rw[hk];rfl),nd,c.bls,c.gls,c.fnn,c.mon,c.fns,c.mts,c.mks,c.cls⟩
noncomputable def ttOf(K:Y00)(Φ:List (Str×SpM)):IO->TT
 |.none=>tAll
 |.some e=>liT K (wE Φ e)
theorem Z9T{X:Cx}{Φ:List (Str×SpM)}(hΦ:∀(j:Nat) f sp,Φ[j]?=some (f,sp)->MonW sp) {own:List Str} {fr:List Nat} {src:ISr} {tg:ITg} {test:IO} {elt:IE} {sc:Scope} {N:List Str} {t:Expr}
  (h5:Z67 sc N own.length false tg t=true) {σ:St} {H:Hp} {Q:VK} (hw:liE X.K (wE Φ (.comp own fr src tg test elt)) σ H Q):ZcA own fr (liSr X (wSr Φ src)) (gOf X.K tg) (ttOf X.K Φ test) (liE X.K (wE Φ elt)) σ H (λv H'=>∃H2,Thw X H' H2/\Q v H2):=by
 obtain⟨σm,M,rs,rh,hw⟩:=hw
 refine⟨σm,M,rs,rh,mon_sr hΦ src (λS M1 ⟨hz,q⟩=>?_) hw⟩
 intro J H1 k1 rh1 sit D hD
 obtain⟨Jm,j0,j1,j2,j3⟩:=q D (rh1.free hD)
 refine⟨λi m ys H2=>m=S.len - i/\i≤S.len/\Kp H1 H2/\∃mys M2,RH X.K M2 H2/\Jm i mys M2,⟨S.len,rfl,Y1t _,Kp.new hD _,[],_,rh1.put (Kp.new hD (.lst [])) (o:=.lst []) RMs.nil,j0⟩,?_⟩
 rintro i m ys H2 ⟨rfl,hi,k2,mys,M2,rh2,hj⟩
 obtain⟨d1,d2,d3⟩:=j1 i mys M2 hj
 obtain⟨goes,stops⟩:=Z8F sit k2 rh2 d3
 by_cases hlt:i<S.len
 ·obtain⟨go,yld⟩:=goes i hlt
  refine .inr ⟨go,λys' H'=>Kp H1 H'/\∃mys M',RH X.K M' H'/\Jm (i+1) mys M',λys' H' ⟨a,mys',M',b,c⟩=>⟨S.len - (i+1),by lia,rfl,hlt,a,mys',M',b,c⟩,λx H3 y=>?_⟩
  obtain⟨e3,m,hm,rm⟩:=yld x H3 y
  subst e3
  have ht:=j2 i m mys M2 hm hj
  refine Zcz (Ψ:=Keep (sC own fr σ)) (lim:=own.length) (λσ' i v hi k=>Zf0 hi k) tg h5 rm (Zky (rs.mono (k1.trans k2))) ⟨rfl,λ_ _ h=>h⟩ ht λσm' σ' hP rs' keep=>⟨keep,?_⟩
  have eltp:∀{M4:MH} {H5:Hp},Kp H3 H5->RH X.K M4 H5->(wE Φ elt σm' M4 λy M5=>M5 D=some (.lst mys)/\Jm (i+1) (mys++[y]) (updM M5 D (.lst (mys++[y]))))->
    liE X.K (wE Φ elt) σ' H5 λy H6=>∃zs,H6 D=some (.lst zs)/\zs.length<sizeLine/\Kp H1 (upd H6 D (.lst (zs++[y])))/\∃mys M',RH X.K M' (upd H6 D (.lst (zs++[y])))/\Jm (i+1) mys M':=fun{M4 H5} k5 rh5 q=>by
   refine⟨σm',M4,rs'.mono k5,rh5,Z04 hΦ elt (λy M5 ⟨hd,hj'⟩=>?_) q⟩
   intro v H6 k6 r6 rh6
   obtain⟨zs,e,rz⟩:=rh6.lst hd
   have ku:=Kp.upd e rfl (.lst (zs++[v]))
   exact⟨zs,e,by rw[<- rz.length];lia,k2.trans (k5.trans (k6.trans ku)),_,_,rh6.put ku (o:=.lst (mys++[y])) ((rz.append (.cons r6 .nil)).mono ku),hj'⟩
  cases test with
  |none=>
   rw[wI]at hP
   rw[if_pos rfl]at hP
   rw[ttOf]
   refine Zkb ?_
   dsimp only
   rw[if_pos rfl]
   exact eltp (Kp.refl _) rh2 hP
  |some e=>
   refine⟨σm',M2,rs',rh2,Z04 hΦ e (λv M4 ⟨b,eb,q⟩=>⟨b,eb,λH5 k5 rh5=>Z16 (λq=>eltp k5 rh5 q) (λq=>⟨k2.trans k5,_,_,rh5,q⟩) q⟩) hP⟩
 ·refine .inl ⟨stops i (by lia),?_⟩
  have e:i=S.len:=by lia
  subst e
  obtain⟨H',th,k3,rh3⟩:=Z6U sit rh2 (ZfT d3)
  exact⟨H',th,j3 mys M2 hj _ _ (k1.trans (k2.trans k3)) (.ref D) rh3⟩
theorem ZbA{K:Y00}{Φ:List (Str×SpM)}(hΦ:∀(j:Nat) f sp,Φ[j]?=some (f,sp)->MonW sp) {op op':CmpOp} {a b d:IE} {σ:St} {H:Hp} {Q:VK} (hw:liE K (wE Φ (.chn op op' a b d)) σ H Q):
  ZcB (li2 K (wCmp op)) (li2 K (wCmp op')) (liE K (wE Φ a)) (liE K (wE Φ b)) (liE K (wE Φ d)) σ H Q:=by
 obtain⟨σm,M,rs,rh,hw⟩:=hw
 rw[Zid]at hw
 refine⟨σm,M,rs,rh,Z04 hΦ a (λx M1 q1=>?_) hw⟩
 intro v H1 k1 r1 rh1
 refine⟨σm,M1,rs.mono k1,rh1,Z04 hΦ b (λy M2 q2=>?_) q1⟩
 intro u H2 k2 r2 rh2
 refine⟨x,y,M2,r1.mono k2,r2,rh2,Z5X op (λz M3 ⟨k,e,q3⟩=>?_) q2⟩
 subst e
 intro z H3 k3 r3 rh3
 cases r3
 refine⟨k,rfl,Z16 (λq=>?_) (λq=>?_) q3⟩
 ·refine⟨σm,M3,rs.mono (k1.trans (k2.trans k3)),rh3,Z04 hΦ d (λw M4 q4=>?_) q⟩
  intro w' H4 k4 r4 rh4
  exact⟨y,w,M4,r2.mono (k3.trans k4),r4,rh4,Z5X op' (λm M' hq=>hq.on (k1.trans (k2.trans (k3.trans k4)))) q4⟩
 ·exact q _ _ (k1.trans (k2.trans k3)) (.bl _) rh3
noncomputable def trOf(K:Y00)(Φ:List (Str×SpM)):IPs->List (TE×TE)
 |.nil=>[]
 |.cons k v r=>(liE K (wE Φ k),liE K (wE Φ v))::trOf K Φ r
noncomputable def aob:IE->Bool
 |.and ..=>true
 |.or ..=>true
 |_=>false
structure Snd (X:Cx) (Φ:List (Str×SpM)) (ie:IE) (e:Expr):Prop where
 pe:PE X e (liE X.K (wE Φ ie))
 pt:tok ie=true->PT X e (liT X.K (wE Φ ie))
 pw:tok ie=true->aob ie=true->PW X e (liT X.K (wE Φ ie))
theorem Snd.plain{X:Cx}{G:GI}{Φ:List (Str×SpM)}{ie:IE}{e:Expr}(c:Cok X G Φ)(pe:PE X e (liE X.K (wE Φ ie)))(he:∀whole,isTrue e X.env whole=(do let v<- whole;standAt e.pos;holding [v] (truthy v)))(na:aob ie=false):Snd X Φ ie e:=
 ⟨pe,λ_=>(Zjb pe he).weak λσ H Q h=>ZaE (t:=wE Φ ie) (Z04 c.mon ie) h,λ_ h=>by rw[na]at h;cases h⟩
mutual
theorem sE{G:GI}{Φ:List (Str×SpM)}:∀(ie:IE) {X:Cx} {e:Expr},Cok X G Φ->chkE G ie X.env.scope X.N e=true->Snd X Φ ie e
 |.var i,X,e,c,h=>by
  obtain⟨x,p,rfl,h1,h2,h3,h4⟩:=Zhr h
  refine .plain c ?_ (λ_=>rfl) rfl
  refine(Z9v h1 (ZfB h2) h3 h4).weak λσ H Q hw=>?_
  obtain⟨σm,M,rs,rh,hw⟩:=hw
  rw[Zia]at hw
  obtain⟨v,e,q⟩:=hw
  obtain⟨u,hu,r⟩:=rs.2 i v e
  exact⟨u,hu,q _ _ (Kp.refl _) r rh⟩
 |.int i,X,e,c,h=>by
  obtain⟨k,p,rfl⟩:=Zhy h
  refine .plain c ?_ (λ_=>rfl) rfl
  refine pe_int.weak λσ H Q hw=>?_
  obtain⟨σm,M,rs,rh,hw⟩:=hw
  exact hw _ _ (Kp.refl _) (.int i) rh
 |.str i,X,e,c,h=>by
  obtain⟨k,p,rfl⟩:=Zht h
  refine .plain c ?_ (λ_=>rfl) rfl
  refine pe_str.weak λσ H Q hw=>?_
  obtain⟨σm,M,rs,rh,hw⟩:=hw
  exact hw _ _ (Kp.refl _) (.str i) rh
 |.bl i,X,e,c,h=>by
  obtain⟨k,p,rfl⟩:=ZjS h
  refine .plain c ?_ (λ_=>rfl) rfl
  refine pe_bl.weak λσ H Q hw=>?_
  obtain⟨σm,M,rs,rh,hw⟩:=hw
  exact hw _ _ (Kp.refl _) (.bl i) rh
 |.non,X,e,c,h=>by
  obtain⟨k,p,rfl⟩:=Zhw h
  refine .plain c ?_ (λ_=>rfl) rfl
  refine pe_non.weak λσ H Q hw=>?_
  obtain⟨σm,M,rs,rh,hw⟩:=hw
  exact hw _ _ (Kp.refl _) .non rh
 |.glb x i,X,e,c,h=>by
  obtain⟨p,rfl,h1,h2⟩:=Zhz h
  obtain⟨g1,g2,g3⟩:=Z2N h2
  obtain⟨tk,hm⟩:=c.gls x i h1
  refine .plain c ?_ (λ_=>rfl) rfl
  refine(Zay (v:=.int i) g1 hm ⟨tk,rfl⟩ g2).weak λσ H Q hw=>?_
  obtain⟨σm,M,rs,rh,hw⟩:=hw
  exact hw _ _ (Kp.refl _) (.int i) rh
 |.ty t,X,e,c,h=>by
  obtain⟨p,rfl,h0,h1,h2⟩:=ZjN h
  obtain⟨g1,g2,g3⟩:=Z2N h2
  refine .plain c ?_ (λ_=>rfl) rfl
  refine(ZgW (v:=.ty t.name) g1 (c.bls _ h1) (ZhV h0) rfl g3 g2).weak λσ H Q hw=>?_
  obtain⟨σm,M,rs,rh,hw⟩:=hw
  exact hw _ _ (Kp.refl _) (.ty t) rh
 |.bin op a b,X,e,c,h=>by
  obtain⟨l,r,p,rfl,h1,h2⟩:=ZhC h
  refine .plain c ?_ (λ_=>rfl) rfl
  refine(Zlx (Zjo op) (sE a c h1).pe (sE b c h2).pe).weak λσ H Q hw=>?_
  have:wE Φ (.bin op a b)=λσ M Q=>wE Φ a σ M λx M1=>wE Φ b σ M1 λy M2=>wBin op x y M2 Q:=rfl
  rw[this]at hw
  exact Zhk (ta:=wE Φ a) (tb:=wE Φ b) (w:=wBin op) (Z04 c.mon a) (Z04 c.mon b) (Zde op) hw
 |.neg a,X,e,c,h=>absurd h Y05
 |.not a,X,e,c,h=>by
  obtain⟨l,p,rfl,h1⟩:=Zhv h
  have ih:=sE a c h1
  refine⟨(ZfP ih.pe).weak λσ H Q hw=>?_,λht=>(Zjc (ih.pt ht)).weak λσ H Q hw=>?_,λ_ z=>by cases z⟩
  ·obtain⟨σm,M,rs,rh,hw⟩:=hw
   rw[Zgn]at hw
   refine⟨σm,M,rs,rh,Z04 c.mon a (λx M1 ⟨i,e,q⟩=>?_) hw⟩
   subst e
   intro v H1 k1 r1 rh1
   cases r1
   exact⟨i,rfl,q _ _ k1 (.bl _) rh1⟩
  ·obtain⟨σm,M,rs,rh,hw⟩:=hw
   rw[Zgn]at hw
   refine⟨σm,M,rs,rh,Z04 c.mon a (λx M1 ⟨i,e,b,e2,q⟩=>⟨i,e,λH' k rh'=>?_⟩) hw⟩
   cases e2
   exact q H' k rh'
 |.cmp op a b,X,e,c,h=>by
  obtain⟨l,r,p,rfl,h1,h2,h3⟩:=ZhA h
  have rd:∀σ H Q,liE X.K (wE Φ (.cmp op a b)) σ H Q->tOp (li2 X.K (wCmp op)) (liE X.K (wE Φ a)) (liE X.K (wE Φ b)) σ H Q:=λσ H Q hw=>by
   have:wE Φ (.cmp op a b)=λσ M Q=>wE Φ a σ M λx M1=>wE Φ b σ M1 λy M2=>wCmp op x y M2 Q:=rfl
   rw[this]at hw
   exact Zhk (ta:=wE Φ a) (tb:=wE Φ b) (w:=wCmp op) (Z04 c.mon a) (Z04 c.mon b) (Z5X op) hw
  refine⟨(ZgU (Z8d c.room op) (sE a c h1).pe (sE b c h2).pe h3).weak rd,λ_=>(ZgL (Z8d c.room op) (sE a c h1).pe (sE b c h2).pe h3).weak λσ H Q hw=>?_,λ_ z=>by cases z⟩
  exact rd σ H _ (ZaE (t:=wE Φ (.cmp op a b)) (Z04 c.mon _) hw)
 |.chn op op' a b d,X,e,c,h=>by
  obtain⟨l,m,r,p,rfl,h1,h2,h3,h4⟩:=ZhB h
  refine⟨(ZeI (Z8d c.room op) (Z8d c.room op') (sE a c h1).pe (sE b c h2).pe (sE d c h3).pe h4).weak λσ H Q hw=>ZbA c.mon hw,
   λ_=>(ZeA (Z8d c.room op) (Z8d c.room op') (sE a c h1).pe (sE b c h2).pe (sE d c h3).pe h4).weak λσ H Q hw=>?_,λ_ z=>by cases z⟩
  exact ZbA c.mon (ZaE (t:=wE Φ (.chn op op' a b d)) (Z04 c.mon _) hw)
 |.and a b,X,e,c,h=>by
  obtain⟨l,r,rest,p,rfl,h1,h2⟩:=ZhD h
  have ih:=sE a c h1
  have hb:PE X (.BoolOp .And (r::rest) p) (liE X.K (wE Φ b)):=by
   rcases h2 with⟨rfl,h2⟩|h2
   ·exact Zd3 (sE b c h2).pe
   ·exact(sE b c h2).pe
  have hw':tok (.and a b)=true->PW X (.BoolOp .And (l::r::rest) p) (liT X.K (wE Φ (.and a b))):=λht=>by
   have ht:(tok a&&tok b)=true:=ht
   rw[Y04]at ht
   have hb2:PW X (.BoolOp .And (r::rest) p) (liT X.K (wE Φ b)):=by
    rcases h2 with⟨rfl,h2⟩|h2
    ·exact pw_and1 ((sE b c h2).pt ht.2)
    ·refine(sE b c h2).pw ht.2 ?_
     cases b<;>first|rfl|exact absurd h2 Y05
   refine(pw_and (ih.pt ht.1) hb2).weak λσ H Q hw=>?_
   obtain⟨σm,M,rs,rh,hw⟩:=hw
   rw[Zgo]at hw
   refine⟨σm,M,rs,rh,Z04 c.mon a (λx M1 ⟨k,e,q⟩=>⟨k,e,λH1 k1 rh1=>?_⟩) hw⟩
   refine Z16 (λq=>⟨σm,M1,rs.mono k1,rh1,Zg3 (t:=wE Φ b) (Z04 c.mon b) k1 q⟩) (λq=>let⟨b,e,q⟩:=q;MV.noConfusion e λeb=>eb▸q H1 k1 rh1) q
  refine⟨(ZfR ih.pe hb).weak λσ H Q hw=>?_,λht=>(hw' ht).pt,λht _=>hw' ht⟩
  obtain⟨σm,M,rs,rh,hw⟩:=hw
  rw[Zgo]at hw
  refine⟨σm,M,rs,rh,Z04 c.mon a (λx M1 ⟨k,e,q⟩=>?_) hw⟩
  subst e
  intro v H1 k1 r1 rh1
  cases r1
  refine⟨k,rfl,Z16 (λq=>⟨σm,M1,rs.mono k1,rh1,Z04 c.mon b (λm M' hq=>hq.on k1) q⟩) (λq=>q _ _ k1 (.bl _) rh1) q⟩
 |.or a b,X,e,c,h=>by
  obtain⟨l,r,rest,p,rfl,h1,h2⟩:=ZjP h
  have ih:=sE a c h1
  have hb:PE X (.BoolOp .Or (r::rest) p) (liE X.K (wE Φ b)):=by
   rcases h2 with⟨rfl,h2⟩|h2
   ·exact Zd3 (sE b c h2).pe
   ·exact(sE b c h2).pe
  have hw':tok (.or a b)=true->PW X (.BoolOp .Or (l::r::rest) p) (liT X.K (wE Φ (.or a b))):=λht=>by
   have ht:(tok a&&tok b)=true:=ht
   rw[Y04]at ht
   have hb2:PW X (.BoolOp .Or (r::rest) p) (liT X.K (wE Φ b)):=by
    rcases h2 with⟨rfl,h2⟩|h2
    ·exact pw_or1 ((sE b c h2).pt ht.2)
    ·refine(sE b c h2).pw ht.2 ?_
     cases b<;>first|rfl|exact absurd h2 Y05
   refine(pw_or (ih.pt ht.1) hb2).weak λσ H Q hw=>?_
   obtain⟨σm,M,rs,rh,hw⟩:=hw
   rw[x_or]at hw
   refine⟨σm,M,rs,rh,Z04 c.mon a (λx M1 ⟨k,e,q⟩=>⟨k,e,λH1 k1 rh1=>?_⟩) hw⟩
   refine Z16 (λq=>let⟨b,e,q⟩:=q;MV.noConfusion e λeb=>eb▸q H1 k1 rh1) (λq=>⟨σm,M1,rs.mono k1,rh1,Zg3 (t:=wE Φ b) (Z04 c.mon b) k1 q⟩) q
  refine⟨(Zlw ih.pe hb).weak λσ H Q hw=>?_,λht=>(hw' ht).pt,λht _=>hw' ht⟩
  obtain⟨σm,M,rs,rh,hw⟩:=hw
  rw[x_or]at hw
  refine⟨σm,M,rs,rh,Z04 c.mon a (λx M1 ⟨k,e,q⟩=>?_) hw⟩
  subst e
  intro v H1 k1 r1 rh1
  cases r1
  refine⟨k,rfl,Z16 (λq=>q _ _ k1 (.bl _) rh1) (λq=>⟨σm,M1,rs.mono k1,rh1,Z04 c.mon b (λm M' hq=>hq.on k1) q⟩) q⟩
 |.ife d a b,X,e,c,h=>absurd h Y05
 |.tup es,X,e,c,h=>by
  obtain⟨xs,k,p,rfl,h1⟩:=Zhs h
  refine .plain c ?_ (λ_=>rfl) rfl
  refine(ZfO (sA es c h1)).weak λσ H Q hw=>?_
  obtain⟨σm,M,rs,rh,hw⟩:=hw
  refine⟨σm,M,rs,rh,mon_es c.mon es (λms M1 ⟨hz,q⟩=>?_) hw⟩
  intro vs H1 k1 r1 rh1
  refine⟨by rw[<- r1.length];exact hz,λp hp=>?_⟩
  have k2:=Kp.new hp (.tup vs)
  exact q _ _ (k1.trans k2) (.tup Z13 (r1.mono k2)) (rh1.kept hp _)
 |.lst es,X,e,c,h=>by
  obtain⟨xs,p,rfl,h1⟩:=Zhx h
  refine .plain c ?_ (λ_=>rfl) rfl
  refine(ZfQ (sA es c h1)).weak λσ H Q hw=>?_
  obtain⟨σm,M,rs,rh,hw⟩:=hw
  refine⟨σm,M,rs,rh,mon_es c.mon es (λms M1 ⟨hz,q⟩=>?_) hw⟩
  intro vs H1 k1 r1 rh1
  refine⟨by rw[<- r1.length];exact hz,λp hp=>?_⟩
  have k2:=Kp.new hp (.lst vs)
  exact q p (rh1.free hp) _ _ (k1.trans k2) (.ref p) (rh1.put k2 (r1.mono k2))
 |.dic,X,e,c,h=>absurd h Y05
 |.ix a b,X,e,c,h=>by
  obtain⟨l,r,p,rfl,h1,h2,h3⟩:=ZjR h
  refine .plain c ?_ (λ_=>rfl) rfl
  refine(Zly (ZjL (by have:=c.room;lia)) (sE a c h1).pe (sE b c h2).pe (ZeC h3)).weak λσ H Q hw=>?_
  have:wE Φ (.ix a b)=λσ M Q=>wE Φ a σ M λx M1=>wE Φ b σ M1 λy M2=>wIx x y M2 Q:=rfl
  rw[this]at hw
  exact Zhk (ta:=wE Φ a) (tb:=wE Φ b) (w:=wIx) (Z04 c.mon a) (Z04 c.mon b) ZfX hw
 |.sl a lo hi,X,e,c,h=>by
  obtain⟨x,l,u,p,p2,rfl,h1,h2,h3⟩:=ZjO h
  refine .plain c ?_ (λ_=>rfl) rfl
  refine(ZeG Zip (sE a c h1).pe (sO lo c h2) (sO hi c h3)).weak λσ H Q hw=>?_
  obtain⟨σm,M,rs,rh,hw⟩:=hw
  refine⟨σm,M,rs,rh,Z04 c.mon a (λx M1 q1=>?_) hw⟩
  intro v H1 k1 r1 rh1
  refine⟨σm,M1,rs.mono k1,rh1,mon_o c.mon lo (λl M2 q2=>?_) q1⟩
  intro H2 k2 rh2
  refine⟨σm,M2,rs.mono (k1.trans k2),rh2,mon_o c.mon hi (λu M3 q3=>?_) q2⟩
  intro H3 k3 rh3
  exact⟨x,M3,r1.mono (k2.trans k3),rh3,ZfW (λm M' hq=>hq.on (k1.trans (k2.trans k3))) q3⟩
 |.call j a es,X,e,c,h=>by
  obtain⟨f,p,x,xs,p2,rfl,h1,h2,h3,h4⟩:=Zf5 h
  obtain⟨g1,g2,g3⟩:=Z2N h2
  obtain⟨sp,hj⟩:=c.fnn j f h1
  obtain⟨k,fa,fd,ps,hr,F,hm,hk,hb⟩:=c.fns j f sp h1 hj
  have ha:PA X (x::xs) (Z6Z (liE X.K (wE Φ a)) (liA X.K (wEs Φ es))):=Z0r (sE a c h3).pe (sA es c h4) (Z0a h3)
  refine .plain c ?_ (λ_=>rfl) rfl
  refine(Zd6 (E:=E0) F hr g1 hm hk hb .nil ZlC ha g2 (Z0a h3) (Z36 (Z2k (pos:=p2) h4)).2).weak λσ H Q hw=>?_
  obtain⟨σm,M,rs,rh,hw⟩:=hw
  rw[Zfy]at hw
  refine⟨σm,M,rs,rh,Z04 c.mon a (λv M1 q1=>?_) hw⟩
  intro u H1 k1 r1 rh1
  refine⟨σm,M1,rs.mono k1,rh1,mon_es c.mon es (λvs M2 ⟨f',sp',e,q2⟩=>?_) q1⟩
  rw[hj]at e
  cases e
  intro us H2 k2 r2 rh2
  refine⟨v::vs,M2,?_,rh2,c.mon j f sp hj (λm M' hq=>hq.on (k1.trans k2)) q2⟩
  rw[Y1i]
  exact .cons (r1.mono k2) r2
 |.bi f a es,X,e,c,h=>by
  obtain⟨p,x,xs,p2,rfl,h1,h2,h3,h4⟩:=ZjT h
  obtain⟨g1,g2,g3⟩:=Z2N h2
  have ha:PA X (x::xs) (Z6Z (liE X.K (wE Φ a)) (liA X.K (wEs Φ es))):=Z0r (sE a c h3).pe (sA es c h4) (Z0a h3)
  have hv:=ZhW f
  have hcall:=ZhT (X:=X) c.calm f
  have hp:PE X (.Call (.Name (f.name:Str) p) (x::xs) [] p2) (tCB (liW X.K (wBi f)) (Z6Z (liE X.K (wE Φ a)) (liA X.K (wEs Φ es)))):=by
   cases hf:f.val<;>rw[hf]at hv hcall<;>first
    |exact Z58 hcall g1 (c.bls _ h1) hv ha g3 g2 (Z0a h3) (Z36 (Z2k (pos:=p2) h4)).2
    |exact Zd4 hcall g1 (c.bls _ h1) hv ha g3 g2 (Z0a h3) (Z36 (Z2k (pos:=p2) h4)).2
    |(cases f<;>cases hf)
  refine .plain c ?_ (λ_=>rfl) rfl
  refine hp.weak λσ H Q hw=>?_
  obtain⟨σm,M,rs,rh,hw⟩:=hw
  refine⟨σm,M,rs,rh,Z04 c.mon a (λv M1 q1=>?_) hw⟩
  intro u H1 k1 r1 rh1
  refine⟨σm,M1,rs.mono k1,rh1,mon_es c.mon es (λvs M2 q2=>?_) q1⟩
  intro us H2 k2 r2 rh2
  exact⟨v::vs,M2,.cons (r1.mono k2) r2,rh2,Zg0 f (λm M' hq=>hq.on (k1.trans k2)) q2⟩
 |.b2 f a,X,e,c,h=>by
  obtain⟨p,p',x,p2,p2',rfl,h1,h2,h3,h4,h5⟩:=ZjU h
  obtain⟨g1,g2,g3⟩:=Z2N h3
  obtain⟨k1,k2,k3⟩:=Z2N h4
  have hv:bootBuiltins (f.out:Str)=some f.outV:=by cases f<;>decide+kernel
  have hv':bootBuiltins (f.inn:Str)=some (.type f.inn):=by cases f<;>decide+kernel
  have hp:PE X (.Call (.Name (f.out:Str) p) [.Call (.Name (f.inn:Str) p') [x] [] p2'] [] p2) (λσ H Q=>liE X.K (wE Φ a) σ H λv H1=>li1 X.K (wB2 f) v H1 Q):=by
   have hc:=ZhU (X:=X) c.calm f
   cases f with
   |lrng=>exact Zd5 (p:=p) (p':=p') (pos:=p2) (pos':=p2') hc g1 (c.bls _ h1) hv k1 (c.bls _ h2) hv' (sE a c h5).pe g3 g2 k3 k2 (Z0a h5)
   |ssrt=>exact Z8Q (p:=p) (p':=p') (pos:=p2) (pos':=p2') hc g1 (c.bls _ h1) hv k1 (c.bls _ h2) hv' (sE a c h5).pe g3 g2 k3 k2 (Z0a h5)
   |lset=>exact Z8Q (p:=p) (p':=p') (pos:=p2) (pos':=p2') hc g1 (c.bls _ h1) hv k1 (c.bls _ h2) hv' (sE a c h5).pe g3 g2 k3 k2 (Z0a h5)
   |tset=>exact Z8Q (p:=p) (p':=p') (pos:=p2) (pos':=p2') hc g1 (c.bls _ h1) hv k1 (c.bls _ h2) hv' (sE a c h5).pe g3 g2 k3 k2 (Z0a h5)
  refine .plain c ?_ (λ_=>rfl) rfl
  refine hp.weak λσ H Q hw=>?_
  obtain⟨σm,M,rs,rh,hw⟩:=hw
  refine⟨σm,M,rs,rh,Z04 c.mon a (λv M1 q1=>?_) hw⟩
  intro u H1 k1 r1 rh1
  exact⟨v,M1,r1,rh1,Zg1 f (λm M' hq=>hq.on k1) q1⟩
 |.st3 a,X,e,c,h=>absurd h Y05
 |.mxd a,X,e,c,h=>absurd h Y05
 |.mt m o es,X,e,c,h=>by
  obtain⟨ob,ap,args,cp,rfl,h1,h2,h3,h4⟩:=ZjQ h
  have slot:PySem.Slot m.ty (m.name:Str) m.id/\typeOf (.builtin m.id)=pure (.type "method_descriptor"):=by
   cases m
   ·exact⟨PySem.F.slot_list_append,PySem.F.type_list_append⟩
   ·exact⟨PySem.F.slot_list_extend,PySem.F.type_list_extend⟩
   ·exact⟨PySem.F.slot_list_reverse,PySem.F.type_list_reverse⟩
   ·exact⟨PySem.F.slot_list_clear,PySem.F.type_list_clear⟩
   ·exact⟨Y3i,Y3j⟩
   ·exact⟨Y3i,Y3j⟩
   ·exact⟨PySem.F.slot_dict_clear,PySem.F.type_dict_clear⟩
   ·exact⟨Y3k,Y3l⟩
   ·exact⟨Y3k,Y3l⟩
   ·exact⟨Y3h,PySem.F.type_str_join⟩
   ·exact⟨PySem.F.slot_list_remove,PySem.F.type_list_remove⟩
  have plain:PlainAttrs m.ty:=by
   cases m<;>first|exact PySem.F.plainAttrs_list|exact PySem.F.plainAttrs_dict|exact PySem.F.plainAttrs_str
  have hu1:X.A.units+1<cLine:=by have:=c.room;lia
  have tyL:∀{H1:Hp} {M1:MH} {mx:MV} {v:V},RH X.K M1 H1->RM X.K H1 mx v->mtOk m mx M1->tyV X.K m.ty v H1:=by
   intro H1 M1 mx v rh r hm
   cases m
   case join=>
    obtain⟨z,rfl⟩:=hm
    cases r
    exact rfl
   case dclear|dget|dgetD=>
    obtain⟨a,kvs,rfl,hm⟩:=hm
    cases r
    obtain⟨vs,e,_⟩:=rh.dic hm
    exact .inr (.inr (.inl ⟨rfl,.inl ⟨vs,e⟩⟩))
   all_goals
    obtain⟨a,xs,rfl,hm⟩:=hm
    cases r
    obtain⟨vs,e,_⟩:=rh.lst hm
    exact .inl ⟨rfl,vs,SqL.of e⟩
  refine .plain c ?_ (λ_=>rfl) rfl
  cases args with
  |nil=>
   refine(Zjh plain slot.1 slot.2 (ZfV hu1 m) (sE o c h2).pe (Zad h2) h1).weak λσ H Q hw=>?_
   obtain⟨σm,M,rs,rh,hw⟩:=hw
   refine⟨σm,M,rs,rh,Z04 c.mon o (λv M1 ⟨q0,q1⟩=>?_) hw⟩
   intro u H1 k1 r1 rh1
   cases es with
   |cons _ _=>exact absurd h3 Y05
   |nil=>
    exact⟨tyL rh1 r1 q0,v,[],M1,r1,.nil,rh1,Zdd (λm M' hq=>hq.on k1) q1⟩
  |cons x xs=>
   cases es with
   |nil=>cases Z8p h3
   |cons a es=>
    have h3':=h3
    obtain⟨x',xs',e',h3⟩:=Z7o h3
    cases e'
    have ha:=sA (.cons a es) c h3'
    have hall:=Z36 (pos:=cp) (Z2k (env:=X.env) (pos:=cp) h3')
    refine(ZlA plain slot.1 slot.2 (ZfV hu1 m) (sE o c h2).pe ha (Zad h2) ?_ h1 (Z0a h3.1) (Z36 (Z2k (pos:=cp) h3.2)).2).weak λσ H Q hw=>?_
    ·rw[hall.1]
     simp only[Y3I,Y04,decide_eq_true_eq]
     refine⟨rfl,?_⟩
     simp at h4 ⊢
     lia
    obtain⟨σm,M,rs,rh,hw⟩:=hw
    refine⟨σm,M,rs,rh,Z04 c.mon o (λv M1 ⟨q0,q1⟩=>?_) hw⟩
    intro u H1 k1 r1 rh1
    refine⟨tyL rh1 r1 q0,σm,M1,rs.mono k1,rh1,mon_es c.mon (.cons a es) (λvs M2 q2=>?_) q1⟩
    intro us H2 k2 r2 rh2
    exact⟨v,vs,M2,r1.mono k2,r2,rh2,Zdd (λm M' hq=>hq.on (k1.trans k2)) q2⟩
 |.comp own fr src tg test elt,X,e,c,h=>by
  obtain⟨x,t,it,ifs,scope,p,rfl,h1,h2,h3,h4,h5,h6,h7⟩:=Zbl h
  refine .plain c ?_ (λ_=>rfl) rfl
  refine(ZeH own fr (g:=gOf X.K tg) (te:=liE X.K (wE Φ elt)) (λe s h=>by rw[c.nox]at h;exact h) c.calm h1 (sSr src (tg:=t) c h4) (λC fp s₃ H₃=>sTg (X:=cxC X scope own fr C fp s₃ H₃) (lim:=own.length) (all:=false) c.calm h3 (λz=>by cases z) tg h5) (tt:=ttOf X.K Φ test) (λC fp s₃ H₃=>sI (X:=cxC X scope own fr C fp s₃ H₃) test (c.comp (Z2Q h1).kind h3) h6)
   (λC fp s₃ H₃=>(sE (X:=cxC X scope own fr C fp s₃ H₃) elt (c.comp (Z2Q h1).kind h3) h7).pe) (Z6X h2 _)).thaw.weak λσ H Q hw=>?_
  exact Z9T c.mon h5 hw
 |.fld cn o f,X,e,c,h=>absurd h Y05
 |.mcall j cn m o es,X,e,c,h=>absurd h Y05
 |.make j cn a es,X,e,c,h=>absurd h Y05
 |.disp ps,X,e,c,h=>absurd h Y05
theorem sP{G:GI}{Φ:List (Str×SpM)}:∀(ps:IPs) {X:Cx} {pos:Pos} {ks:List (Option Expr)} {vs:List Expr},Cok X G Φ->Ze0 G ps X.env.scope X.N ks vs=true->PPs X pos ks vs (trOf X.K Φ ps)
 |.nil,X,pos,ks,vs,c,h=>by
  obtain⟨rfl,rfl⟩:=Zc4 h
  exact ZgN
 |.cons k v r,X,pos,ks,vs,c,h=>by
  obtain⟨x,ks',y,vs',rfl,rfl,h1,h2,h3⟩:=ZaM h
  exact ZeB (sE k c h1).pe (sE v c h2).pe (sP r c h3)
theorem sA{G:GI}{Φ:List (Str×SpM)}:∀(ies:IEs) {X:Cx} {es:List Expr},Cok X G Φ->chkEs G ies X.env.scope X.N es=true->PA X es (liA X.K (wEs Φ ies))
 |.nil,X,es,c,h=>by
  cases es with
  |cons _ _=>cases Z8p h
  |nil=>
   refine pa_nil.weak λσ H Q hw=>?_
   obtain⟨σm,M,rs,rh,hw⟩:=hw
   exact hw _ _ (Kp.refl _) .nil rh
 |.cons a as,X,es,c,h=>by
  cases es with
  |nil=>cases h
  |cons x xs=>
   obtain⟨x',xs',e',h⟩:=Z7o h
   cases e'
   refine(Z0r (sE a c h.1).pe (sA as c h.2) (Z0a h.1)).weak λσ H Q hw=>?_
   have:wEs Φ (.cons a as)=λσ M Q=>wE Φ a σ M λv M1=>wEs Φ as σ M1 λvs M2=>Q (v::vs) M2:=rfl
   rw[this]at hw
   exact Zhl (te:=wE Φ a) (t:=wEs Φ as) (Z04 c.mon a) (mon_es c.mon as) hw
theorem sO{G:GI}{Φ:List (Str×SpM)}:∀(io:IO) {X:Cx} {e:Option Expr},Cok X G Φ->chkO G io X.env.scope X.N e=true->PO X e (liO X.K (wO Φ io))
 |.none,X,e,c,h=>by
  cases e with
  |some _=>cases Zc6 h
  |none=>
   intro pins s σ H Q I hw
   refine ZgP pins s σ H Q I ?_
   obtain⟨σm,M,rs,rh,hw⟩:=hw
   exact hw _ (Kp.refl _) rh
 |.some a,X,e,c,h=>by
  cases e with
  |none=>exact absurd h Y05
  |some x=>
   obtain⟨x',e',h⟩:=Zc5 h
   cases e'
   intro pins s σ H Q I hw
   refine ZgO (sE a c h).pe pins s σ H Q I ?_
   obtain⟨σm,M,rs,rh,hw⟩:=hw
   refine⟨σm,M,rs,rh,Z04 c.mon a (λv M1 ⟨i,e,q⟩=>?_) hw⟩
   subst e
   intro u H1 k1 r1 rh1
   cases r1
   exact⟨i,rfl,q H1 k1 rh1⟩
theorem sI{G:GI}{Φ:List (Str×SpM)}:∀(io:IO) {X:Cx} {es:List Expr},Cok X G Φ->chkI G io X.env.scope X.N es=true->PTs X es (ttOf X.K Φ io)
 |.none,X,es,c,h=>by
  cases es with
  |cons _ _=>cases Zc8 h
  |nil=>exact .inl ⟨rfl,rfl⟩
 |.some a,X,es,c,h=>by
  obtain⟨x,rfl,h1,h2⟩:=Zc7 h
  exact .inr ⟨x,rfl,(sE a c h2).pt h1⟩
theorem sSr{G:GI}{Φ:List (Str×SpM)}:∀(s:ISr) {X:Cx} {tg e:Expr},Cok X G Φ->chkSr G s X.env.scope X.N e=true->PI X tg e (liSr X (wSr Φ s))
 |.seq a,X,tg,e,c,h=>by
  refine(ZgS (sE a c h).pe).weak λσ H R hw=>?_
  obtain⟨σm,M,rs,rh,hw⟩:=hw
  refine⟨σm,M,rs,rh,Z04 c.mon a (λv M1 q=>?_) hw⟩
  intro u H1 k1 r1 rh1
  rcases q with⟨xs,e,q⟩|⟨b,xs,e,hb,q⟩|⟨b,kvs,e,hb,q⟩|⟨z,e,q⟩
  ·rcases e with e|e
   ·subst e
    cases r1 with
    |tup h1 q1=>exact .inl ⟨_,rfl,.inr (.inl ⟨_,SqT.of h1,q _ _ k1 rh1 (.inl ⟨_,_,h1,q1,rfl⟩)⟩)⟩
   ·subst e
    cases r1 with
    |frl h1 q1=>exact .inl ⟨_,rfl,.inl ⟨_,h1.sq,q _ _ k1 rh1 (.inr ⟨_,_,h1,q1,rfl⟩)⟩⟩
  ·subst e
   cases r1
   obtain⟨vs,e2,_⟩:=rh1.lst hb
   exact .inl ⟨_,rfl,.inl ⟨_,SqL.of e2,q _ _ k1 rh1 rfl⟩⟩
  ·subst e
   cases r1
   obtain⟨vs,e2,r2,nd⟩:=rh1.dic hb
   refine .inl ⟨_,rfl,.inr (.inr ⟨vs,e2,λo nf=>?_⟩)⟩
   have k:=Kp.upd e2 rfl (.frz o (.dK vs))
   exact q o _ _ (k1.trans k) (rh1.put k (o:=.fdic o kvs) ⟨rfl,r2.mono k,nd⟩) ⟨rfl,nf⟩
  ·subst e
   cases r1
   exact .inr ⟨z,rfl,q _ _ k1 rh1 rfl⟩
 |.rng a,X,tg,e,c,h=>by
  obtain⟨p,x,p2,rfl,h2,h3,h4⟩:=Zhu h
  refine(Zd1 (Z2N h3).1 (c.bls _ h2) (Z0r (sE a c h4).pe pa_nil (Z0a h4)) (Z0a h4)).weak λσ H R hw=>?_
  obtain⟨σm,M,rs,rh,hw⟩:=hw
  refine⟨σm,M,rs,rh,Z04 c.mon a (λv M1 ⟨j,e,q1,q2,q⟩=>?_) hw⟩
  subst e
  intro u H1 k1 r1 rh1
  cases r1
  exact⟨j,rfl,q1,q2,q _ _ k1 rh1 rfl⟩
 |.rng2 a b,X,tg,e,c,h=>by
  obtain⟨p,x,y,p2,rfl,h2,h3,h4,h5⟩:=Zf4 h
  refine(Zd0 (Z2N h3).1 (c.bls _ h2) (Z0r (sE a c h4).pe (Z0r (sE b c h5).pe pa_nil (Z0a h5)) (Z0a h4)) (by rw[Z0a h4,Z0a h5];rfl) (Z0a h5)).weak λσ H R hw=>?_
  obtain⟨σm,M,rs,rh,hw⟩:=hw
  refine⟨σm,M,rs,rh,Z04 c.mon a (λv M1 q1=>?_) hw⟩
  intro u H1 k1 r1 rh1
  refine⟨σm,M1,rs.mono k1,rh1,Z04 c.mon b (λw M2 ⟨i,j,e1,e2,hb,q⟩=>?_) q1⟩
  subst e1 e2
  intro u2 H2 k2 r2 rh2
  cases r1
  cases r2
  exact⟨i,j,rfl,hb,q _ _ (k1.trans k2) rh2 rfl⟩
 |.rng3 a b d,X,tg,e,c,h=>by
  obtain⟨p,x,y,z,p2,rfl,h2,h3,h4,h5,h6⟩:=Zf3 h
  refine(ZcZ (Z2N h3).1 (c.bls _ h2) (Z0r (sE a c h4).pe (Z0r (sE b c h5).pe (Z0r (sE d c h6).pe pa_nil (Z0a h6)) (Z0a h5)) (Z0a h4)) (by rw[Z0a h4,Z0a h5,Z0a h6];rfl) (by rw[Z0a h5,Z0a h6];rfl)).weak λσ H R hw=>?_
  obtain⟨σm,M,rs,rh,hw⟩:=hw
  refine⟨σm,M,rs,rh,Z04 c.mon a (λv M1 q1=>?_) hw⟩
  intro u H1 k1 r1 rh1
  refine⟨σm,M1,rs.mono k1,rh1,Z04 c.mon b (λw M2 q2=>?_) q1⟩
  intro u2 H2 k2 r2 rh2
  refine⟨σm,M2,rs.mono (k1.trans k2),rh2,Z04 c.mon d (λw2 M3 ⟨i,j,e1,e2,e3,hb,q⟩=>?_) q2⟩
  subst e1 e2 e3
  intro u3 H3 k3 r3 rh3
  cases r1
  cases r2
  cases r3
  exact⟨i,j,rfl,hb,q _ _ (k1.trans (k2.trans k3)) rh3 rfl⟩
end
end L2
namespace L2
set_option genInjectivity false
open PySem PySem.Spec PyProof.Rows
mutual
inductive IS where
 |pass|brk|cnt|never
 |ret (e:IE)|retN
 |set (i:Nat) (e:IE)
 |asg (t:ITgs) (e:IE)
 |put (o i e:IE)
 |fset (c:Str) (o:IE) (f:Str) (e:IE)
 |expr (e:IE)
 |ite (c:IE) (a b:ISs)
 |for_ (t:ITg) (s:ISr) (b:ISs)
 |while_ (c:IE) (b:ISs)
inductive ISs where|nil|cons (s:IS) (r:ISs)
end
structure EndM where
 nx:Sm->MH->Prop
 rt:QM
 bk:Sm->MH->Prop:=λ_ _=>False
 ct:Sm->MH->Prop:=λ_ _=>False
mutual
noncomputable def wS(Φ:List (Str×SpM)):IS->EndM->Sm->MH->Prop
 |.pass,D,σ,M=>D.nx σ M
 |.brk,D,σ,M=>D.bk σ M
 |.cnt,D,σ,M=>D.ct σ M
 |.never,_,_,_=>False
 |.ret e,D,σ,M=>wE Φ e σ M D.rt
 |.retN,D,_,M=>D.rt .non M
 |.set i e,D,σ,M=>wE Φ e σ M λv M1=>D.nx (σ.set i (some v)) M1
 |.asg t e,D,σ,M=>wE Φ e σ M λv M1=>∃xs,v=.tup xs/\wTgs t xs σ λσ'=>D.nx σ' M1
 |.put o i e,D,σ,M=>wE Φ e σ M λv M1=>wE Φ o σ M1 λx M2=>wE Φ i σ M2 λy M3=>wPut x y v M3 λM4=>D.nx σ M4
 |.fset c o f e,D,σ,M=>wE Φ e σ M λv M1=>wE Φ o σ M1 λx M2=>∃a fs,x=.ref a/\M2 a=some (.ins c fs)/\fs.length<1000/\D.nx σ (updM M2 a (.ins c (putM fs f v)))
 |.expr e,D,σ,M=>wE Φ e σ M λ_ M1=>D.nx σ M1
 |.ite c a b,D,σ,M=>wE Φ c σ M λx M1=>onB x λk=>(if k=true then wSs Φ a D σ M1 else wSs Φ b D σ M1)
 |.for_ t s b,D,σ,M=>wSr Φ s σ M λS M1=>∃J:Nat->Sm->MH->Prop,J 0 σ M1/\(∀i σ M,J i σ M->S.ok M)/\
   (∀i x σ M,S.items[i]?=some x->J i σ M->wTg t x σ λσ2=>wSs Φ b {nx:=J (i+1),rt:=λv M=>S.okT M/\D.rt v (S.thaw M),bk:=λσ M=>S.okT M/\D.nx σ (S.thaw M),ct:=J (i+1)} σ2 M)/\∀σ M,J S.len σ M->D.nx σ (S.thaw M)
 |.while_ c b,D,σ,M=>∃J:Nat->Sm->MH->Prop,(∃m,J m σ M)/\∀m σ M,J m σ M->wE Φ c σ M λx M1=>∃k,x=.bl k/\
   (if k=true then wSs Φ b {nx:=λσ' M'=>∃m',m'<m/\J m' σ' M',rt:=D.rt,bk:=D.nx,ct:=λσ' M'=>∃m',m'<m/\J m' σ' M'} σ M1 else D.nx σ M1)
noncomputable def wSs(Φ:List (Str×SpM)):ISs->EndM->Sm->MH->Prop
 |.nil,D,σ,M=>D.nx σ M
 |.cons s r,D,σ,M=>wS Φ s {nx:=λσ M=>wSs Φ r D σ M,rt:=D.rt,bk:=D.bk,ct:=D.ct} σ M
end
theorem Zib{Φ:List (Str×SpM)}{c:IE}{a b:ISs}{D:EndM}{σ:Sm}{M:MH}:wS Φ (.ite c a b) D σ M=wE Φ c σ M λx M1=>∃k,x=.bl k/\(if k=true then wSs Φ a D σ M1 else wSs Φ b D σ M1):=by rw[wS];simp only[Z78]
structure EndM.Le (D D':EndM):Prop where
 nx:∀σ M,D.nx σ M->D'.nx σ M
 rt:∀v M,D.rt v M->D'.rt v M
 bk:∀σ M,D.bk σ M->D'.bk σ M
 ct:∀σ M,D.ct σ M->D'.ct σ M
mutual
theorem ZeU{Φ:List (Str×SpM)}(hΦ:∀(j:Nat) f sp,Φ[j]?=some (f,sp)->MonW sp):∀(s:IS) {D D':EndM} {σ:Sm} {M:MH},D.Le D'->wS Φ s D σ M->wS Φ s D' σ M
 |.pass,D,D',σ,M,l,h=>by exact l.nx _ _ h
 |.brk,D,D',σ,M,l,h=>by exact l.bk _ _ h
 |.cnt,D,D',σ,M,l,h=>by exact l.ct _ _ h
 |.never,D,D',σ,M,l,h=>h.elim
 |.ret e,D,D',σ,M,l,h=>by exact Z04 hΦ e l.rt h
 |.retN,D,D',σ,M,l,h=>by exact l.rt _ _ h
 |.set i e,D,D',σ,M,l,h=>by exact Z04 hΦ e (λv M1 h1=>l.nx _ _ h1) h
 |.asg t e,D,D',σ,M,l,h=>by exact Z04 hΦ e (λv M1 ⟨xs,e,h1⟩=>⟨xs,e,mon_tgs t (λσ' h2=>l.nx _ _ h2) h1⟩) h
 |.put o i e,D,D',σ,M,l,h=>by
  exact Z04 hΦ e (λv M1 h1=>Z04 hΦ o (λx M2 h2=>Z04 hΦ i (λy M3 h3=>Zhe (λM4 h4=>l.nx _ _ h4) h3) h2) h1) h
 |.fset c o f e,D,D',σ,M,l,h=>by
  exact Z04 hΦ e (λv M1 h1=>Z04 hΦ o (λx M2 ⟨a,fs,e1,e2,e3,h2⟩=>⟨a,fs,e1,e2,e3,l.nx _ _ h2⟩) h1) h
 |.expr e,D,D',σ,M,l,h=>by exact Z04 hΦ e (λv M1 h1=>l.nx _ _ h1) h
 |.ite c a b,D,D',σ,M,l,h=>by
  rw[Zib]at h ⊢
  exact Z04 hΦ c (λx M1 ⟨k,e,h1⟩=>⟨k,e,Z16 (mon_ss hΦ a l) (mon_ss hΦ b l) h1⟩) h
 |.for_ t s b,D,D',σ,M,l,h=>by
  refine mon_sr hΦ s (λS M1 ⟨J,j0,j1,j2,j3⟩=>⟨J,j0,j1,λi x σ M hx hj=>?_,λσ M hj=>l.nx _ _ (j3 σ M hj)⟩) h
  exact Z7f t (λσ2 h2=>by refine mon_ss hΦ b ?_ h2;exact⟨λ_ _ z=>z,λ_ _ z=>⟨z.1,l.rt _ _ z.2⟩,λ_ _ z=>⟨z.1,l.nx _ _ z.2⟩,λ_ _ z=>z⟩) (j2 i x σ M hx hj)
 |.while_ c b,D,D',σ,M,l,h=>by
  obtain⟨J,j0,j1⟩:=h
  refine⟨J,j0,λm σ M hj=>Z04 hΦ c (λx M1 ⟨k,e,h1⟩=>⟨k,e,Z16 (λz=>by refine mon_ss hΦ b ?_ z;exact⟨λ_ _ z=>z,l.rt,l.nx,λ_ _ z=>z⟩) (l.nx _ _) h1⟩) (j1 m σ M hj)⟩
theorem mon_ss{Φ:List (Str×SpM)}(hΦ:∀(j:Nat) f sp,Φ[j]?=some (f,sp)->MonW sp):∀(s:ISs) {D D':EndM} {σ:Sm} {M:MH},D.Le D'->wSs Φ s D σ M->wSs Φ s D' σ M
 |.nil,D,D',σ,M,l,h=>by exact l.nx _ _ h
 |.cons s r,D,D',σ,M,l,h=>by
  refine ZeU hΦ s ?_ h
  exact⟨λσ M h1=>mon_ss hΦ r l h1,l.rt,l.bk,l.ct⟩
end
noncomputable def ZfU:Expr->Bool
 |.Tuple ..=>false|_=>true
noncomputable def Z3u:Expr->Bool
 |.ListComp ..=>false|.SetComp ..=>false|.DictComp ..=>false|_=>true
noncomputable def Zi0:Stmt->Option (Option Expr)|.Return v _=>some v|_=>none
noncomputable def Zb5:Stmt->Option (List Expr×Expr)|.Assign ts v _=>some (ts,v)|_=>none
noncomputable def asEx:Stmt->Option Expr|.Expr v _=>some v|_=>none
noncomputable def Zi2:Stmt->Option (Expr×List Stmt×List Stmt)|.If t x y _=>some (t,x,y)|_=>none
noncomputable def Zi3:Stmt->Option (Expr×Expr×List Stmt×List Stmt)|.For t i b r _=>some (t,i,b,r)|_=>none
section
variable{e:Stmt}
theorem ZbE{x:Option Expr}(h:Zi0 e=some x):∃p,e=.Return x p:=by cases e<;>cases h;exact⟨_,rfl⟩
theorem Z37{x:List Expr×Expr}(h:Zb5 e=some x):∃p,e=.Assign x.1 x.2 p:=by cases e<;>cases h;exact⟨_,rfl⟩
theorem Z9b{x:Expr}(h:asEx e=some x):∃p,e=.Expr x p:=by cases e<;>cases h;exact⟨_,rfl⟩
theorem ZbH{x:Expr×List Stmt×List Stmt}(h:Zi2 e=some x):∃p,e=.If x.1 x.2.1 x.2.2 p:=by cases e<;>cases h;exact⟨_,rfl⟩
theorem ZbI{x:Expr×Expr×List Stmt×List Stmt}(h:Zi3 e=some x):∃p,e=.For x.1 x.2.1 x.2.2.1 x.2.2.2 p:=by cases e<;>cases h;exact⟨_,rfl⟩
end
mutual
noncomputable def chkS(G:GI)(sc:Scope)(N:List Str):IS->Stmt->Bool
 |.pass,_=>false
 |.brk,_=>false
 |.cnt,_=>false
 |.never,_=>true
 |.ret e,s=>(Zi0 s).any λo=>o.any λx=>chkE G e sc N x
 |.retN,_=>false
 |.set i e,s=>(Zb5 s).any λq=>(the1 q.1).any λt=>(Z0K t).any λx=>decide (N[i]?=some x)&&locB sc x&&chkE G e sc N q.2
 |.asg t e,s=>(Zb5 s).any λq=>(the1 q.1).any λg=>(Zcm g).any λes=>chkTgs sc N N.length true t es&&chkE G e sc N q.2&&ZfU q.2
 |.put o i e,_=>false
 |.fset c o f e,_=>false
 |.expr e,s=>(asEx s).any λv=>chkE G e sc N v&&Z3u v
 |.ite c a b,s=>(Zi2 s).any λq=>tok c&&chkE G c sc N q.1&&chkSs G sc N a q.2.1&&chkSs G sc N b q.2.2
 |.for_ t r b,s=>(Zi3 s).any λq=>Z67 sc N N.length true t q.1&&chkSr G r sc N q.2.1&&Z8f q.2.1&&chkSs G sc N b q.2.2.1&&non0 q.2.2.2
 |.while_ c b,_=>false
noncomputable def chkSs(G:GI)(sc:Scope)(N:List Str):ISs->List Stmt->Bool
 |.nil,l=>non0 l
 |.cons s r,l=>(hd1 l).any λq=>chkS G sc N s q.1&&chkSs G sc N r q.2
end
noncomputable def liD(K:Y00)(H:Hp)(D:Ends):EndM where
 nx:=λσm M=>∀σ H',Kp H H'->RS K H' σm σ->RH K M H'->D.nx σ H'
 rt:=Dn K H D.rt
 bk:=λσm M=>∀σ H',Kp H H'->RS K H' σm σ->RH K M H'->D.bk σ H'
 ct:=λσm M=>∀σ H',Kp H H'->RS K H' σm σ->RH K M H'->D.ct σ H'
theorem liD.on{K:Y00}{H H1:Hp}{D:Ends}(k:Kp H H1):(liD K H D).Le (liD K H1 D):=
 ⟨λ_ _ h σ H' k'=>h σ H' (k.trans k'),λ_ _ h=>h.on k,λ_ _ h σ H' k'=>h σ H' (k.trans k'),λ_ _ h σ H' k'=>h σ H' (k.trans k')⟩
noncomputable def liSt(K:Y00)(t:EndM->Sm->MH->Prop):TS:=λD σ H=>∃σm M,RS K H σm σ/\RH K M H/\t (liD K H D) σm M
theorem Z3l{e:Expr}{x:Str}{p:Pos}{ln:Nat}{env:Env}(h:Z3u e=true):swapsWith e (some (.Name x p)) ln env=pure false:=by cases e<;>first|rfl|cases h
theorem Z52{e:Expr}{ln:Nat}{env:Env}(h:Z3u e=true):swapsWith e none ln env=pure false:=by cases e<;>first|rfl|cases h
theorem Zew{e:Expr}{es:List Expr}{k:Nat}{p:Pos}{ln:Nat}{env:Env}:swapsWith e (some (.Tuple es k p)) ln env=pure false:=by cases e<;>rfl
theorem ZcE{elt:Expr}{gs:List Comprehension}{scope:Scope}{pos p:Pos}{x:Str}{ln:Nat}{env:Env}:∃b:Bool,swapsWith (.ListComp elt gs scope pos) (some (.Name x p)) ln env=pure b:=⟨_,rfl⟩
theorem ZhP{G:GI}{ie:IE}{sc:Scope}{N:List Str}{e:Expr}(h:chkE G ie sc N e=true):Z3u e=true\/∃own fr src tg test elt,ie=.comp own fr src tg test elt:=by
 cases e<;>first
  |exact .inl rfl
  |(cases ie<;>first
    |exact .inr ⟨_,_,_,_,_,_,rfl⟩
    |exact absurd h Y05)
section
variable{G:GI}{sc:Scope}{N:List Str}{st:Stmt}
theorem Zf7{e:IE}(h:chkS G sc N (.ret e) st=true):∃x p,st=.Return (some x) p/\chkE G e sc N x=true:=by
 replace h:=Z01 h
 obtain⟨o,h1,h⟩:=h
 obtain⟨p,rfl⟩:=ZbE h1
 replace h:=Z01 h
 obtain⟨x,rfl,h⟩:=h
 exact⟨x,p,rfl,h⟩
theorem Zf6{i:Nat}{e:IE}(h:chkS G sc N (.set i e) st=true):∃x px v p,st=.Assign [.Name x px] v p/\N[i]?=some x/\locB sc x=true/\chkE G e sc N v=true:=by
 replace h:=Z01 h
 obtain⟨⟨ts,v⟩,h1,h⟩:=h
 obtain⟨p,rfl⟩:=Z37 h1
 replace h:=Z01 h
 obtain⟨t,h2,h⟩:=h
 obtain rfl:=Z1b h2
 replace h:=Z01 h
 obtain⟨x,h3,h⟩:=h
 obtain⟨px,rfl⟩:=Z09 h3
 replace h:=Z03 h
 obtain⟨h,h6⟩:=h
 replace h:=Z03 h
 obtain⟨h4,h5⟩:=h
 exact⟨x,px,v,p,rfl,Z05 h4,h5,h6⟩
theorem Zfa{t:ITgs}{e:IE}(h:chkS G sc N (.asg t e) st=true):∃es k pt v p,st=.Assign [.Tuple es k pt] v p/\chkTgs sc N N.length true t es=true/\chkE G e sc N v=true/\ZfU v=true:=by
 replace h:=Z01 h
 obtain⟨⟨ts,v⟩,h1,h⟩:=h
 obtain⟨p,rfl⟩:=Z37 h1
 replace h:=Z01 h
 obtain⟨g,h2,h⟩:=h
 obtain rfl:=Z1b h2
 replace h:=Z01 h
 obtain⟨es,h3,h⟩:=h
 obtain⟨k,pt,rfl⟩:=Z6Y h3
 replace h:=Z03 h
 obtain⟨h,h6⟩:=h
 replace h:=Z03 h
 obtain⟨h4,h5⟩:=h
 exact⟨es,k,pt,v,p,rfl,h4,h5,h6⟩
theorem Zdt{e:IE}(h:chkS G sc N (.expr e) st=true):∃v p,st=.Expr v p/\chkE G e sc N v=true/\Z3u v=true:=by
 replace h:=Z01 h
 obtain⟨v,h1,h⟩:=h
 obtain⟨p,rfl⟩:=Z9b h1
 exact⟨v,p,rfl,Z03 h⟩
theorem Zf8{c:IE}{a b:ISs}(h:chkS G sc N (.ite c a b) st=true):∃t x y p,st=.If t x y p/\tok c=true/\chkE G c sc N t=true/\chkSs G sc N a x=true/\chkSs G sc N b y=true:=by
 replace h:=Z01 h
 obtain⟨⟨t,x,y⟩,h1,h⟩:=h
 obtain⟨p,rfl⟩:=ZbH h1
 replace h:=Z03 h
 obtain⟨h,h5⟩:=h
 replace h:=Z03 h
 obtain⟨h,h4⟩:=h
 replace h:=Z03 h
 obtain⟨h2,h3⟩:=h
 exact⟨t,x,y,p,rfl,h2,h3,h4,h5⟩
theorem Zf9{t:ITg}{s:ISr}{b:ISs}(h:chkS G sc N (.for_ t s b) st=true):∃tg it body p,st=.For tg it body [] p/\Z67 sc N N.length true t tg=true/\chkSr G s sc N it=true/\Z8f it=true/\chkSs G sc N b body=true:=by
 replace h:=Z01 h
 obtain⟨⟨tg,it,body,els⟩,h1,h⟩:=h
 obtain⟨p,rfl⟩:=ZbI h1
 replace h:=Z03 h
 obtain⟨h,h6⟩:=h
 replace h:=Z03 h
 obtain⟨h,h5⟩:=h
 replace h:=Z03 h
 obtain⟨h,h4⟩:=h
 replace h:=Z03 h
 obtain⟨h2,h3⟩:=h
 obtain rfl:=Z0s h6
 exact⟨tg,it,body,p,rfl,h2,h3,h4,h5⟩
theorem Zds{sts:List Stmt}(h:chkSs G sc N .nil sts=true):sts=[]:=by
 exact Z0s h
theorem Zc9{s:IS}{r:ISs}{sts:List Stmt}(h:chkSs G sc N (.cons s r) sts=true):∃x xs,sts=x::xs/\chkS G sc N s x=true/\chkSs G sc N r xs=true:=by
 replace h:=Z01 h
 obtain⟨⟨x,xs⟩,h1,h⟩:=h
 exact⟨x,xs,Z3i h1,Z03 h⟩
end
mutual
theorem sS{G:GI}{Φ:List (Str×SpM)}:∀(is:IS) {X:Cx} {st:Stmt},Cok X G Φ->(∀x,X.fn x=true)->chkS G X.env.scope X.N is st=true->PS X st (liSt X.K (wS Φ is))
 |.pass,X,st,c,hf,h=>absurd h Y05
 |.brk,X,st,c,hf,h=>absurd h Y05
 |.cnt,X,st,c,hf,h=>absurd h Y05
 |.never,X,st,c,hf,h=>by
  refine ps_never.weak λD σ H hw=>?_
  obtain⟨σm,M,rs,rh,hw⟩:=hw
  exact hw
 |.ret e,X,st,c,hf,h=>by
  obtain⟨v,p,rfl,h⟩:=Zf7 h
  refine(ZfL (sE e c h).pe).weak λD σ H hw=>?_
  obtain⟨σm,M,rs,rh,hw⟩:=hw
  exact⟨σm,M,rs,rh,hw⟩
 |.retN,X,st,c,hf,h=>absurd h Y05
 |.set i e,X,st,c,hf,h=>by
   obtain⟨x,px,v,p,rfl,h1,h2,h3⟩:=Zf6 h
   have rd:∀D σ H,liSt X.K (wS Φ (.set i e)) D σ H->liE X.K (wE Φ e) σ H λv H1=>D.nx (σ.set i (some v)) H1:=λD σ H hw=>by
    obtain⟨σm,M,rs,rh,hw⟩:=hw
    refine⟨σm,M,rs,rh,Z04 c.mon e (λv M1 q=>?_) hw⟩
    intro u H1 k1 r1 rh1
    exact q _ _ k1 ((rs.mono k1).set r1 i) rh1
   rcases ZhP h3 with hn|⟨own,fr,src,tg,test,elt,rfl⟩
   ·exact(Z8b c.nd h1 (Z4h h2) (sE e c h3).pe (Z3l hn) (.inl (hf _))).weak rd
   ·obtain⟨y,t,it,ifs,scope,p3,rfl,i1,i2,i3,i4,i5,i6,i7⟩:=Zbl h3
    obtain⟨b,hb⟩:=ZcE (elt:=y) (gs:=[⟨t,it,ifs,0⟩]) (scope:=scope) (pos:=p3) (p:=px) (x:=x) (ln:=p.line) (env:=X.env)
    cases b with
    |false=>exact(Z8b c.nd h1 (Z4h h2) (sE _ c h3).pe hb (.inl (hf _))).weak rd
    |true=>
     refine(Zax own fr (g:=gOf X.K tg) (te:=liE X.K (wE Φ elt)) (tt:=ttOf X.K Φ test) c.nd h1 (Z4h h2) (λe s h=>by rw[c.nox]at h;exact h) c.calm i1 (sSr src (tg:=t) c i4)
      (λC fp s₃ H₃=>sTg (X:=cxC X scope own fr C fp s₃ H₃) (lim:=own.length) (all:=false) c.calm i3 (λz=>by cases z) tg i5) (λC fp s₃ H₃=>sI (X:=cxC X scope own fr C fp s₃ H₃) test (c.comp (Z2Q i1).kind i3) i6)
      (λC fp s₃ H₃=>(sE (X:=cxC X scope own fr C fp s₃ H₃) elt (c.comp (Z2Q i1).kind i3) i7).pe) hb (Z6X i2 _) (.inl (hf _))).thaw.weak λD σ H hw=>?_
     exact Z9T c.mon i5 (rd D σ H hw)
 |.asg t e,X,st,c,hf,h=>by
   obtain⟨es,k,pt,v,p,rfl,h1,h2,h3⟩:=Zfa h
   have hT:Z67 X.env.scope X.N X.N.length true (.tup t) (.Tuple es k pt)=true:=h1
   refine(Zjf (sE e c h2).pe (sTg (lim:=X.N.length) (all:=true) c.calm c.nd (λ_=>hf) (.tup t) hT) (Zew (e:=v) (es:=es) (k:=k) (p:=pt) (ln:=p.line) (env:=X.env)) (by cases v<;>first|rfl|cases h3) rfl).weak λD σ H hw=>?_
   obtain⟨σm,M,rs,rh,hw⟩:=hw
   refine⟨σm,M,rs,rh,Z04 c.mon e (λv M1 ⟨xs,e,q⟩=>?_) hw⟩
   intro u H1 k1 r1 rh1
   refine Zcz (Ψ:=λ_=>True) (lim:=X.N.length) (λ_ _ _ _ z=>z) (.tup t) hT r1 (rs.mono k1) trivial (P:=λσ'=>(liD X.K H D).nx σ' M1) ⟨xs,e,q⟩ λσm' σ' q' rs' _=>?_
   exact q' _ _ k1 rs' rh1
 |.put o i e,X,st,c,hf,h=>absurd h Y05
 |.fset cn o f e,X,st,c,hf,h=>absurd h Y05
 |.expr e,X,st,c,hf,h=>by
  obtain⟨v,p,rfl,h1,h2⟩:=Zdt h
  refine(ZcV (sE e c h1).pe (Z52 h2)).weak λD σ H hw=>?_
  obtain⟨σm,M,rs,rh,hw⟩:=hw
  refine⟨σm,M,rs,rh,Z04 c.mon e (λv M1 q=>?_) hw⟩
  intro u H1 k1 r1 rh1
  exact q _ _ k1 (rs.mono k1) rh1
 |.ite d a b,X,st,c,hf,h=>by
  obtain⟨t,x,y,p,rfl,h1,h2,h3,h4⟩:=Zf8 h
  refine(Zje ((sE d c h2).pt h1) (sSs a c hf h3) (sSs b c hf h4)).weak λD σ H hw=>?_
  obtain⟨σm,M,rs,rh,hw⟩:=hw
  rw[Zib]at hw
  refine⟨σm,M,rs,rh,Z04 c.mon d (λx M1 ⟨k,e,q⟩=>⟨k,e,λH1 k1 rh1=>?_⟩) hw⟩
  exact Z16 (λq=>⟨σm,M1,rs.mono k1,rh1,mon_ss c.mon a (liD.on k1) q⟩) (λq=>⟨σm,M1,rs.mono k1,rh1,mon_ss c.mon b (liD.on k1) q⟩) q
 |.for_ t s b,X,st,c,hf,h=>by
   obtain⟨tg,it,body,p,rfl,h1,h2,h3,h4⟩:=Zf9 h
   refine(ZfM (by rw[c.nox];exact PassesOwn.never) c.calm (sSr s (tg:=tg) c h2) (sTg (lim:=X.N.length) (all:=true) c.calm c.nd (λ_=>hf) t h1) (sSs b c hf h4) (Z6X h3 _)).thaw.weak λD σ H hw=>?_
   obtain⟨σm,M,rs,rh,hw⟩:=hw
   refine⟨σm,M,rs,rh,mon_sr c.mon s (λS M1 ⟨J,j0,j1,j2,j3⟩=>?_) hw⟩
   intro I H1 k1 rh1 sit
   refine⟨λi m σ' H'=>m=S.len - i/\i≤S.len/\Kp H1 H'/\∃σm' M',RS X.K H' σm' σ'/\RH X.K M' H'/\J i σm' M',⟨_,rfl,Y1t _,Kp.refl _,σm,M1,rs.mono k1,rh1,j0⟩,?_⟩
   rintro i m σ2 H2 ⟨rfl,hi,k2,σm2,M2,rs2,rh2,hj⟩
   obtain⟨goes,stops⟩:=Z8F sit k2 rh2 (j1 i σm2 M2 hj)
   by_cases hlt:i<S.len
   ·obtain⟨go,yld⟩:=goes i hlt
    refine .inr ⟨go,λσ' H'=>Kp H1 H'/\∃σm' M',RS X.K H' σm' σ'/\RH X.K M' H'/\J (i+1) σm' M',λσ' H' ⟨a,z⟩=>⟨S.len - (i+1),by lia,rfl,hlt,a,z⟩,λx H' y=>?_⟩
    obtain⟨e,m,hm,rm⟩:=yld x H' y
    subst e
    refine Zcz (Ψ:=λ_=>True) (lim:=X.N.length) (λ_ _ _ _ z=>z) t h1 rm rs2 trivial (j2 i m σm2 M2 hm hj) λσm3 σ3 q rs3 _=>?_
    refine⟨σm3,M2,rs3,rh2,?_⟩
    refine mon_ss c.mon b ?_ q
    refine⟨λσ' M' z σv H3 k3 rs' rh'=>⟨k2.trans k3,σ',M',rs',rh',z⟩,λv M' z u H3 k3 r3 rh'=>?_,λσ' M' z σv H3 k3 rs' rh'=>?_,λσ' M' z σv H3 k3 rs' rh'=>⟨k2.trans k3,σ',M',rs',rh',z⟩⟩
    ·obtain⟨H4,th,k4,rh4⟩:=Z6U sit rh' z.1
     exact⟨H4,th,z.2 u H4 (k1.trans (k2.trans (k3.trans k4))) (r3.mono k4) rh4⟩
    ·obtain⟨H4,th,k4,rh4⟩:=Z6U sit rh' z.1
     exact⟨H4,th,z.2 σv H4 (k1.trans (k2.trans (k3.trans k4))) (rs'.mono k4) rh4⟩
   ·have e:i=S.len:=by lia
    subst e
    obtain⟨H4,th,k4,rh4⟩:=Z6U sit rh2 (ZfT (j1 _ σm2 M2 hj))
    exact .inl ⟨stops _ (Y07 _),H4,th,j3 σm2 M2 hj _ _ (k1.trans (k2.trans k4)) (rs2.mono k4) rh4⟩
 |.while_ d b,X,st,c,hf,h=>absurd h Y05
theorem sSs{G:GI}{Φ:List (Str×SpM)}:∀(is:ISs) {X:Cx} {sts:List Stmt},Cok X G Φ->(∀x,X.fn x=true)->chkSs G X.env.scope X.N is sts=true->PSs X sts (liSt X.K (wSs Φ is))
 |.nil,X,sts,c,hf,h=>by
   cases Zds h
   refine pss_nil.weak λD σ H hw=>?_
   obtain⟨σm,M,rs,rh,hw⟩:=hw
   exact hw σ H (Kp.refl _) rs rh
 |.cons s r,X,sts,c,hf,h=>by
   obtain⟨x,xs,rfl,h1,h2⟩:=Zc9 h
   refine(Z8O (sS s c hf h1) (sSs r c hf h2)).weak λD σ H hw=>?_
   obtain⟨σm,M,rs,rh,hw⟩:=hw
   refine⟨σm,M,rs,rh,?_⟩
   refine ZeU c.mon s ?_ hw
   refine⟨λσ' M' z σv H1 k1 rs' rh'=>?_,λv M' z=>z,λσ' M' z=>z,λσ' M' z=>z⟩
   exact⟨σ',M',rs',rh',mon_ss c.mon r (liD.on k1) z⟩
end
end L2
namespace L2
open PySem PySem.Spec PyProof.Rows
structure Fts (P:Program) (w:World) (K:Y00) (mg:Str->Option Value) (base:Heap) (k:Nat) (G:GI) (Φ:List (Str×SpM)):Prop where
 bls:∀x,G.bl.contains x=true->mg x=none
 gls:∀x i,G.gl.lookup x=some i->∃tk,mg x=some (.int i tk)
 fnn:∀(j:Nat) f,G.fns[j]?=some f->∃sp,Φ[j]?=some (f,sp)
 mon:∀(j:Nat) f sp,Φ[j]?=some (f,sp)->MonW sp
 fns:∀(j:Nat) f sp,G.fns[j]?=some f->Φ[j]?=some (f,sp)->∃fa fd ps,FnOk P w K mg base CX0 k fa fd ps (liSp K sp)/\mg f=some (.ref fa)/\Y0V K (.ref fa)=true/\Binds K fd ps []
 mts:∀(j:Nat) c m,G.mts.contains (j,c,m)=true->∃f sp,Φ[j]?=some (f,sp)/\∃C fa fd ps,FnOk P w K mg base CX0 k fa fd ps (liSp K sp)/\Y0h K mainGlobals c=some (some (.ref C))/\Cls K C/\Meth K C m fa/\Binds K fd ps []
 mks:∀(j:Nat) c,G.mks.contains (j,c)=true->∃f sp,Φ[j]?=some (f,sp)/\∃k' C fa fd ps,k'+1≤k/\FnOk P w K mg base CX0 k' fa fd ps (liSp K sp)/\Y0h K mainGlobals c=some (some (.ref C))/\mg c=some (.ref C)/\Mk K C fa/\Binds K fd ps []
 cls:∀c f,G.cls.contains (c,f)=true->∃C,Y0h K mainGlobals c=some (some (.ref C))/\Cls K C/\Zep K C f
noncomputable def Z54(n:Nat)(vs:List MV):Sm:=vs.map some++Y1K (n - vs.length) none
theorem Z8E{K:Y00}{H:Hp}{N:List Str}{ms:List MV}{vs:List V}(r:RMs K H ms vs):RS K H (Z54 N.length ms) (start N vs):=by
 unfold Z54 start
 have hl:=r.length
 refine⟨by simp[hl],λi m e=>?_⟩
 by_cases hi:i<ms.length
 ·rw[Y0H (by simpa using hi),Y06]at e
  cases q:ms[i]? with
  |none=>rw[q]at e;cases e
  |some x=>
   rw[q]at e
   have ex:x=m:=Y0C (Y0C e)
   subst ex
   obtain⟨u,hu,ru⟩:=r.get q
   exact⟨u,by rw[Y0H (by simpa [<- hl]using hi),Y06,hu];rfl,ru⟩
 ·rw[Y0S (by simpa using hi),Y2W]at e
  split at e<;>cases e
theorem Fun.okM{P:Program}{w:World}{K:Y00}{mg:Str->Option Value}{base:Heap}{G:GI}{Φ:List (Str×SpM)}{x qual:Str}{st:Stmt}{f:Addr}{fd:FuncData}{N ps:List Str}{k:Nat}{sp:SpM}
  (F:Fun K x qual st f fd) (S:FnScope N ps (Z00 st)) (T:Fts P w K mg base k G Φ) (ir:ISs) (hc:chkSs G (Z00 st) N ir (Z07 st)=true)
  (len:∀vs M Q,sp vs M Q->vs.length=ps.length) (h:∀vs M Q,sp vs M Q->wSs Φ ir {nx:=λ_ M'=>Q .non M',rt:=Q} (Z54 N.length vs) M):FnOk P w K mg base CX0 (k+1) f fd ps (liSp K sp):=by
 refine F.ok S (λvs H Q E hs=>?_) λcdv A outer s H vs Q E hr hs=>?_
 ·obtain⟨ms,M,r,rh,q⟩:=hs
  rw[<- r.length];exact len _ _ _ q
 obtain⟨ms,M,r,rh,q⟩:=hs
 have c:Cok (cxOf CX0 P w K mg base N qual (Z00 st) f cdv A outer s H E).nox G Φ:=
  ⟨(by have:=hr.un;show(A.deeper _).units+70<cLine;lia),rfl,rfl,(by show(if(Z00 st).kind.isAnnotationScope then Y2C else(Z00 st).kind)=.function;rw[S.kind];rfl),S.nd,T.bls,T.gls,T.fnn,T.mon,
   (λj f sp hg hj=>let⟨fa,fd,ps,F,hm,hk,hb⟩:=T.fns j f sp hg hj;⟨k,fa,fd,ps,hr,F,hm,hk,hb⟩),
   (λj c m h=>let⟨f,sp,hj,C,fa,fd,ps,F,hC,cl,hm,hb⟩:=T.mts j c m h;⟨f,sp,hj,k,C,fa,fd,ps,hr,F,hC,cl,hm,hb⟩),
   (λj c h=>let⟨f,sp,hj,k',C,fa,fd,ps,hk,F,hC,hm,mk1,hb⟩:=T.mks j c h;⟨f,sp,hj,k',C,fa,fd,ps,hr.mono hk,F,hC,hm,mk1,hb⟩),T.cls⟩
 refine⟨_,sSs ir c (λ_=>rfl) hc,Z54 N.length ms,M,Z8E r,rh,?_⟩
 refine mon_ss T.mon ir ?_ (h ms M _ q)
 exact⟨λσ M' z σv H' k1 rs' rh'=>z _ _ k1 .non rh',λv M' z=>z,λ_ _ z=>z.elim,λ_ _ z=>z.elim⟩
noncomputable def ZfF:SpM:=λvs M Q=>∃ns:List Int,vs=[.frl (ns.map .int)]/\ns.length≤63/\∀M',Q (.bl true) M'
noncomputable def Zb9(K:Y00):Sp:=λvs H Q _=>∃(a:Addr) (ns:List Int),vs=[.ref a]/\FrL K H a (ns.map V.int)/\ns.length≤63/\∀H',Q (.bl true) H'
theorem Zhm{K:Y00}{P:Program}{w:World}{mg:Str->Option Value}{base:Heap}{k:Nat}{f:Addr}{fd:FuncData}{ps:List Str}(F:FnOk P w K mg base CX0 k f fd ps (liSp K ZfF)):FnOk P w K mg base CX0 k f fd ps (Zb9 K):=
 F.imp λvs H Q E ⟨a,ns,e,hs,hl,q⟩=>by
  subst e
  refine⟨[.frl (ns.map .int)],λ_=>none,.cons (.frl hs (RMs.ints ns)) .nil,λ_ _ z=>(by cases z),ns,rfl,hl,λM'=>?_⟩
  intro v H' k r rh
  cases r
  exact q _
theorem ZjZ{K:Y00}{H:Hp}{a:Addr}{vs:List V}(o:Only H)(h:SqL K H a vs):FrL K H a vs:=by
 rcases h with(h|⟨ob,h⟩)|h
 ·rcases o a with z|⟨ob,xs,z⟩
  ·rw[h]at z;cases z
  ·rw[h]at z;cases z
 ·exact .inl ⟨ob,h⟩
 ·exact .inr h
end L2
namespace L2
open PySem PySem.Spec PyProof.Rows
theorem ZjA{P:Program}{w:World}{K:Y00}{mg:Str->Option Value}{base:Heap}{k:Nat}{G:GI}{Φ Ψ:List (Str×SpM)}(hb:∀x∈G.bl,mg x=none)(hg:∀p∈G.gl,∃tk,mg p.1=some (.int p.2 tk))(hf:Φ.map (·.1)=G.fns)
  (hm:∀p∈Φ++Ψ,MonW p.2) (hF:∀p∈Φ,∃fa fd ps,FnOk P w K mg base CX0 k fa fd ps (liSp K p.2)/\mg p.1=some (.ref fa)/\Y0V K (.ref fa)=true/\Binds K fd ps [])
  (ht:∀q∈G.mts,∃f sp,(Φ++Ψ)[q.1]?=some (f,sp)/\∃C fa fd ps,FnOk P w K mg base CX0 k fa fd ps (liSp K sp)/\Y0h K mainGlobals q.2.1=some (some (.ref C))/\Cls K C/\Meth K C q.2.2 fa/\Binds K fd ps [])
  (hk:∀q∈G.mks,∃f sp,(Φ++Ψ)[q.1]?=some (f,sp)/\∃k' C fa fd ps,k'+1≤k/\FnOk P w K mg base CX0 k' fa fd ps (liSp K sp)/\Y0h K mainGlobals q.2=some (some (.ref C))/\mg q.2=some (.ref C)/\Mk K C fa/\Binds K fd ps [])
  (hc:∀q∈G.cls,∃C,Y0h K mainGlobals q.1=some (some (.ref C))/\Cls K C/\Zep K C q.2):Fts P w K mg base k G (Φ++Ψ)where
 bls:=λx h=>hb x (by simpa using h)
 gls:=λx i h=>hg (x,i) (Y1s h)
 fnn:=λj f h=>by
  rw[<- hf,Y06]at h
  cases e:Φ[j]? with
  |none=>rw[e]at h;cases h
  |some p=>rw[e]at h;cases h;exact⟨p.2,by rw[Y0H (Y08.mp e).1,e]⟩
 mon:=λj f sp h=>hm (f,sp) (Y0i h)
 fns:=λj f sp hj h=>by
  rw[<- hf,Y06]at hj
  cases e:Φ[j]? with
  |none=>rw[e]at hj;cases hj
  |some p=>
   rw[Y0H (Y08.mp e).1,e]at h
   cases h
   exact hF (f,sp) (Y0i e)
 mts:=λj c m h=>ht (j,c,m) (by simpa using h)
 mks:=λj c h=>hk (j,c) (by simpa using h)
 cls:=λc f h=>hc (c,f) (by simpa using h)
theorem Z0L{P:Program}{w:World}{K:Y00}{mg:Str->Option Value}{base:Heap}{k:Nat}{G:GI}{Φ:List (Str×SpM)}(hb:∀x∈G.bl,mg x=none)(hg:∀p∈G.gl,∃tk,mg p.1=some (.int p.2 tk))(hf:Φ.map (·.1)=G.fns)
  (hm:∀p∈Φ,MonW p.2) (hF:∀p∈Φ,∃fa fd ps,FnOk P w K mg base CX0 k fa fd ps (liSp K p.2)/\mg p.1=some (.ref fa)/\Y0V K (.ref fa)=true/\Binds K fd ps []) (h1:G.mts=[]:=by rfl) (h2:G.mks=[]:=by rfl) (h3:G.cls=[]:=by rfl):Fts P w K mg base k G Φ:=by
 have:=ZjA (Ψ:=[]) hb hg hf (by rw[Y1i];exact hm) hF (by rw[h1];exact λ_ z=>nomatch z) (by rw[h2];exact λ_ z=>nomatch z) (by rw[h3];exact λ_ z=>nomatch z)
 rwa [Y1i]at this
structure Fn1 (K:Y00) (x:Str) (st:Stmt) (f:Addr) (d:FuncData):Prop where
 a:Y0h K mainGlobals x=some (some (.ref f))
 F:Fun K x x st f d
structure FnT (K:Y00) (mg:Str->Option Value) (x:Str) (ps:List Str) (st:Stmt) (f:Addr) (d:FuncData):Prop where
 F:Fun K x x st f d
 b:Binds K d ps []
 m:mg x=some (.ref f)
theorem Fn1.t{K:Y00}{h:Heap}{mg:Str->Option Value}{x:Str}{ps:List Str}{st:Stmt}{f:Addr}{d:FuncData}(H:Fn1 K x st f d)(X:K.In h)(G:h.Ns mainGlobals mg)
  (b:∀(kV doc pm:Value) (an:Option Addr) (cdv ct:Value) (us:List Value),us.length=ps.length->bindArgs (Y1Q x x (Z64 st) (Z07 st) (Z00 st) .none kV doc pm an cdv ct) ⟨us,[]⟩=pure (ps.zip us)):FnT K mg x ps st f d:=⟨H.F,H.F.binds b,Y0T X G H.a⟩
theorem Fn1.bt{K:Y00}{x:Str}{y:Str}{st:Stmt}{f:Addr}{d:FuncData}(H:Fn1 K x st f d)
  (r:∀(kV doc pm:Value) (an:Option Addr) (cdv ct v:Value),bindArgs (Y1Q x x (Z64 st) (Z07 st) (Z00 st) .none kV doc pm an cdv ct) ⟨[v],[]⟩=pure [(y,v)]) (s:Shared) (v:Value):BindsTo s d ⟨[v],[]⟩ [(y,v)]:=by
 obtain⟨_,_,kV,doc,pm,an,cdv,ct,_,rfl,_⟩:=H.F.ex
 exact .of_eq (r kV doc pm an cdv ct v)
theorem us0{p:List Value->Prop}(h:p [])(us:List Value)(hl:us.length=0):p us:=by cases us with|nil=>exact h|cons _ _=>cases hl
theorem us1{p:List Value->Prop}(h:∀a0,p [a0])(us:List Value)(hl:us.length=1):p us:=by cases us with|nil=>cases hl|cons a r=>exact us0 (p:=λr=>p (a::r)) (h a) r (Y2D hl)
theorem us2{p:List Value->Prop}(h:∀a0 a1,p [a0,a1])(us:List Value)(hl:us.length=2):p us:=by cases us with|nil=>cases hl|cons a r=>exact us1 (p:=λr=>p (a::r)) (h a) r (Y2D hl)
theorem us3{p:List Value->Prop}(h:∀a0 a1 a2,p [a0,a1,a2])(us:List Value)(hl:us.length=3):p us:=by cases us with|nil=>cases hl|cons a r=>exact us2 (p:=λr=>p (a::r)) (h a) r (Y2D hl)
theorem us4{p:List Value->Prop}(h:∀a0 a1 a2 a3,p [a0,a1,a2,a3])(us:List Value)(hl:us.length=4):p us:=by cases us with|nil=>cases hl|cons a r=>exact us3 (p:=λr=>p (a::r)) (h a) r (Y2D hl)
theorem us5{p:List Value->Prop}(h:∀a0 a1 a2 a3 a4,p [a0,a1,a2,a3,a4])(us:List Value)(hl:us.length=5):p us:=by cases us with|nil=>cases hl|cons a r=>exact us4 (p:=λr=>p (a::r)) (h a) r (Y2D hl)
end L2
namespace L2
open PySem PySem.Spec PyProof.Rows
section
variable{M:MH}{Q:QM}{i j:Int}{x y:MV}{a b:Addr}
theorem Zlu:wBin .Add (.int i) (.int j) M Q=Q (.int (i+j)) M:=rfl
theorem ZkQ:wBin .Sub (.int i) (.int j) M Q=Q (.int (i - j)) M:=rfl
theorem Zlf:wBin .Mult (.int i) (.int j) M Q=(CMul i j/\Q (.int (i*j)) M):=rfl
theorem Zj6:wBin .FloorDiv (.int i) (.int j) M Q=(Zer i j/\Q (.int (i/j)) M):=rfl
theorem ZiR:wBin .Mod (.int i) (.int j) M Q=(0<j/\Q (.int (i%j)) M):=rfl
theorem ZkY:wBin .LShift (.int i) (.int j) M Q=(CPow i j/\Q (.int (i*2^j.toNat)) M):=rfl
theorem Zj9{x y:Str}:wBin .Add (.str x) (.str y) M Q=(x.length+y.length≤sizeLine/\Q (.str (x++y)) M):=rfl
theorem ZiQ{x:Str}:wBin .Mult (.str x) (.int i) M Q=(x.length≤16/\ -1000≤i/\i≤1000/\Q (.str (Txt.mul x i)) M):=rfl
theorem Zj8{xs ys:List MV}:wBin .Add (.tup xs) (.tup ys) M Q=(xs≠ []/\xs.length+ys.length≤sizeLine/\Q (.tup (xs++ys)) M):=rfl
theorem Zja:wBin .Add (.ref a) (.ref b) M Q=∃xs ys,M a=some (.lst xs)/\M b=some (.lst ys)/\xs.length+ys.length≤sizeLine/\∀p,M p=none->Q (.ref p) (updM M p (.lst (xs++ys))):=rfl
theorem q_lt:wCmp .Lt (.int i) (.int j) M Q=Q (.bl (decide (i<j))) M:=propext ⟨fun⟨_,_,e,f,h⟩=>by cases e;cases f;exact h,λh=>⟨i,j,rfl,rfl,h⟩⟩
theorem q_le:wCmp .LtE (.int i) (.int j) M Q=Q (.bl (decide (i≤j))) M:=propext ⟨λh=>Or.elim h (fun⟨_,_,e,f,h⟩=>by cases e;cases f;exact h) (fun⟨_,_,e,_⟩=>nomatch e),λh=>Or.inl ⟨i,j,rfl,rfl,h⟩⟩
theorem Zlg{x y:Str}:wCmp .LtE (.str x) (.str y) M Q=Q (.bl (!decide (y.cps.toList<x.cps.toList))) M:=propext ⟨λh=>Or.elim h (fun⟨_,_,e,_⟩=>nomatch e) (fun⟨_,_,e,f,h⟩=>by cases e;cases f;exact h),λh=>Or.inr ⟨x,y,rfl,rfl,h⟩⟩
theorem q_gt:wCmp .Gt (.int i) (.int j) M Q=Q (.bl (decide (j<i))) M:=propext ⟨fun⟨_,_,e,f,h⟩=>by cases e;cases f;exact h,λh=>⟨i,j,rfl,rfl,h⟩⟩
theorem Zlq:wCmp .Eq (.int i) (.int j) M Q=Q (.bl (decide (i=j))) M:=rfl
theorem Zld:wCmp .NotEq (.int i) (.int j) M Q=Q (.bl (!decide (i=j))) M:=rfl
theorem Zlo{x y:Str}:wCmp .Eq (.str x) (.str y) M Q=Q (.bl (decide (x=y))) M:=rfl
theorem Zlb{x y:Str}:wCmp .NotEq (.str x) (.str y) M Q=Q (.bl (!decide (x=y))) M:=rfl
theorem Zlr{x y:Bool}:wCmp .Eq (.bl x) (.bl y) M Q=Q (.bl (decide (x=y))) M:=rfl
theorem Zle{x y:Bool}:wCmp .NotEq (.bl x) (.bl y) M Q=Q (.bl (!decide (x=y))) M:=rfl
theorem Zlp{y:MV}:wCmp .Eq (.ref a) y M Q=wEq (.ref a) y M λb=>Q (.bl b) M:=rfl
theorem Zlc{y:MV}:wCmp .NotEq (.ref a) y M Q=wEq (.ref a) y M λb=>Q (.bl (!b)) M:=rfl
theorem Zln{xs:List MV}{y:MV}:wCmp .Eq (.tup xs) y M Q=wEq (.tup xs) y M λb=>Q (.bl b) M:=rfl
theorem Zla{xs:List MV}{y:MV}:wCmp .NotEq (.tup xs) y M Q=wEq (.tup xs) y M λb=>Q (.bl (!b)) M:=rfl
theorem q_in:wCmp .In x y M Q=wIn x y M λb=>Q (.bl b) M:=rfl
theorem Zl9:wCmp .NotIn x y M Q=wIn x y M λb=>Q (.bl (!b)) M:=rfl
theorem Z7x{xs:List MV}{k:Bool->Prop}(h:M a=some (.lst xs))(hb:M b=some (.lst []))(q:k xs.isEmpty):wEq (.ref a) (.ref b) M k:=.inr (.inl ⟨a,b,xs,rfl,rfl,h,hb,q⟩)
theorem Z5L{k:Bool->Prop}{m:Nat}(n:eqS x y=none)(h:Alike M m x y)(le:m≤60)(q:k true):wEq x y M k:=by
 unfold wEq;rw[n];exact .inl ⟨m,le,h,q⟩
theorem Alike.flat{x:MV}(n:Nat)(f:Z2O x=true):Alike M n x x:=by
 cases n<;>rw[Alike]
 ·exact⟨f,rfl⟩
 ·exact .inl ⟨f,rfl⟩
theorem Alike.tup{xs ys:List MV}{n:Nat}(e:xs.length=ys.length)(h:∀(i:Nat) u v,xs[i]?=some u->ys[i]?=some v->Alike M n u v):Alike M (n+1) (.tup xs) (.tup ys):=by
 rw[Alike];exact .inr (.inl ⟨xs,ys,rfl,rfl,e,h⟩)
theorem Alike.two{a b a' b':MV}{n:Nat}(h1:Alike M n a a')(h2:Alike M n b b'):Alike M (n+1) (.tup [a,b]) (.tup [a',b']):=by
 refine .tup rfl λi u v h h'=>?_
 match i with
 |0=>cases h;cases h';exact h1
 |1=>cases h;cases h';exact h2
 |i+2=>cases h
theorem Alike.lst{x y:MV}{xs ys:List MV}{n:Nat}(h1:LstM M x xs)(h2:LstM M y ys)(e:xs.length=ys.length)(h:∀(i:Nat) u v,xs[i]?=some u->ys[i]?=some v->Alike M n u v):Alike M (n+1) x y:=by
 rw[Alike];exact .inr (.inr (.inl ⟨xs,ys,h1,h2,e,h⟩))
theorem Alike.dic{a b:Addr}{ka kb:List (Key×MV)}{n:Nat}(h1:M a=some (.dic ka))(h2:M b=some (.dic kb))(e:ka.length=kb.length)(h:∀k u,(k,u)∈ka->∃v,valM kb k=some v/\Alike M n u v):Alike M (n+1) (.ref a) (.ref b):=by
 rw[Alike];exact .inr (.inr (.inr ⟨a,b,ka,kb,rfl,rfl,h1,h2,e,h⟩))
noncomputable def ixO(o:Option MO)(y:MV)(M:MH)(Q:QM):Prop:=match o with
 |some (.lst xs)=>∃i v,y=.int i/\atI xs i=some v/\Q v M
 |some (.dic kvs)=>∃kk v,keyM y=some kk/\valM kvs kk=some v/\Q v M
 |some (.fdic _ kvs)=>∃kk v,keyM y=some kk/\valM kvs kk=some v/\Q v M
 |_=>False
theorem Zlj:wIx (.ref a) y M Q=ixO (M a) y M Q:=propext ⟨λh=>by
  rcases h with⟨xs,i,v,e,r⟩|⟨kvs,kk,v,e,r⟩|⟨o,kvs,kk,v,e,r⟩
  ·rw[e];exact⟨i,v,r⟩
  ·rw[e];exact⟨kk,v,r⟩
  ·rw[e];exact⟨kk,v,r⟩,λh=>by
  cases e:M a with
  |none=>rw[e]at h;exact h.elim
  |some o=>
   rw[e]at h
   cases o with
   |lst xs=>obtain⟨i,v,r⟩:=h;exact .inl ⟨xs,i,v,e,r⟩
   |dic kvs=>obtain⟨kk,v,r⟩:=h;exact .inr (.inl ⟨kvs,kk,v,e,r⟩)
   |ins _ _=>exact h.elim
   |fdic o kvs=>obtain⟨kk,v,r⟩:=h;exact .inr (.inr ⟨o,kvs,kk,v,e,r⟩)⟩
theorem Zj1{xs:List MV}:ixO (some (.lst xs)) (.int i) M Q=∃v,atI xs i=some v/\Q v M:=propext ⟨fun⟨_,v,e,h⟩=>by cases e;exact⟨v,h⟩,fun⟨v,h⟩=>⟨i,v,rfl,h⟩⟩
theorem ZgH{kvs:List (Key×MV)}{x:Str}:ixO (some (.dic kvs)) (.str x) M Q=∃v,valM kvs (Y1w x)=some v/\Q v M:=propext ⟨fun⟨_,v,e,h⟩=>by cases e;exact⟨v,h⟩,fun⟨v,h⟩=>⟨_,v,rfl,h⟩⟩
theorem Zlh{xs:List MV}:wIx (.tup xs) (.int i) M Q=∃v,atI xs i=some v/\Q v M:=propext ⟨fun⟨_,v,e,h⟩=>by cases e;exact⟨v,h⟩,fun⟨v,h⟩=>⟨i,v,rfl,h⟩⟩
theorem Zlk{xs:List MV}:wIx (.frl xs) (.int i) M Q=∃v,atI xs i=some v/\Q v M:=propext ⟨fun⟨_,v,e,h⟩=>by cases e;exact⟨v,h⟩,fun⟨v,h⟩=>⟨i,v,rfl,h⟩⟩
theorem Zli{z:Str}:wIx (.str z) (.int i) M Q=(z.length≤sizeLine/\∃c,atI z.cps.toList i=some c/\Q (.str ⟨#[c]⟩) M):=propext ⟨fun⟨_,c,e,h1,h2⟩=>by cases e;exact⟨h1,c,h2⟩,fun⟨h1,c,h2⟩=>⟨i,c,rfl,h1,h2⟩⟩
noncomputable def slO(o:Option MO)(lo hi:Option Int)(M:MH)(Q:QM):Prop:=match o with
 |some (.lst xs)=>∀p,M p=none->Q (.ref p) (updM M p (.lst (cutM xs lo hi)))
 |_=>False
theorem ZkW{lo hi:Option Int}:wSl (.ref a) lo hi M Q=slO (M a) lo hi M Q:=propext ⟨fun⟨xs,e,h⟩=>by rw[e];exact h,λh=>by
  cases e:M a with
  |none=>rw[e]at h;exact h.elim
  |some o=>
   rw[e]at h
   cases o with
   |lst xs=>exact⟨xs,e,h⟩
   |dic kvs=>exact h.elim
   |ins _ _=>exact h.elim
   |fdic _ _=>exact h.elim⟩
theorem ZiJ{lo hi:Option Int}{xs:List MV}:slO (some (.lst xs)) lo hi M Q=∀p,M p=none->Q (.ref p) (updM M p (.lst (cutM xs lo hi))):=rfl
theorem ZkX{lo hi:Option Int}{xs:List MV}:wSl (.frl xs) lo hi M Q=∀p,M p=none->Q (.ref p) (updM M p (.lst (cutM xs lo hi))):=rfl
theorem ZkV{lo hi:Option Int}{z:Str}:wSl (.str z) lo hi M Q=(z.length≤sizeLine/\Q (.str (cutS z lo hi)) M):=rfl
theorem ZkU{lo hi:Option Int}{xs:List MV}:wSl (.tup xs) lo hi M Q=Q (.tup (cutM xs lo hi)) M:=rfl
theorem ZiW{xs:List MV}:wBi .len [.tup xs] M Q=Q (.int xs.length) M:=rfl
theorem ZiZ{xs:List MV}:wBi .len [.frl xs] M Q=Q (.int xs.length) M:=rfl
theorem ZiX{z:Str}:wBi .len [.str z] M Q=(z.length≤sizeLine/\Q (.int z.length) M):=rfl
noncomputable def lenO(o:Option MO)(M:MH)(Q:QM):Prop:=match o with
 |some (.lst xs)=>Q (.int xs.length) M
 |some (.dic kvs)=>Q (.int kvs.length) M
 |_=>False
theorem ZiY:wBi .len [.ref a] M Q=lenO (M a) M Q:=propext ⟨λh=>by
  rcases h with⟨xs,e,h⟩|⟨kvs,e,h⟩<;>(rw[e];exact h),λh=>by
  cases e:M a with
  |none=>rw[e]at h;exact h.elim
  |some o=>
   rw[e]at h
   cases o with
   |lst xs=>exact .inl ⟨xs,e,h⟩
   |dic kvs=>exact .inr ⟨kvs,e,h⟩
   |ins _ _=>exact h.elim
   |fdic _ _=>exact h.elim⟩
theorem ZgF{xs:List MV}:lenO (some (.lst xs)) M Q=Q (.int xs.length) M:=rfl
theorem ZgG{kvs:List (Key×MV)}:lenO (some (.dic kvs)) M Q=Q (.int kvs.length) M:=rfl
noncomputable def isO(o:Option Ty7)(c:Ty7)(M:MH)(Q:QM):Prop:=match o with
 |some T=>c≠.none/\Q (.bl (isTy T c)) M
 |none=>False
theorem Zll{c:Ty7}:wBi .isinst [x,.ty c] M Q=isO (tyM M x) c M Q:=propext (by
 have e:wBi .isinst [x,.ty c] M Q=∃T,tyM M x=some T/\c≠.none/\Q (.bl (isTy T c)) M:=by cases x<;>rfl
 rw[e]
 exact⟨fun⟨T,e,h⟩=>by rw[e];exact h,λh=>by
  cases e:tyM M x with
  |none=>rw[e]at h;exact h.elim
  |some T=>rw[e]at h;exact⟨T,rfl,h⟩⟩)
noncomputable def isO2(o:Option Ty7)(c d:Ty7)(M:MH)(Q:QM):Prop:=match o with
 |some T=>c≠.none/\d≠.none/\Q (.bl (isTy T c||isTy T d)) M
 |none=>False
theorem Zj3{c d:Ty7}:wBi .isinst [x,.tup [.ty c,.ty d]] M Q=isO2 (tyM M x) c d M Q:=propext (by
 have e:wBi .isinst [x,.tup [.ty c,.ty d]] M Q=∃T,tyM M x=some T/\c≠.none/\d≠.none/\Q (.bl (isTy T c||isTy T d)) M:=by cases x<;>rfl
 rw[e]
 exact⟨fun⟨T,e,h⟩=>by rw[e];exact h,λh=>by
  cases e:tyM M x with
  |none=>rw[e]at h;exact h.elim
  |some T=>rw[e]at h;exact⟨T,rfl,h⟩⟩)
theorem ZgI{T c d:Ty7}:isO2 (some T) c d M Q=(c≠.none/\d≠.none/\Q (.bl (isTy T c||isTy T d)) M):=rfl
theorem Zj2{T c:Ty7}:isO (some T) c M Q=(c≠.none/\Q (.bl (isTy T c)) M):=rfl
theorem ZkE:tyM M (.int i)=some .int:=rfl
theorem ZkF{k:Bool}:tyM M (.bl k)=some .bool:=rfl
theorem ZkB{k:Str}:tyM M (.str k)=some .str:=rfl
theorem ZkD:tyM M .non=some .none:=rfl
theorem ZkA{xs:List MV}:tyM M (.tup xs)=some .tuple:=rfl
noncomputable def tyO:Option MO->Option Ty7
 |some (.lst _)=>some .list
 |some (.dic _)=>some .dict
 |_=>none
theorem ZkC:tyM M (.ref a)=tyO (M a):=by
 cases e:M a with
 |none=>simp[tyM,tyO,e]
 |some o=>cases o<;>simp[tyM,tyO,e]
theorem ZiD{xs:List MV}:tyO (some (.lst xs))=some .list:=rfl
theorem ZiE{kvs:List (Key×MV)}:tyO (some (.dic kvs))=some .dict:=rfl
theorem ZiV:wBi .max [.ref a] M Q=∃ns:List Int,M a=some (.lst (ns.map MV.int))/\0<ns.length/\∀m,m∈ns->(∀x∈ns,x≤m)->Q (.int m) M:=rfl
theorem ZiT:wBi .min [.ref a] M Q=∃ns:List Int,M a=some (.lst (ns.map MV.int))/\0<ns.length/\∀m,m∈ns->(∀x∈ns,m≤x)->Q (.int m) M:=rfl
theorem Zlt:wBi .all [.ref a] M Q=∃bs:List Bool,M a=some (.lst (bs.map MV.bl))/\Q (.bl (bs.all id)) M:=rfl
theorem ZgJ:wBi .dictL [.ref a] M Q=∃ps:List (Key×MV),M a=some (.lst (ps.map prM))/\∀p,M p=none->Q (.ref p) (updM M p (.dic (Z75 ps))):=rfl
theorem ZgC{xs:List MV}:wBi .list [.tup xs] M Q=∀p,M p=none->Q (.ref p) (updM M p (.lst xs)):=rfl
theorem ZgE{xs:List MV}:wBi .list [.frl xs] M Q=∀p,M p=none->Q (.ref p) (updM M p (.lst xs)):=rfl
theorem ZgD:wBi .list [.ref a] M Q=∃xs,M a=some (.lst xs)/\∀p,M p=none->Q (.ref p) (updM M p (.lst xs)):=rfl
theorem ZiF{xs:List MV}:wBi .tuple [.tup xs] M Q=Q (.tup xs) M:=rfl
theorem ZiG:wBi .tuple [.ref a] M Q=∃xs,M a=some (.lst xs)/\Q (.tup xs) M:=rfl
noncomputable def apO(o:Option MO)(a:Addr)(y:MV)(M:MH)(Q:QM):Prop:=match o with
 |some (.lst xs)=>xs.length<sizeLine/\Q .non (updM M a (.lst (xs++[y])))
 |_=>False
theorem Zls:wMts .append (.ref a) [y] M Q=apO (M a) a y M Q:=propext ⟨fun⟨xs,e,h⟩=>by rw[e];exact h,λh=>by
  cases e:M a with
  |none=>rw[e]at h;exact h.elim
  |some o=>
   rw[e]at h
   cases o with
   |lst xs=>exact⟨xs,e,h⟩
   |dic kvs=>exact h.elim
   |ins _ _=>exact h.elim
   |fdic _ _=>exact h.elim⟩
theorem Zj7{xs:List MV}:apO (some (.lst xs)) a y M Q=(xs.length<sizeLine/\Q .non (updM M a (.lst (xs++[y])))):=rfl
theorem Zlm:wMts .extend (.ref a) [.ref b] M Q=∃xs,M a=some (.lst xs)/\∃ys,M b=some (.lst ys)/\xs.length+ys.length≤sizeLine/\Q .non (updM M a (.lst (xs++ys))):=rfl
theorem ZiP:mtOk .append x M=(∃a xs,x=.ref a/\M a=some (.lst xs)):=rfl
theorem ZiO:mtOk .extend x M=(∃a xs,x=.ref a/\M a=some (.lst xs)):=rfl
theorem ZiN:mtOk .clear x M=(∃a xs,x=.ref a/\M a=some (.lst xs)):=rfl
theorem Zl8{z:Str}:mtOk .join (.str z) M=True:=propext ⟨λ_=>trivial,λ_=>⟨z,rfl⟩⟩
theorem Zj0{sep:Str}:wMts .join (.str sep) [.ref b] M Q=(∃ss,M b=some (.lst (ss.map MV.str))/\ss.toArray.foldl (λn z=>n+z.length+sep.length) 0≤sizeLine/\(Y14 sep ss).length≤sizeLine/\Q (.str (Y14 sep ss)) M):=
 propext ⟨fun⟨_,_,ss,e,e',h⟩=>by cases e;cases e';exact⟨ss,h⟩,fun⟨ss,h⟩=>⟨sep,b,ss,rfl,rfl,h⟩⟩
noncomputable def srO(o:Option MO)(a:Addr)(M:MH)(Q:Src->MH->Prop):Prop:=match o with
 |some (.lst xs)=>Q (.lst a xs) M
 |some (.dic kvs)=>∀o,Q (.dic a o kvs) (updM M a (.fdic o kvs))
 |_=>False
noncomputable def srV(v:MV)(M:MH)(Q:Src->MH->Prop):Prop:=(∃xs,(v=.tup xs\/v=.frl xs)/\Q (.tup xs) M)\/(∃a xs,v=.ref a/\M a=some (.lst xs)/\Q (.lst a xs) M)\/(∃a kvs,v=.ref a/\M a=some (.dic kvs)/\∀o,Q (.dic a o kvs) (updM M a (.fdic o kvs)))\/∃z,v=.str z/\Q (.str z) M
theorem ZkZ{Φ:List (Str×SpM)}{e:IE}{σ:Sm}{R:Src->MH->Prop}:wSr Φ (.seq e) σ M R=wE Φ e σ M λv M1=>srV v M1 R:=rfl
theorem ZkT{R:Src->MH->Prop}:srV (.ref a) M R=srO (M a) a M R:=propext ⟨λh=>by
  rcases h with⟨xs,e,h⟩|⟨b,xs,e,f,h⟩|⟨b,xs,e,f,h⟩|⟨z,e,_⟩
  ·rcases e with e|e<;>cases e
  ·cases e;rw[f];exact h
  ·cases e;rw[f];exact h
  ·exact(nomatch e),λh=>by
  cases e:M a with
  |none=>rw[e]at h;exact h.elim
  |some o=>
   rw[e]at h
   cases o with
   |lst xs=>exact .inr (.inl ⟨a,xs,rfl,e,h⟩)
   |dic kvs=>exact .inr (.inr (.inl ⟨a,kvs,rfl,e,h⟩))
   |ins _ _=>exact h.elim
   |fdic _ _=>exact h.elim⟩
theorem ZiI{kvs:List (Key×MV)}{R:Src->MH->Prop}:srO (some (.dic kvs)) a M R=∀o,R (.dic a o kvs) (updM M a (.fdic o kvs)):=rfl
theorem ZkS{z:Str}{R:Src->MH->Prop}:srV (.str z) M R=R (.str z) M:=propext ⟨λh=>by
  rcases h with⟨xs,e,h⟩|⟨_,_,e,_⟩|⟨_,_,e,_⟩|⟨_,e,h⟩
  ·rcases e with e|e<;>exact(nomatch e)
  ·exact(nomatch e)
  ·exact(nomatch e)
  ·cases e;exact h,λh=>.inr (.inr (.inr ⟨z,rfl,h⟩))⟩
theorem ZkH{x:Str}:Src.thaw M (.str x)=M:=rfl
theorem Zl3{x:Str}:Src.okT M (.str x)=True:=rfl
theorem ZkL{xs:List MV}:Src.thaw M (.tup xs)=M:=rfl
theorem ZkK{xs:List MV}:Src.thaw M (.lst a xs)=M:=rfl
theorem ZkJ{n:Nat}:Src.thaw M (.rng i n)=M:=rfl
theorem ZkI{o:Obj}{kvs:List (Key×MV)}:Src.thaw M (.dic a o kvs)=updM M a (.dic kvs):=rfl
theorem Zl7{xs:List MV}:Src.okT M (.tup xs)=True:=rfl
theorem Zl6{xs:List MV}:Src.okT M (.lst a xs)=True:=rfl
theorem Zl5{n:Nat}:Src.okT M (.rng i n)=True:=rfl
theorem Zl4{o:Obj}{kvs:List (Key×MV)}:Src.okT M (.dic a o kvs)=(M a=some (.fdic o kvs)):=rfl
theorem ZiH{xs:List MV}{R:Src->MH->Prop}:srO (some (.lst xs)) a M R=R (.lst a xs) M:=rfl
theorem ZkR{zs:List MV}{R:Src->MH->Prop}:srV (.tup zs) M R=R (.tup zs) M:=propext ⟨λh=>by
  rcases h with⟨xs,e,h⟩|h
  ·rcases e with e|e
   ·cases e;exact h
   ·exact nomatch e
  ·rcases h with⟨_,_,e,_⟩|⟨_,_,e,_⟩|⟨_,e,_⟩<;>exact(nomatch e),λh=>.inl ⟨zs,.inl rfl,h⟩⟩
noncomputable def rgV(v:MV)(M:MH)(Q:Src->MH->Prop):Prop:=∃j,v=.int j/\ -(2^62)≤j/\j<2^62/\Q (.rng 0 j.toNat) M
theorem Zl0{Φ:List (Str×SpM)}{e:IE}{σ:Sm}{R:Src->MH->Prop}:wSr Φ (.rng e) σ M R=wE Φ e σ M λv M1=>rgV v M1 R:=rfl
theorem Zl1{R:Src->MH->Prop}:rgV (.int i) M R=(-(2^62)≤i/\i<2^62/\R (.rng 0 i.toNat) M):=propext ⟨fun⟨_,e,h⟩=>by cases e;exact h,λh=>⟨i,rfl,h⟩⟩
noncomputable def rgV2(x y:MV)(M:MH)(Q:Src->MH->Prop):Prop:=∃i j,x=.int i/\y=.int j/\(-(2^62)≤i/\i<2^62/\ -(2^62)≤j/\j<2^62)/\Q (.rng i (j - i).toNat) M
theorem ZiK{Φ:List (Str×SpM)}{e f g:IE}{σ:Sm}{R:Src->MH->Prop}:wSr Φ (.rng3 e f g) σ M R=wE Φ e σ M λx M1=>wE Φ f σ M1 λy M2=>wE Φ g σ M2 λz M3=>∃i j,x=.int i/\y=.int j/\z=.int 2/\(0≤i/\i<2^60/\0≤j/\j<2^60)/\R (.rst i 2 (len2 i j)) M3:=rfl
theorem ZkG{n:Nat}{st:Int}:Src.thaw M (.rst i st n)=M:=rfl
theorem Zl2{n:Nat}{st:Int}:Src.okT M (.rst i st n)=True:=rfl
theorem ZiL{Φ:List (Str×SpM)}{e f:IE}{σ:Sm}{R:Src->MH->Prop}:wSr Φ (.rng2 e f) σ M R=wE Φ e σ M λx M1=>wE Φ f σ M1 λy M2=>rgV2 x y M2 R:=rfl
theorem ZiM{R:Src->MH->Prop}:rgV2 (.int i) (.int j) M R=((-(2^62)≤i/\i<2^62/\ -(2^62)≤j/\j<2^62)/\R (.rng i (j - i).toNat) M):=propext ⟨fun⟨_,_,e,f,h⟩=>by cases e;cases f;exact h,λh=>⟨i,j,rfl,rfl,h⟩⟩
theorem ZiU:wBi .max [.int i,.int j] M Q=Q (.int (if j>i then j else i)) M:=rfl
theorem ZiS:wBi .min [.int i,.int j] M Q=Q (.int (if j<i then j else i)) M:=rfl
theorem Zj4:wBi .int [.int i] M Q=Q (.int i) M:=rfl
theorem Zj5{k:Bool}:wBi .int [.bl k] M Q=Q (.int (if k then 1 else 0)) M:=rfl
end
theorem v_s{v:MV}{k:MV->Prop}:onV (some (some v)) k=k v:=rfl
theorem b_0{b:Bool}{k:Bool->Prop}:onB (.bl b) k=k b:=rfl
theorem f_s{f:Str}{sp:SpM}{k:SpM->Prop}:onF (some (f,sp)) k=k sp:=rfl
theorem ZlQ{Φ:List (Str×SpM)}{σ:Sm}{M:MH}{Q:QM}{i:Nat}:wE Φ (.var i) σ M Q=onV σ[i]? (λv=>Q v M):=rfl
theorem ZlV{Φ:List (Str×SpM)}{σ:Sm}{M:MH}{Q:QM}{i:Int}:wE Φ (.int i) σ M Q=(Q (.int i) M):=rfl
theorem ZlS{Φ:List (Str×SpM)}{σ:Sm}{M:MH}{Q:QM}{x:Str}:wE Φ (.str x) σ M Q=(Q (.str x) M):=rfl
theorem e_bl{Φ:List (Str×SpM)}{σ:Sm}{M:MH}{Q:QM}{b:Bool}:wE Φ (.bl b) σ M Q=(Q (.bl b) M):=rfl
theorem ZlW{Φ:List (Str×SpM)}{σ:Sm}{M:MH}{Q:QM}{x:Str}{i:Int}:wE Φ (.glb x i) σ M Q=(Q (.int i) M):=rfl
theorem e_ty{Φ:List (Str×SpM)}{σ:Sm}{M:MH}{Q:QM}{c:Ty7}:wE Φ (.ty c) σ M Q=(Q (.ty c) M):=rfl
theorem ZlZ{Φ:List (Str×SpM)}{σ:Sm}{M:MH}{Q:QM}{op:Operator}{a b:IE}:wE Φ (.bin op a b) σ M Q=(wE Φ a σ M λx M1=>wE Φ b σ M1 λy M2=>wBin op x y M2 Q):=rfl
theorem ZlT{Φ:List (Str×SpM)}{σ:Sm}{M:MH}{Q:QM}{a:IE}:wE Φ (.not a) σ M Q=(wE Φ a σ M λx M1=>onB x λb=>Q (.bl (!b)) M1):=rfl
theorem ZlX{Φ:List (Str×SpM)}{σ:Sm}{M:MH}{Q:QM}{op:CmpOp}{a b:IE}:wE Φ (.cmp op a b) σ M Q=(wE Φ a σ M λx M1=>wE Φ b σ M1 λy M2=>wCmp op x y M2 Q):=rfl
theorem ZlY{Φ:List (Str×SpM)}{σ:Sm}{M:MH}{Q:QM}{op op':CmpOp}{a b c:IE}:wE Φ (.chn op op' a b c) σ M Q=(wE Φ a σ M λx M1=>wE Φ b σ M1 λy M2=>wCmp op x y M2 λz M3=>onB z λk=>(if k=true then wE Φ c σ M3 λw M4=>wCmp op' y w M4 Q else Q (.bl false) M3)):=rfl
theorem Zm0{Φ:List (Str×SpM)}{σ:Sm}{M:MH}{Q:QM}{a b:IE}:wE Φ (.and a b) σ M Q=(wE Φ a σ M λx M1=>onB x λc=>(if c=true then wE Φ b σ M1 Q else Q (.bl false) M1)):=rfl
theorem e_or{Φ:List (Str×SpM)}{σ:Sm}{M:MH}{Q:QM}{a b:IE}:wE Φ (.or a b) σ M Q=(wE Φ a σ M λx M1=>onB x λc=>(if c=true then Q (.bl true) M1 else wE Φ b σ M1 Q)):=rfl
theorem ZlR{Φ:List (Str×SpM)}{σ:Sm}{M:MH}{Q:QM}{es:IEs}:wE Φ (.tup es) σ M Q=(wEs Φ es σ M λvs M1=>vs.length≤sizeLine/\Q (.tup vs) M1):=rfl
theorem ZlU{Φ:List (Str×SpM)}{σ:Sm}{M:MH}{Q:QM}{es:IEs}:wE Φ (.lst es) σ M Q=(wEs Φ es σ M λvs M1=>vs.length≤sizeLine/\∀p,M1 p=none->Q (.ref p) (updM M1 p (.lst vs))):=rfl
theorem e_ix{Φ:List (Str×SpM)}{σ:Sm}{M:MH}{Q:QM}{a b:IE}:wE Φ (.ix a b) σ M Q=(wE Φ a σ M λx M1=>wE Φ b σ M1 λy M2=>wIx x y M2 Q):=rfl
theorem e_sl{Φ:List (Str×SpM)}{σ:Sm}{M:MH}{Q:QM}{a:IE}{lo hi:IO}:wE Φ (.sl a lo hi) σ M Q=(wE Φ a σ M λx M1=>wO Φ lo σ M1 λl M2=>wO Φ hi σ M2 λh M3=>wSl x l h M3 Q):=rfl
theorem Zk3{Φ:List (Str×SpM)}{σ:Sm}{M:MH}{Q:QM}{j:Nat}{e:IE}{es:IEs}:wE Φ (.call j e es) σ M Q=(wE Φ e σ M λv M1=>wEs Φ es σ M1 λvs M2=>onF Φ[j]? λsp=>sp (v::vs) M2 Q):=rfl
theorem e_b2{Φ:List (Str×SpM)}{σ:Sm}{M:MH}{Q:QM}{f:B2}{e:IE}:wE Φ (.b2 f e) σ M Q=(wE Φ e σ M λv M1=>wB2 f v M1 Q):=rfl
theorem e_bi{Φ:List (Str×SpM)}{σ:Sm}{M:MH}{Q:QM}{f:BI}{e:IE}{es:IEs}:wE Φ (.bi f e es) σ M Q=(wE Φ e σ M λv M1=>wEs Φ es σ M1 λvs M2=>wBi f (v::vs) M2 Q):=rfl
theorem e_mt{Φ:List (Str×SpM)}{σ:Sm}{M:MH}{Q:QM}{m:MT}{o:IE}{es:IEs}:wE Φ (.mt m o es) σ M Q=(wE Φ o σ M λx M1=>mtOk m x M1/\wEs Φ es σ M1 λvs M2=>wMts m x vs M2 Q):=rfl
theorem Zbv{Φ:List (Str×SpM)}{σ:Sm}{M:MH}{Q:QM}{own:List Str}{fr:List Nat}{src:ISr}{tg:ITg}{test:IO}{elt:IE}:wE Φ (.comp own fr src tg test elt) σ M Q=(wSr Φ src σ M λS M1=>S.len<sizeLine/\∀D,M1 D=none->∃J:Nat->List MV->MH->Prop,J 0 [] (updM M1 D (.lst []))/\
   (∀i ys M2,J i ys M2->M2 D=some (.lst ys)/\ys.length≤i/\S.ok M2)/\
   (∀i x ys M2,S.items[i]?=some x->J i ys M2->wTg tg x (sCm own fr σ) λσ2=>wI Φ test σ2 M2 λb M4=>
    if b=true then wE Φ elt σ2 M4 λy M5=>M5 D=some (.lst ys)/\J (i+1) (ys++[y]) (updM M5 D (.lst (ys++[y])))else J (i+1) ys M4)/\
   ∀ys M2,J S.len ys M2->Q (.ref D) (S.thaw M2)):=rfl
theorem Zb8{M M':MH}{S:Src}(h:S.okF M):S.thaw M'=M':=by
 cases S<;>first|rfl|exact h.elim
theorem Z1j{Φ:List (Str×SpM)}{own:List Str}{fr:List Nat}{src:ISr}{tg:ITg}{elt:IE}{σ:Sm}{M:MH}{Q:QM}{α:Type}(xs:List α)(f g:α->MV)
  (hs:wSr Φ src σ M λS M1=>S.items=xs.map f/\xs.length<sizeLine/\S.okF M1/\M1=M)
  (ht:∀x∈xs,∀M',(∀a o,M a=some o->M' a=some o)->wTg tg (f x) (sCm own fr σ) λσ2=>wE Φ elt σ2 M' λy M2=>y=g x/\M2=M')
  (hΦ:∀(j:Nat) f sp,Φ[j]?=some (f,sp)->MonW sp) (q:∀D,M D=none->Q (.ref D) (updM M D (.lst (xs.map g)))):wE Φ (.comp own fr src tg .none elt) σ M Q:=by
 rw[Zbv]
 refine mon_sr hΦ src (λS M1 ⟨h1,h2,h3,h4⟩=>?_) hs
 subst h4
 have hl:S.len=xs.length:=by rw[<- S.items_len,h1,Y03]
 refine⟨by rw[hl];exact h2,λD hD=>⟨λi ys M2=>M2=updM M1 D (.lst ys)/\ys=(xs.take i).map g,⟨rfl,by simp⟩,?_,?_,?_⟩⟩
 ·rintro i ys M2 ⟨rfl,rfl⟩
  refine⟨Z02,by rw[Y03,Y0A];lia,?_⟩
  cases S with
  |tup _=>trivial
  |rng _ _=>trivial
  |rst _ _ _=>trivial
  |dic _ _ _=>exact h3.elim
  |str _=>trivial
  |lst a zs=>
   have:a≠D:=by intro e;subst e;have h3:M1 a=some (.lst zs):=h3;rw[h3]at hD;cases hD
   show updM M1 D _ a=_
   rw[Z0j this];exact h3
 ·rintro i x ys M2 hx ⟨rfl,rfl⟩
  rw[h1]at hx
  have hi:i<xs.length:=by have:=(Y08.mp hx).1;rw[Y03]at this;exact this
  rw[Y06,Y01 hi]at hx
  cases hx
  refine Z7f tg (λσ2 h=>?_) (ht xs[i] (Y0p hi) (updM M1 D (.lst ((xs.take i).map g))) (λa o e=>by
   rw[Z0j (by intro z;subst z;rw[e]at hD;cases hD)];exact e))
  rw[wI,if_pos rfl]
  refine Z04 hΦ elt (λy M2 ⟨e1,e2⟩=>?_) h
  subst e1 e2
  refine⟨Z02,Z9h,?_⟩
  rw[Y1h,Y01 hi,Y11]
  rfl
 ·rintro ys M2 ⟨rfl,rfl⟩
  rw[hl,Y0X (Y07 _),Zb8 h3]
  exact q D hD
theorem Z9S{Φ:List (Str×SpM)}{own:List Str}{fr:List Nat}{src:ISr}{tg:ITg}{elt:IE}{σ:Sm}{M:MH}{Q:QM}{α:Type}(xs:List α)(f g:α->MV)
  (hs:wSr Φ src σ M λS M1=>S.items=xs.map f/\xs.length<sizeLine/\S.okF M1/\∀a o,M a=some o->M1 a=some o)
  (ht:∀x∈xs,∀M',(∀a o,M a=some o->M' a=some o)->wTg tg (f x) (sCm own fr σ) λσ2=>wE Φ elt σ2 M' λy M2=>y=g x/\∀a o,M' a=some o->M2 a=some o)
  (hΦ:∀(j:Nat) f sp,Φ[j]?=some (f,sp)->MonW sp) (q:∀D M',M D=none->(∀a o,M a=some o->M' a=some o)->M' D=some (.lst (xs.map g))->Q (.ref D) M'):wE Φ (.comp own fr src tg .none elt) σ M Q:=by
 rw[Zbv]
 refine mon_sr hΦ src (λS M1 ⟨h1,h2,h3,h4⟩=>?_) hs
 have hl:S.len=xs.length:=by rw[<- S.items_len,h1,Y03]
 have fre:∀D,M1 D=none->M D=none:=λD hD=>by
  cases e:M D with
  |none=>rfl
  |some o=>rw[h4 _ _ e]at hD;cases hD
 have ne:∀{a D:Addr} {o:MO},M1 a=some o->M1 D=none->a≠D:=λh h' z=>by subst z;rw[h]at h';cases h'
 refine⟨by rw[hl];exact h2,λD hD=>⟨λi ys M2=>(∀a o,M1 a=some o->M2 a=some o)/\M2 D=some (.lst ys)/\ys=(xs.take i).map g,⟨λa o e=>by rw[Z0j (ne e hD)];exact e,Z02,by simp⟩,?_,?_,?_⟩⟩
 ·rintro i ys M2 ⟨s2,d2,rfl⟩
  refine⟨d2,by rw[Y03,Y0A];lia,?_⟩
  cases S with
  |tup _=>trivial
  |rng _ _=>trivial
  |rst _ _ _=>trivial
  |dic _ _ _=>exact h3.elim
  |str _=>trivial
  |lst a zs=>exact s2 _ _ h3
 ·rintro i x ys M2 hx ⟨s2,d2,rfl⟩
  rw[h1]at hx
  have hi:i<xs.length:=by have:=(Y08.mp hx).1;rw[Y03]at this;exact this
  rw[Y06,Y01 hi]at hx
  cases hx
  refine Z7f tg (λσ2 h=>?_) (ht xs[i] (Y0p hi) M2 (λa o e=>s2 _ _ (h4 _ _ e)))
  rw[wI,if_pos rfl]
  refine Z04 hΦ elt (λy M3 ⟨e1,e2⟩=>?_) h
  subst e1
  refine⟨e2 _ _ d2,λa o e=>by rw[Z0j (ne e hD)];exact e2 _ _ (s2 _ _ e),Z02,?_⟩
  rw[Y1h,Y01 hi,Y11]
  rfl
 ·rintro ys M2 ⟨s2,d2,rfl⟩
  rw[hl,Y0X (Y07 _)]at d2
  rw[Zb8 h3]
  exact q D M2 (fre D hD) (λa o e=>s2 _ _ (h4 _ _ e)) d2
theorem ZkP{i:Nat}{v:MV}{σ:Sm}{R:Sm->Prop}:wTg (.nm i) v σ R=R (σ.set i (some v)):=rfl
theorem ZkM{ts:ITgs}{xs:List MV}{σ:Sm}{R:Sm->Prop}:wTg (.tup ts) (.tup xs) σ R=wTgs ts xs σ R:=by
 exact propext ⟨fun⟨_,e,h⟩=>by cases e;exact h,λh=>⟨_,rfl,h⟩⟩
theorem ZkO{t:ITg}{ts:ITgs}{v:MV}{r:List MV}{σ:Sm}{R:Sm->Prop}:wTgs (.cons t ts) (v::r) σ R=wTg t v σ λσ'=>wTgs ts r σ' R:=by
 exact propext ⟨fun⟨_,_,e,h⟩=>by cases e;exact h,λh=>⟨_,_,rfl,h⟩⟩
theorem ZkN{σ:Sm}{R:Sm->Prop}:wTgs .nil [] σ R=R σ:=propext ⟨λh=>h.2,λh=>⟨rfl,h⟩⟩
section
variable{M:MH}
theorem Alike.lstFlat{x y:MV}{xs:List MV}(n:Nat)(h1:LstM M x xs)(h2:LstM M y xs)(f:∀v∈xs,Z2O v=true):Alike M (n+1) x y:=
 .lst h1 h2 rfl λi u v e e'=>by
  rw[e]at e';cases e'
  exact .flat n (f u (Y0i e))
end
section
variable{Φ:List (Str×SpM)}{D:EndM}{σ:Sm}{M:MH}
theorem Zkr:wSs Φ .nil D σ M=D.nx σ M:=rfl
theorem Ziu{s:IS}{r:ISs}:wSs Φ (.cons s r) D σ M=wS Φ s {nx:=λσ M=>wSs Φ r D σ M,rt:=D.rt,bk:=D.bk,ct:=D.ct} σ M:=rfl
theorem Zis:wS Φ .pass D σ M=D.nx σ M:=rfl
theorem Zkv:wS Φ .brk D σ M=D.bk σ M:=rfl
theorem Zku:wS Φ .cnt D σ M=D.ct σ M:=rfl
theorem Zgy:wS Φ .never D σ M=False:=rfl
theorem Zkq{e:IE}:wS Φ (.ret e) D σ M=wE Φ e σ M D.rt:=rfl
theorem Zir:wS Φ .retN D σ M=D.rt .non M:=rfl
theorem Zkp{i:Nat}{e:IE}:wS Φ (.set i e) D σ M=wE Φ e σ M λv M1=>D.nx (σ.set i (some v)) M1:=rfl
theorem Zkw{t:ITgs}{e:IE}:wS Φ (.asg t e) D σ M=wE Φ e σ M λv M1=>∃xs,v=.tup xs/\wTgs t xs σ λσ'=>D.nx σ' M1:=rfl
theorem Zit{e:IE}:wS Φ (.expr e) D σ M=wE Φ e σ M λ_ M1=>D.nx σ M1:=rfl
theorem Zks{c:IE}{a b:ISs}:wS Φ (.ite c a b) D σ M=wE Φ c σ M λx M1=>onB x λk=>(if k=true then wSs Φ a D σ M1 else wSs Φ b D σ M1):=rfl
theorem Zkt{t:ITg}{s:ISr}{b:ISs}:wS Φ (.for_ t s b) D σ M=wSr Φ s σ M λS M1=>∃J:Nat->Sm->MH->Prop,J 0 σ M1/\(∀i σ M,J i σ M->S.ok M)/\
   (∀i x σ M,S.items[i]?=some x->J i σ M->wTg t x σ λσ2=>wSs Φ b {nx:=J (i+1),rt:=λv M=>S.okT M/\D.rt v (S.thaw M),bk:=λσ M=>S.okT M/\D.nx σ (S.thaw M),ct:=J (i+1)} σ2 M)/\∀σ M,J S.len σ M->D.nx σ (S.thaw M):=rfl
theorem Zju{Q:Option Int->MH->Prop}:wO Φ .none σ M Q=Q none M:=rfl
theorem Zjt{e:IE}{Q:Option Int->MH->Prop}:wO Φ (.some e) σ M Q=wE Φ e σ M λv M1=>∃i,v=.int i/\Q (some i) M1:=rfl
theorem ZjX{Q:Bool->MH->Prop}:wI Φ .none σ M Q=Q true M:=rfl
theorem ZjW{e:IE}{Q:Bool->MH->Prop}:wI Φ (.some e) σ M Q=wE Φ e σ M λv M1=>∃b,v=.bl b/\Q b M1:=rfl
theorem Zk2{Q:List MV->MH->Prop}:wEs Φ .nil σ M Q=Q [] M:=rfl
theorem ZhN{e:IE}{es:IEs}{Q:List MV->MH->Prop}:wEs Φ (.cons e es) σ M Q=wE Φ e σ M λv M1=>wEs Φ es σ M1 λvs M2=>Q (v::vs) M2:=rfl
theorem Zjd{Q:List (Key×MV)->MH->Prop}:wPs Φ .nil σ M Q=Q [] M:=rfl
theorem ZgM{k v:IE}{r:IPs}{Q:List (Key×MV)->MH->Prop}:wPs Φ (.cons k v r) σ M Q=wE Φ k σ M λx M1=>∃kk,keyM x=some kk/\wE Φ v σ M1 λy M2=>wPs Φ r σ M2 λl M3=>Q ((kk,y)::l) M3:=rfl
end
section
variable{Φ:List (Str×SpM)}{σ σ':Sm}{M M':MH}{Q:QM}{x x' y y' z z':MV}{o o':Option MO}{vs vs':List MV}
end
end L2
namespace L2
open PySem PySem.Spec PyProof.Rows
theorem ObjOk.there{P:Program}{w:World}{H:Hp}{h:Heap}{a:Addr}{o:HO}(x:ObjOk P w H h a o):∃u,h.get? a=some u:=by
 cases o with
 |lst xs=>obtain⟨_,_,_,_,e⟩:=x;exact⟨_,e⟩
 |tup xs=>obtain⟨_,_,_,_,o,e,_⟩:=x;exact⟨_,e⟩
 |dK kvs=>obtain⟨_,_,_,_,o,_,_,e,_⟩:=x;exact⟨_,e⟩
 |dT kvs=>obtain⟨_,_,_,_,o,_,_,e,_⟩:=x;exact⟨_,e⟩
 |set S n=>obtain⟨o,_,_,_,e,_⟩:=x;exact⟨_,e⟩
 |ins C dx fs=>obtain⟨_,_,_,e,_⟩:=x;exact⟨_,e⟩
 |own y=>exact x
 |xd fs=>obtain⟨_,⟨_,_,_,e,_⟩,_⟩:=x;exact⟨_,e⟩
 |rng lo hi=>obtain⟨_,_,_,e⟩:=x;exact⟨_,e⟩
 |frz ob u=>obtain⟨e,_⟩:=x;exact⟨_,e⟩
 |tbl ps=>exact⟨_,(show h.get? a=some _ from x)⟩
 |met f y=>exact⟨_,(show h.get? a=some _ from x)⟩
 |ext φ=>exact x.2.1
noncomputable def CX1(P:Program)(w:World):CXT:=λouter H s E e s'=>
 ∃(a C t:Addr) (B:Heap) (H':Hp),e=.ref a/\s'.os=s.os/\AllBare s'.gens/\Un (frs outer) [] H H' s.heap s'.heap/\HOk P w H' s'.heap/\Heap.FlyingW B outer a (.ref C) (.ref t) s'.heap/\
  (∀b o,s.heap.get? b=some o->b∉frs outer->(H b=none->B.get? b=some o)/\∃o',B.get? b=some o')/\(∀b u,H' b=some u->∃o,B.get? b=some o)/\E (.ref C) none H'
section
variable{P:Program}{w:World}{K:Y00}{mg:Str->Option Value}{base:Heap}{N:List Str}{qual:Str}{scope:Scope}{f:Addr}{cd:Value}{A:Around}{outer:List Env}{s₀:Shared}{H₀:Hp}{E:XK}
 {pins:List (Addr×Obj)} {σ:St} {H:Hp} {s:Shared}
theorem ZjB{a C t:Addr}{B:Heap}{s':Shared}(I:Inv (cxOf (CX1 P w) P w K mg base N qual scope f cd A outer s₀ H₀ E) pins σ H s){H':Hp}{h:Heap}(os:s'.os=s.os)(bare:AllBare s'.gens)(hu:Un (frs outer) [] H₀ H' s₀.heap h)(hok:HOk P w H' h)
  (st:B.StaysIn h) (fl:Heap.FlyingW B outer a (.ref C) (.ref t) s'.heap) (ups:h.UpToSlots s'.heap) (fun1:h.FunFrames B (envOfC qual scope s₀.heap.objs.size f cd::outer))
  (cov:∀b o,s₀.heap.get? b=some o->b∉frs outer->(H₀ b=none->B.get? b=some o)/\∃o',B.get? b=some o') (own:∀b u,H' b=some u->∃o,B.get? b=some o) (q:E (.ref C) none H'):CX1 P w outer H₀ s₀ E (.ref a) s':=by
 have frm:∀b∈frs outer,∃o,h.get? b=some o/\∀vs,o.data≠.fields vs:=λb hb=>(fun1.2.2.mem hb).2
 refine⟨a,C,t,B,H',rfl,os.trans I.os,bare,⟨λb o e n hb _=>fl.1 b o ((cov b o e hb).1 n),λb o e n hb hx=>?_,λb o e n hx=>hu.free b o e n hx,λb o e hx=>?_,hu.tups,hu.frzs,hu.tbls⟩,λb u e=>?_,fl,cov,own,q⟩
 ·obtain⟨sl,e1⟩:=hu.slot b o e n hb hx
  obtain⟨o1,e2,nf⟩:=frm b hb
  rw[e1]at e2;cases e2
  obtain⟨sl2,e3⟩:=ups b _ e1 nf
  exact⟨sl2,e3⟩
 ·by_cases hb:b∈frs outer
  ·obtain⟨o1,e2,nf⟩:=frm b hb
   obtain⟨sl2,e3⟩:=ups b _ e2 nf
   exact⟨_,e3⟩
  ·obtain⟨o',e'⟩:=(cov b o e hb).2
   exact⟨o',fl.1 b o' e'⟩
 ·refine(hok b u e).stay (λc v hc r=>?_) (λ_ z=>z) λ_ _ z=>z
  obtain⟨o,ho⟩:∃o,B.get? c=some o:=by
   rcases hc with rfl|hc
   ·exact own _ _ e
   ·exact own _ _ hc
  have:=st c o ho
  rw[r]at this;cases this
  exact fl.1 c _ ho
theorem ZiB{a C:Addr}{h':Heap}{vs:List Value}(I:Inv (cxOf (CX1 P w) P w K mg base N qual scope f cd A outer s₀ H₀ E) pins σ H s)(hx:Heap.MadeExcOf s.heap h' a (.ref C) vs)(q:E (.ref C) none H):
  (cxOf (CX1 P w) P w K mg base N qual scope f cd A outer s₀ H₀ E).xe (.ref a) {s with heap:=h'}:=by
 have hst:=I.stack
 have stk:frs (cxOf (CX1 P w) P w K mg base N qual scope f cd A outer s₀ H₀ E).stack=s₀.heap.objs.size::frs outer:=rfl
 have hB:(Y28 s.heap (frs (envOfC qual scope s₀.heap.objs.size f cd::outer))).StaysIn s.heap:=λb o e=>PySem.W.of_hideAll _ e
 have get:∀b o,s.heap.get? b=some o->b∉frs (envOfC qual scope s₀.heap.objs.size f cd::outer)->(Y28 s.heap (frs (envOfC qual scope s₀.heap.objs.size f cd::outer))).get? b=some o:=λb o e n=>Y3x _ e n
 have nfr:∀b o,s₀.heap.get? b=some o->b∉frs outer->b∉frs (envOfC qual scope s₀.heap.objs.size f cd::outer):=λb o e n z=>by
  rcases Y0d.mp (show b∈s₀.heap.objs.size::frs outer from z)with rfl|z
  ·exact absurd (Y09 e) (Y1H _)
  ·exact n z
 have ff:=PySem.W.funFrames_hide hst λenv he b hb=>Y2A.mpr ⟨env,he,hb⟩
 have un:Un (frs outer) [] H₀ H s₀.heap s.heap:=I.base
 have cov:∀b o,s₀.heap.get? b=some o->b∉frs outer->(H₀ b=none->(Y28 s.heap (frs (envOfC qual scope s₀.heap.objs.size f cd::outer))).get? b=some o)/\∃o',(Y28 s.heap (frs (envOfC qual scope s₀.heap.objs.size f cd::outer))).get? b=some o':=λb o e n=>by
  refine⟨λz=>get b o (un.keep b o e z n (by simp)) (nfr b o e n),?_⟩
  obtain⟨o',e'⟩:=un.there b o e (by simp)
  exact⟨o',get b o' e' (nfr b o e n)⟩
 refine wpAny_leaves_madeW I.ok.frames rfl hB ff hx λh'' t fl _ _ ups=>?_
 refine ZjB (h:=s.heap) (s':={s with heap:=h''}) I rfl I.bare un I.hok hB fl ((Heap.UpToSlots.of_keeps hx.keeps).trans ups) ff cov (λb u e=>?_) q
 obtain⟨o,ho⟩:=(I.hok b u e).there
 exact⟨o,get b o ho λz=>by rw[I.stkFree b z]at e;cases e⟩
theorem ZlB:Zag (CX1 P w) (cxOf (CX1 P w) P w K mg base N qual scope f cd A outer s₀ H₀ E) E:=by
 intro pins σ H s e s' I hc
 obtain⟨a,C,t,B,H',rfl,os,bare,un,hok,fl,cov,own,q⟩:=hc
 have I':=I.call' os un hok bare (λ_ z=>nomatch z)
 refine wpAny_leaves_onW I.ok.frames rfl fl λh'' fl' ups=>?_
 refine ZjB (h:=s'.heap) (s':={s' with heap:=h''}) I os bare I'.base hok fl.1 fl' ups fl.2.2.1 (λb o e n=>?_) own q
 have nfr:b∉frs (envOfC qual scope s₀.heap.objs.size f cd::outer):=λz=>by
  rcases Y0d.mp (show b∈s₀.heap.objs.size::frs outer from z)with rfl|z
  ·exact absurd (Y09 e) (Y1H _)
  ·exact n z
 refine⟨λz=>?_,?_⟩
 ·exact(cov b o (I.base.keep b o e z n (by simp[cxOf])) nfr).1 (I.base.free b o e z (by simp[cxOf]))
 ·obtain⟨o',e'⟩:=I.base.there b o e (by simp[cxOf])
  exact(cov b o' e' nfr).2
theorem own1:PassesOwn (model P w) (cxOf (CX1 P w) P w K mg base N qual scope f cd A outer s₀ H₀ E).A (cxOf (CX1 P w) P w K mg base N qual scope f cd A outer s₀ H₀ E).env (cxOf (CX1 P w) P w K mg base N qual scope f cd A outer s₀ H₀ E).xe:=by
 unfold cxOf
 passes_own
end
end L2
namespace L2
open PySem PySem.Spec PyProof.Rows
noncomputable def nsOk(K:Y00)(N:Addr):Bool:=match K.lookup N with
 |some ⟨_,_,.dict es _,_⟩=>es.toList.all (fun e=>match e.key with|.str _ _=>true|_=>false)&&(nsFind es "__init__").isNone
 |_=>false
theorem Zd9{K:Y00}{N:Addr}(e:nsOk K N=true):∃mN,(∀h:Heap,K.In h->h.Ns N mN)/\mN "__init__"=none:=by
 unfold nsOk at e
 split at e
 ·rename_i c d es ep sl ho
  rw[Y04]at e
  refine⟨nsFind es,λh X=>⟨_,es,ep,X _ _ ho,rfl,λx hx=>?_,λ_=>rfl⟩,Option.isNone_iff_eq_none.mp e.2⟩
  have:=List.all_eq_true.mp e.1 x (by simpa using hx)
  split at this
  ·rename_i n t z;exact⟨n,t,z⟩
  ·cases this
 ·cases e
noncomputable abbrev veMro:List Value:=[.type "ValueError",.type "Exception",.type "BaseException",.type "object"]
noncomputable def XCls(K:Y00)(C:Addr)(bm:List Value):Prop:=
 ∃nm q N bs hdct sn sub ab col dd k0 k1 k2 k3 k5,K.lookup C=some (excClassObj nm q C N bs bm hdct sn sub ab col dd k0 k1 k2 k3 k5 "ValueError.__new__")/\nsOk K N=true
theorem ZeJ{K:Y00}{h:Heap}{F:Addr}(X:K.In h)(hF:XCls K F veMro):OwnTail h veMro (.ref F::veMro):=by
 obtain⟨nm,q,N,bs,hdct,sn,sub,ab,col,dd,k0,k1,k2,k3,k5,l,n⟩:=hF
 obtain⟨mN,a,b⟩:=Zd9 n
 exact .own (X _ _ l) (a h X) b .base
section
variable{X:Cx}{C F:Addr}{x:Str}{a:Expr}{t:TA}{R:Hp->Prop}{np cpos pos:Pos}
theorem Zbg(hF:XCls X.K F veMro)(hC:XCls X.K C (.ref F::veMro))(hc:X.calm=true)(hg:Gl X x)(hm:X.mg x=some (.ref C))(ha:PA X [a] t)
  (hxe:∀pins σ H s h' e vs,Inv X pins σ H s->Heap.MadeExcOf s.heap h' e (.ref C) vs->R H->X.xe (.ref e) {s with heap:=h'})
  (hdb:(x==("__debug__":Str))=false) (he:starEach [a] X.env=(false,eval a X.env)::starEach [] X.env):
  PS X (.Raise (some (.Call (.Name x np) [a] [] cpos)) none pos) (λ_ σ H=>t σ H λvs H1=>vs.length≤sizeLine/\R H1):=by
 intro pins s σ H D I h
 obtain⟨nm,q,N,bs,hdct,sn,sub,ab,col,dd,k0,k1,k2,k3,k5,l,n⟩:=hC
 have hplain:(backTo cpos (starEach [a] X.env)).any (·.1)=false:=by rw[he];rfl
 obtain⟨mN,hmN,hni⟩:=Zd9 n
 refine wpAny_Raise_call_subT (mN:=mN) (C:=C) (nm:=nm) (q:=q) (N:=N) (bs:=bs) (bm:=.ref F::veMro) (hdct:=hdct) (sn:=sn) (sub:=sub) (ab:=ab) (col:=col) (dd:=dd) (k0:=k0) (k1:=k1) (k2:=k2) (k3:=k3) (k5:=k5) PySem.F.excBase_ValueError (by rw[List.contains_cons,show veMro.contains (Y0n "BaseException")=true by decide+kernel,Y1G]) (I.ok.hd hc) hplain hni ?_
 refine Z5Y I hg hm ⟨rfl,?_⟩ hdb
 have h2:=ha cpos pins s σ H _ I h
 rw[he]at h2 ⊢
 refine Calls.evalArgs_plain (wpAny_mono h2 (λus s1 hs=>?_) λ_ _ z=>z)
 obtain⟨vs,H1,I1,r,hl,q1⟩:=hs
 exact⟨rfl,by rw[<- r.length];exact hl,I1.kIn _ _ l,hmN _ I1.kIn,ZeJ I1.kIn hF,λh' e hm=>hxe pins σ H1 s1 h' e us I1 hm q1⟩
end
end L2
namespace L2
open PySem PySem.Spec PyProof.Rows
structure ShortT (x:Str):Prop where
 len:x.length≤100
 cps:∀c∈x.cps.toList,c<16^8
theorem ShortT.rep{x:Str}(h:ShortT x):(reprText x).length≤1002:=by
 have:=StrLaws.reprText_len x h.cps
 have:=h.len
 omega
noncomputable def Zch(sc:Scope)(N:List Str)(i:Nat):List Expr->Bool
 |[]=>true
 |.FormattedValue (.Name x _) 114 none _::r=>decide (N[i]?=some x)&&visB sc x&& !(x==("__debug__":Str))&& !(x==("__classdict__":Str))&&Zch sc N i r
 |.Constant (.str s) _ _::r=>decide (s.length≤1000)&&Zch sc N i r
 |_=>false
section
variable{X:Cx}{pins:List (Addr×Obj)}{σ:St}{H:Hp}{i:Nat}{x:Str}{R:Str->Shared->Prop}
theorem Zf1(hx:ShortT x)(hσ:σ[i]?=some (some (.str x))):∀(parts:List Expr) (acc:Str) (s:Shared),Zch X.env.scope X.N i parts=true->Inv X pins σ H s->acc.length+1100*parts.length≤sizeLine->
  (∀out s1,Inv X pins σ H s1->out.length≤sizeLine->R out s1)->Joins (model X.prog X.w) X.A X.xe (evalEach parts X.env) acc R s:=by
 intro parts
 induction parts with
 |nil=>intro acc s _ I hl k;exact k acc s I (by simpa using hl)
 |cons e r ih=>
  intro acc s h I hl k
  have hl:acc.length+1100+1100*r.length≤sizeLine:=by rw[Y0I]at hl;omega
  unfold Zch at h
  split at h
  ·cases ‹_::_=[]›
  ·rename_i h0
   cases h0
   simp only[Y04,Y1r,decide_eq_true_eq]at h
   obtain⟨⟨⟨⟨a1,a2⟩,a3⟩,a4⟩,a5⟩:=h
   have hr:=hx.rep
   have fin:∀t' s1,Inv X pins σ H s1->∃y t,Y0v (reprText x) t'=.str y t/\(acc++y).length≤sizeLine/\Joins (model X.prog X.w) X.A X.xe (evalEach r X.env) (acc++y) R s1:=λt' s1 I1=>by
    refine⟨_,_,rfl,?_,ih _ _ a5 I1 ?_ k⟩
    ·rw[strLen_append];omega
    ·rw[strLen_append];omega
   refine wpAny_FormattedValue_repr (thn (Z9v a1 (ZfB a2) a3 a4 pins s σ H (λv H'=>v=.str x/\H'=H) I ⟨_,hσ,rfl,rfl⟩) λu s1 ⟨v,H1,I1,r1,e1,e2⟩=>?_)
   subst e1 e2
   obtain⟨t,rfl⟩:=r1
   exact pyReprObj_str (wpAny_handedOn (fin _ _ (I1.tok _)) (fin _ _ (I1.tok _)) (by omega)) (by omega)
  ·rename_i h0
   cases h0
   simp only[Y04,decide_eq_true_eq]at h
   obtain⟨h1,h2⟩:=h
   refine Calls.Constant_str ⟨_,_,rfl,?_,ih _ _ h2 (I.tok _) ?_ k⟩
   ·rw[strLen_append];omega
   ·rw[strLen_append];omega
  ·cases h
noncomputable def asFs:Expr->Option (List Expr)|.JoinedStr (a::b::r) _=>some (a::b::r)|_=>none
theorem Zej{e:Expr}{q:List Expr}(h:asFs e=some q):∃a b r p,q=a::b::r/\e=.JoinedStr (a::b::r) p:=by
 unfold asFs at h
 split at h
 ·cases h;exact⟨_,_,_,_,rfl,rfl⟩
 ·cases h
noncomputable def tFs(i:Nat):TE:=λσ H Q=>∃x,σ[i]?=some (some (.str x))/\ShortT x/\∀y,Q (.str y) H
theorem Zlz{e:Expr}{q:List Expr}(h1:asFs e=some q)(h2:q.length≤10)(h3:Zch X.env.scope X.N i q=true):PE X e (tFs i):=by
 obtain⟨a,b,r,p,rfl,rfl⟩:=Zej h1
 rintro pins s σ H Q I ⟨x,hσ,hx,q⟩
 refine wpAny_JoinedStr (Zf1 hx hσ _ _ _ h3 I ?_ λout s1 I1 hl=>⟨hl,?_⟩)
 ·have:(Y3b).length=0:=rfl
  have:20000≤sizeLine:=by decide
  omega
 ·exact⟨.str out,H,I1.tok _,⟨_,rfl⟩,q out⟩
end
end L2
namespace L2
set_option genInjectivity false
open PySem PySem.Spec PyProof.Rows
noncomputable abbrev SpX:=List MV->MH->QM->(Str->MH->Prop)->Prop
noncomputable def MonX(sp:SpX):Prop:=∀⦃vs:List MV⦄ ⦃M:MH⦄ ⦃Q Q':QM⦄ ⦃X X':Str->MH->Prop⦄,(∀v M,Q v M->Q' v M)->(∀c M,X c M->X' c M)->sp vs M Q X->sp vs M Q' X'
noncomputable def liEx(K:Y00)(E:XK)(H:Hp):Str->MH->Prop:=λc M'=>∀C H',Y0h K mainGlobals c=some (some (.ref C))->Kp H H'->RH K M' H'->E (.ref C) none H'
noncomputable def Z7V(K:Y00)(sp:SpX):Sp:=λvs H Q E=>∃ms M,RMs K H ms vs/\RH K M H/\sp ms M (Dn K H Q) (liEx K E H)
mutual
inductive IX where
 |pl (s:IS)
 |rs (c:Str) (e:IE)
 |rf (c:Str) (i:Nat)
 |cl (j:Nat) (e:IE) (es:IEs)
 |st (i j:Nat) (e:IE) (es:IEs)
 |rt (j:Nat) (e:IE) (es:IEs)
 |ite (c:IE) (a b:IXs)
 |for_ (t:ITg) (s:ISr) (b:IXs)
inductive IXs where|nil|cons (s:IX) (r:IXs)
end
noncomputable def Src.flat:Src->Prop
 |.dic _ _ _=>False
 |_=>True
section
variable(Φ:List (Str×SpM))(Ψ:List (Str×SpX))(ex:Str->MH->Prop)
mutual
noncomputable def wX:IX->EndM->Sm->MH->Prop
 |.pl s,D,σ,M=>wS Φ s D σ M
 |.rs c e,_,σ,M=>wE Φ e σ M λ_ M1=>ex c M1
 |.rf c i,_,σ,M=>∃x,σ[i]?=some (some (.str x))/\ShortT x/\ex c M
 |.cl j e es,D,σ,M=>wE Φ e σ M λv M1=>wEs Φ es σ M1 λvs M2=>∃f sp,Ψ[j]?=some (f,sp)/\sp (v::vs) M2 (λ_ M3=>D.nx σ M3) ex
 |.st i j e es,D,σ,M=>wE Φ e σ M λv M1=>wEs Φ es σ M1 λvs M2=>∃f sp,Ψ[j]?=some (f,sp)/\sp (v::vs) M2 (λx M3=>D.nx (σ.set i (some x)) M3) ex
 |.rt j e es,D,σ,M=>wE Φ e σ M λv M1=>wEs Φ es σ M1 λvs M2=>∃f sp,Ψ[j]?=some (f,sp)/\sp (v::vs) M2 D.rt ex
 |.ite c a b,D,σ,M=>wE Φ c σ M λx M1=>onB x λk=>(if k=true then wXs a D σ M1 else wXs b D σ M1)
 |.for_ t s b,D,σ,M=>wSr Φ s σ M λS M1=>S.flat/\∃J:Nat->Sm->MH->Prop,J 0 σ M1/\(∀i σ M,J i σ M->S.ok M)/\
   (∀i x σ M,S.items[i]?=some x->J i σ M->wTg t x σ λσ2=>wXs b {nx:=J (i+1),rt:=D.rt,bk:=D.nx,ct:=J (i+1)} σ2 M)/\∀σ M,J S.len σ M->D.nx σ M
noncomputable def wXs:IXs->EndM->Sm->MH->Prop
 |.nil,D,σ,M=>D.nx σ M
 |.cons s r,D,σ,M=>wX s {nx:=λσ M=>wXs r D σ M,rt:=D.rt,bk:=D.bk,ct:=D.ct} σ M
end
end
section
variable{Φ:List (Str×SpM)}{Ψ:List (Str×SpX)}{ex:Str->MH->Prop}
theorem Zcq{c:IE}{a b:IXs}{D:EndM}{σ:Sm}{M:MH}:wX Φ Ψ ex (.ite c a b) D σ M=wE Φ c σ M λx M1=>∃k,x=.bl k/\(if k=true then wXs Φ Ψ ex a D σ M1 else wXs Φ Ψ ex b D σ M1):=by rw[wX];simp only[Z78]
mutual
theorem Zjv(hΦ:∀(j:Nat) f sp,Φ[j]?=some (f,sp)->MonW sp) (hΨ:∀(j:Nat) f sp,Ψ[j]?=some (f,sp)->MonX sp):∀(s:IX) {ex':Str->MH->Prop} {D D':EndM} {σ:Sm} {M:MH},(∀c M,ex c M->ex' c M)->D.Le D'->wX Φ Ψ ex s D σ M->wX Φ Ψ ex' s D' σ M
 |.pl s,ex',D,D',σ,M,hx,l,h=>by exact ZeU hΦ s l h
 |.rs c e,ex',D,D',σ,M,hx,l,h=>by exact Z04 hΦ e (λv M1 h1=>hx _ _ h1) h
 |.rf c i,ex',D,D',σ,M,hx,l,⟨x,e,t,h⟩=>by exact⟨x,e,t,hx _ _ h⟩
 |.cl j e es,ex',D,D',σ,M,hx,l,h=>by
  exact Z04 hΦ e (λv M1 h1=>mon_es hΦ es (λvs M2 ⟨f,sp,e,h2⟩=>⟨f,sp,e,hΨ j f sp e (λ_ _ z=>l.nx _ _ z) hx h2⟩) h1) h
 |.st i j e es,ex',D,D',σ,M,hx,l,h=>by
  exact Z04 hΦ e (λv M1 h1=>mon_es hΦ es (λvs M2 ⟨f,sp,e,h2⟩=>⟨f,sp,e,hΨ j f sp e (λ_ _ z=>l.nx _ _ z) hx h2⟩) h1) h
 |.rt j e es,ex',D,D',σ,M,hx,l,h=>by
  exact Z04 hΦ e (λv M1 h1=>mon_es hΦ es (λvs M2 ⟨f,sp,e,h2⟩=>⟨f,sp,e,hΨ j f sp e l.rt hx h2⟩) h1) h
 |.ite c a b,ex',D,D',σ,M,hx,l,h=>by
  rw[Zcq]at h ⊢
  exact Z04 hΦ c (λx M1 ⟨k,e,h1⟩=>⟨k,e,Z16 (mon_xs hΦ hΨ a hx l) (mon_xs hΦ hΨ b hx l) h1⟩) h
 |.for_ t s b,ex',D,D',σ,M,hx,l,h=>by
  refine mon_sr hΦ s (λS M1 ⟨fl,J,j0,j1,j2,j3⟩=>⟨fl,J,j0,j1,λi x σ M hi hj=>?_,λσ M hj=>l.nx _ _ (j3 σ M hj)⟩) h
  exact Z7f t (λσ2 h2=>by refine mon_xs hΦ hΨ b hx ?_ h2;exact⟨λ_ _ z=>z,l.rt,l.nx,λ_ _ z=>z⟩) (j2 i x σ M hi hj)
theorem mon_xs(hΦ:∀(j:Nat) f sp,Φ[j]?=some (f,sp)->MonW sp) (hΨ:∀(j:Nat) f sp,Ψ[j]?=some (f,sp)->MonX sp):∀(s:IXs) {ex':Str->MH->Prop} {D D':EndM} {σ:Sm} {M:MH},(∀c M,ex c M->ex' c M)->D.Le D'->wXs Φ Ψ ex s D σ M->wXs Φ Ψ ex' s D' σ M
 |.nil,ex',D,D',σ,M,hx,l,h=>by exact l.nx _ _ h
 |.cons s r,ex',D,D',σ,M,hx,l,h=>by
  refine Zjv hΦ hΨ s hx ?_ h
  exact⟨λσ M h1=>mon_xs hΦ hΨ r hx l h1,l.rt,l.bk,l.ct⟩
end
end
noncomputable def Z9a:Stmt->Option (Str×Expr)
 |.Raise (some (.Call (.Name x _) [a] [] _)) none _=>some (x,a)
 |_=>none
theorem Z8x{st:Stmt}{q:Str×Expr}(h:Z9a st=some q):∃np cpos pos,st=.Raise (some (.Call (.Name q.1 np) [q.2] [] cpos)) none pos:=by
 unfold Z9a at h
 split at h
 ·cases h;exact⟨_,_,_,rfl⟩
 ·cases h
structure GX where
 g:GI
 xf:List Str
 xc:List Str
noncomputable def chkC(G:GX)(sc:Scope)(N:List Str)(j:Nat)(e:IE)(es:IEs)(v:Expr):Bool:=
 (Z2R v).any λq=>(Z0K q.1).any λf=>(hd1 q.2.1).any λy=>non0 q.2.2.1&&decide (G.xf[j]?=some f)&&glB sc f&&chkE G.g e sc N y.1&&chkEs G.g es sc N y.2
mutual
noncomputable def chkX(G:GX)(sc:Scope)(N:List Str):IX->Stmt->Bool
 |.pl s,st=>chkS G.g sc N s st
 |.rs c e,st=>(Z9a st).any λq=>decide (q.1=c)&&G.xc.contains c&&glB sc c&&chkE G.g e sc N q.2
 |.rf c i,st=>(Z9a st).any λq=>(asFs q.2).any λl=>decide (q.1=c)&&G.xc.contains c&&glB sc c&&decide (l.length≤10)&&Zch sc N i l
 |.cl j e es,st=>(asEx st).any λv=>chkC G sc N j e es v
 |.st i j e es,st=>(Zb5 st).any λq=>(the1 q.1).any λt=>(Z0K t).any λx=>decide (N[i]?=some x)&&locB sc x&&chkC G sc N j e es q.2
 |.rt j e es,st=>(Zi0 st).any λo=>o.any λx=>chkC G sc N j e es x
 |.ite c a b,s=>(Zi2 s).any λq=>tok c&&chkE G.g c sc N q.1&&chkXs G sc N a q.2.1&&chkXs G sc N b q.2.2
 |.for_ t r b,s=>(Zi3 s).any λq=>Z67 sc N N.length true t q.1&&chkSr G.g r sc N q.2.1&&Z8f q.2.1&&chkXs G sc N b q.2.2.1&&non0 q.2.2.2
noncomputable def chkXs(G:GX)(sc:Scope)(N:List Str):IXs->List Stmt->Bool
 |.nil,l=>non0 l
 |.cons s r,l=>(hd1 l).any λq=>chkX G sc N s q.1&&chkXs G sc N r q.2
end
theorem Ze1{G:GX}{sc:Scope}{N:List Str}{j:Nat}{a:IE}{es:IEs}{v:Expr}(h:chkC G sc N j a es v=true):∃f p x xs p2,v=.Call (.Name f p) (x::xs) [] p2/\G.xf[j]?=some f/\glB sc f=true/\chkE G.g a sc N x=true/\chkEs G.g es sc N xs=true:=by
 replace h:=Z01 h
 obtain⟨⟨f,l,ks,p2⟩,h1,h⟩:=h
 obtain rfl:=Z0S h1
 replace h:=Z01 h
 obtain⟨g,h2,h⟩:=h
 obtain⟨p,rfl⟩:=Z09 h2
 replace h:=Z01 h
 obtain⟨⟨x,xs⟩,h3,h⟩:=h
 obtain rfl:=Z3i h3
 simp only[Y04]at h
 obtain⟨⟨⟨⟨a1,a2⟩,a3⟩,a4⟩,a5⟩:=h
 obtain rfl:=Z0s a1
 exact⟨g,p,x,xs,p2,rfl,Z05 a2,a3,a4,a5⟩
section
variable{X:Cx}{E:Value->Shared->Prop}
theorem PA.nox{es:List Expr}{t:TA}(h:PA X.nox es t):PA X es t:=λpos pins s σ H Q I hw=>
 wpAny_mono (h pos pins s σ H Q (I.wish _) hw) (λ_ _ ⟨v,H',I',r,q⟩=>⟨v,H',I'.unwish,r,q⟩) λ_ _ z=>Y0G z
theorem PS.nox{st:Stmt}{t:TS}(h:PS X.nox st t):PS X st t:=λpins s σ H D I hw=>
 wpAny_mono (h pins s σ H D (I.wish _) hw) (λ_ _ q=>q.unwish) λ_ _ z=>Y0G z
theorem PG.nox{e:Expr}{t:TG}(h:PG X.nox e t):PG X e t:=λpins s σ H v u Q I r hw=>
 wpAny_mono (h pins s σ H v u Q (I.wish _) r hw) (λ_ _ ⟨σ',H',I',q⟩=>⟨σ',H',I'.unwish,q⟩) λ_ _ z=>Y0G z
theorem PI.nox{tg e:Expr}{t:TI}(h:PI X.nox tg e t):PI X tg e t:=λpins s σ H R I hw=>
 wpAny_mono (h pins s σ H R (I.wish _) hw) (λ_ _ q=>wpAny_mono q (λ_ _ ⟨it,fp,tn,J,H',e,I',T,t0,f,r⟩=>⟨it,fp,tn,J,H',e,I'.unwish,T,t0,f,r⟩) λ_ _ z=>Y0G z) λ_ _ z=>Y0G z
end
structure Xok (X:Cx) (G:GX) (Φ:List (Str×SpM)) (Ψ:List (Str×SpX)) (H₀:Hp) (E:XK):Prop where
 c:Cok X.nox G.g Φ
 nd:X.N.Nodup
 calm:X.calm=true
 own:PassesOwn (model X.prog X.w) X.A X.env X.xe
 pass:Zag (CX1 X.prog X.w) X E
 rais:∀pins σ H s h' e C vs,Inv X pins σ H s->Heap.MadeExcOf s.heap h' e (.ref C) vs->E (.ref C) none H->X.xe (.ref e) {s with heap:=h'}
 mon:∀(j:Nat) f sp,Ψ[j]?=some (f,sp)->MonX sp
 fnn:∀(j:Nat) f,G.xf[j]?=some f->∃sp,Ψ[j]?=some (f,sp)
 fns:∀(j:Nat) f sp,G.xf[j]?=some f->Ψ[j]?=some (f,sp)->∃k fa fd ps,Room k X.A/\FnOk X.prog X.w X.K X.mg X.base (CX1 X.prog X.w) k fa fd ps (Z7V X.K sp)/\X.mg f=some (.ref fa)/\Y0V X.K (.ref fa)=true/\Binds X.K fd ps []
 exc:∀c,G.xc.contains c=true->∃C F,X.mg c=some (.ref C)/\Y0h X.K mainGlobals c=some (some (.ref C))/\XCls X.K F veMro/\XCls X.K C (.ref F::veMro)
noncomputable def liXt(K:Y00)(H₀:Hp)(t:EndM->Sm->MH->Prop):TS:=λD σ H=>Kp H₀ H/\∃σm M,RS K H σm σ/\RH K M H/\t (liD K H D) σm M
section
variable{X:Cx}{G:GX}{Φ:List (Str×SpM)}{Ψ:List (Str×SpX)}{H₀:Hp}{E:XK}{ex:Str->MH->Prop}
theorem sCl(x:Xok X G Φ Ψ H₀ E)(hex:∀c M',ex c M'->liEx X.K E H₀ c M'){j:Nat}{a:IE}{es:IEs}{v:Expr}(h:chkC G X.env.scope X.N j a es v=true):
  PE X v (λσ H Q=>Kp H₀ H/\∃σm M,RS X.K H σm σ/\RH X.K M H/\wE Φ a σm M λv M1=>wEs Φ es σm M1 λvs M2=>∃f sp,Ψ[j]?=some (f,sp)/\sp (v::vs) M2 (Dn X.K H Q) ex)/\Z3u v=true:=by
 obtain⟨f,p,y,ys,p2,rfl,h1,h2,h3,h4⟩:=Ze1 h
 obtain⟨g1,g2,g3⟩:=Z2N h2
 obtain⟨sp,hj⟩:=x.fnn j f h1
 obtain⟨k,fa,fd,ps,hr,F,hm,hk,hb⟩:=x.fns j f sp h1 hj
 have c:=x.c
 have ha:PA X (y::ys) (Z6Z (liE X.K (wE Φ a)) (liA X.K (wEs Φ es))):=PA.nox (Z0r (X:=X.nox) (sE a c h3).pe (sA es c h4) (Z0a h3))
 refine⟨(Zd6 (E:=E) F hr g1 hm hk hb .nil x.pass ha g2 (Z0a h3) (Z36 (Z2k (pos:=p2) h4)).2).weak λσ H Q hw=>?_,rfl⟩
 obtain⟨k0,σm,M,rs,rh,hw⟩:=hw
 refine⟨σm,M,rs,rh,Z04 c.mon a (λv M1 q1=>?_) hw⟩
 intro u H1 k1 r1 rh1
 refine⟨σm,M1,rs.mono k1,rh1,mon_es c.mon es (λvs M2 ⟨f',sp',e,q2⟩=>?_) q1⟩
 rw[hj]at e
 cases e
 intro us H2 k2 r2 rh2
 refine⟨v::vs,M2,?_,rh2,x.mon j f sp hj (λm M' hq=>hq.on (k1.trans k2)) (λc' M' hc C H' e' kk rr=>hex c' M' hc C H' e' (k0.trans (k1.trans (k2.trans kk))) rr) q2⟩
 rw[Y1i]
 exact .cons (r1.mono k2) r2
mutual
theorem sX(x:Xok X G Φ Ψ H₀ E)(hex:∀c M',ex c M'->liEx X.K E H₀ c M')(hf:∀y,X.fn y=true):∀(is:IX) {st:Stmt},chkX G X.env.scope X.N is st=true->PS X st (liXt X.K H₀ (wX Φ Ψ ex is))
 |.pl s,st,h=>by
  refine(PS.nox (sS s x.c hf h)).weak λD σ H hw=>?_
  obtain⟨_,hw⟩:=hw
  exact hw
 |.rs c e,st,h=>by
  replace h:=Z01 h
  obtain⟨⟨n,a⟩,h1,h⟩:=h
  obtain⟨np,cpos,pos,rfl⟩:=Z8x h1
  simp only[Y04]at h
  obtain⟨⟨⟨a1,a2⟩,a3⟩,a4⟩:=h
  obtain rfl:=Z05 a1
  obtain⟨g1,g2,g3⟩:=Z2N a3
  obtain⟨C,F,m1,m2,cF,cC⟩:=x.exc _ a2
  have ha:PA X [a] (Z6Z (liE X.K (wE Φ e)) tNil):=PA.nox (Z0r (X:=X.nox) (sE e x.c a4).pe pa_nil (Z0a a4))
  refine(Zbg (R:=λH=>E (.ref C) none H) cF cC x.calm g1 m1 ha (λpins σ H s h' e vs I hm q=>x.rais pins σ H s h' e C vs I hm q) g2 (Z0a a4)).weak λD σ H hw=>?_
  obtain⟨k0,σm,M,rs,rh,hw⟩:=hw
  refine⟨σm,M,rs,rh,Z04 x.c.mon e (λv M1 q1=>?_) hw⟩
  intro u H1 k1 r1 rh1
  refine⟨by rw[Y1x];decide,?_⟩
  exact hex _ _ q1 C H1 m2 (k0.trans k1) rh1
 |.rf c i,st,h=>by
  replace h:=Z01 h
  obtain⟨⟨n,a⟩,h1,h⟩:=h
  obtain⟨np,cpos,pos,rfl⟩:=Z8x h1
  replace h:=Z01 h
  obtain⟨l,h2,h⟩:=h
  simp only[Y04]at h
  obtain⟨⟨⟨⟨a1,a2⟩,a3⟩,a4⟩,a5⟩:=h
  obtain rfl:=Z05 a1
  obtain⟨g1,g2,g3⟩:=Z2N a3
  obtain⟨C,F,m1,m2,cF,cC⟩:=x.exc _ a2
  have st1:starEach [a] X.env=(false,eval a X.env)::starEach [] X.env:=by obtain⟨_,_,_,_,_,e⟩:=Zej h2;cases e;rfl
  have ha:PA X [a] (Z6Z (tFs i) tNil):=Z0r (Zlz h2 (Z05 a4) a5) pa_nil st1
  refine(Zbg (R:=λH=>E (.ref C) none H) cF cC x.calm g1 m1 ha (λpins σ H s h' e vs I hm q=>x.rais pins σ H s h' e C vs I hm q) g2 st1).weak λD σ H hw=>?_
  obtain⟨k0,σm,M,rs,rh,y,hy,hs,hw⟩:=hw
  obtain⟨v,hv,rv⟩:=rs.2 i _ hy
  cases rv
  refine⟨y,hv,hs,λz=>⟨by rw[Y1x];decide,?_⟩⟩
  exact hex _ _ hw C H m2 k0 rh
 |.cl j e es,st,h=>by
  replace h:=Z01 h
  obtain⟨v,h1,h⟩:=h
  obtain⟨p,rfl⟩:=Z9b h1
  obtain⟨hp,hn⟩:=sCl x hex h
  refine(ZcV hp (Z52 hn)).weak λD σ H hw=>?_
  obtain⟨k0,σm,M,rs,rh,hw⟩:=hw
  refine⟨k0,σm,M,rs,rh,Z04 x.c.mon e (λv M1 q1=>mon_es x.c.mon es (λvs M2 ⟨f,sp,e1,q2⟩=>⟨f,sp,e1,x.mon j f sp e1 (λm M' z=>?_) (λ_ _ z=>z) q2⟩) q1) hw⟩
  intro u H1 k1 r1 rh1
  exact z _ _ k1 (rs.mono k1) rh1
 |.st i j e es,st,h=>by
  replace h:=Z01 h
  obtain⟨⟨ts,v⟩,h1,h⟩:=h
  obtain⟨p,rfl⟩:=Z37 h1
  replace h:=Z01 h
  obtain⟨t,h2,h⟩:=h
  obtain rfl:=Z1b h2
  replace h:=Z01 h
  obtain⟨y,h3,h⟩:=h
  obtain⟨px,rfl⟩:=Z09 h3
  simp only[Y04]at h
  obtain⟨⟨a1,a2⟩,a3⟩:=h
  obtain⟨hp,hn⟩:=sCl x hex a3
  refine(Z8b x.nd (Z05 a1) (Z4h a2) hp (Z3l hn) (.inl (hf _))).weak λD σ H hw=>?_
  obtain⟨k0,σm,M,rs,rh,hw⟩:=hw
  refine⟨k0,σm,M,rs,rh,Z04 x.c.mon e (λv M1 q1=>mon_es x.c.mon es (λvs M2 ⟨f,sp,e1,q2⟩=>⟨f,sp,e1,x.mon j f sp e1 (λm M' z=>?_) (λ_ _ z=>z) q2⟩) q1) hw⟩
  intro u H1 k1 r1 rh1
  exact z _ _ k1 ((rs.mono k1).set r1 i) rh1
 |.rt j e es,st,h=>by
  replace h:=Z01 h
  obtain⟨o,h1,h⟩:=h
  obtain⟨p,rfl⟩:=ZbE h1
  replace h:=Z01 h
  obtain⟨v,rfl,h⟩:=h
  obtain⟨hp,hn⟩:=sCl x hex h
  refine(ZfL hp).weak λD σ H hw=>?_
  obtain⟨k0,σm,M,rs,rh,hw⟩:=hw
  exact⟨k0,σm,M,rs,rh,hw⟩
 |.ite d a b,st,h=>by
  replace h:=Z01 h
  obtain⟨⟨t,u,v⟩,h1,h⟩:=h
  obtain⟨p,rfl⟩:=ZbH h1
  simp only[Y04]at h
  obtain⟨⟨⟨a1,a2⟩,a3⟩,a4⟩:=h
  refine(Zje (PT.nox ((sE d x.c a2).pt a1)) (sXs x hex hf a a3) (sXs x hex hf b a4)).weak λD σ H hw=>?_
  obtain⟨k0,σm,M,rs,rh,hw⟩:=hw
  rw[Zcq]at hw
  refine⟨σm,M,rs,rh,Z04 x.c.mon d (λy M1 ⟨k,e,q⟩=>⟨k,e,λH1 k1 rh1=>?_⟩) hw⟩
  exact Z16 (λq=>⟨k0.trans k1,σm,M1,rs.mono k1,rh1,mon_xs x.c.mon x.mon a (λ_ _ z=>z) (liD.on k1) q⟩) (λq=>⟨k0.trans k1,σm,M1,rs.mono k1,rh1,mon_xs x.c.mon x.mon b (λ_ _ z=>z) (liD.on k1) q⟩) q
 |.for_ t s b,st,h=>by
  replace h:=Z01 h
  obtain⟨⟨tg,it,body,els⟩,h1,h⟩:=h
  obtain⟨p,rfl⟩:=ZbI h1
  simp only[Y04]at h
  obtain⟨⟨⟨⟨a1,a2⟩,a3⟩,a4⟩,a5⟩:=h
  obtain rfl:=Z0s a5
  refine(ZfM x.own x.calm (PI.nox (sSr s (tg:=tg) x.c a2)) (PG.nox (sTg (X:=X.nox) (lim:=X.N.length) (all:=true) x.c.calm x.c.nd (λ_=>hf) t a1)) (sXs x hex hf b a4) (Z6X a3 _)).weak λD σ H hw=>?_
  obtain⟨k0,σm,M,rs,rh,hw⟩:=hw
  refine⟨σm,M,rs,rh,mon_sr x.c.mon s (λS M1 ⟨fl,J,j0,j1,j2,j3⟩=>?_) hw⟩
  intro I H1 k1 rh1 sit
  refine⟨λi m σ' H'=>m=S.len - i/\i≤S.len/\Kp H1 H'/\∃σm' M',RS X.K H' σm' σ'/\RH X.K M' H'/\J i σm' M',⟨_,rfl,Y1t _,Kp.refl _,σm,M1,rs.mono k1,rh1,j0⟩,?_⟩
  rintro i m σ2 H2 ⟨rfl,hi,k2,σm2,M2,rs2,rh2,hj⟩
  obtain⟨goes,stops⟩:=Z8F sit k2 rh2 (j1 i σm2 M2 hj)
  by_cases hlt:i<S.len
  ·obtain⟨go,yld⟩:=goes i hlt
   refine .inr ⟨go,λσ' H'=>Kp H1 H'/\∃σm' M',RS X.K H' σm' σ'/\RH X.K M' H'/\J (i+1) σm' M',λσ' H' ⟨a,z⟩=>⟨S.len - (i+1),by lia,rfl,hlt,a,z⟩,λy H' yl=>?_⟩
   obtain⟨e,m,hm,rm⟩:=yld y H' yl
   subst e
   refine Zcz (Ψ:=λ_=>True) (lim:=X.N.length) (λ_ _ _ _ z=>z) t a1 rm rs2 trivial (j2 i m σm2 M2 hm hj) λσm3 σ3 q rs3 _=>?_
   refine⟨k0.trans (k1.trans k2),σm3,M2,rs3,rh2,?_⟩
   refine mon_xs x.c.mon x.mon b (λ_ _ z=>z) ?_ q
   exact⟨λσ' M' z σv H3 k3 rs' rh'=>⟨k2.trans k3,σ',M',rs',rh',z⟩,λv M' z=>z.on (k1.trans k2),λσ' M' z σv H3 k3=>z σv H3 (k1.trans (k2.trans k3)),λσ' M' z σv H3 k3 rs' rh'=>⟨k2.trans k3,σ',M',rs',rh',z⟩⟩
  ·have e:i=S.len:=by lia
   subst e
   exact .inl ⟨stops _ (Y07 _),j3 σm2 M2 hj _ _ (k1.trans k2) rs2 rh2⟩
theorem sXs(x:Xok X G Φ Ψ H₀ E)(hex:∀c M',ex c M'->liEx X.K E H₀ c M')(hf:∀y,X.fn y=true):∀(is:IXs) {sts:List Stmt},chkXs G X.env.scope X.N is sts=true->PSs X sts (liXt X.K H₀ (wXs Φ Ψ ex is))
 |.nil,sts,h=>by
  obtain rfl:=Z0s h
  refine pss_nil.weak λD σ H hw=>?_
  obtain⟨_,σm,M,rs,rh,hw⟩:=hw
  exact hw σ H (Kp.refl _) rs rh
 |.cons s r,sts,h=>by
  replace h:=Z01 h
  obtain⟨⟨y,ys⟩,h1,h⟩:=h
  obtain rfl:=Z3i h1
  rw[Y04]at h
  refine(Z8O (sX x hex hf s h.1) (sXs x hex hf r h.2)).weak λD σ H hw=>?_
  obtain⟨k0,σm,M,rs,rh,hw⟩:=hw
  refine⟨k0,σm,M,rs,rh,?_⟩
  refine Zjv x.c.mon x.mon s (λ_ _ z=>z) ?_ hw
  refine⟨λσ' M' z σv H1 k1 rs' rh'=>?_,λv M' z=>z,λσ' M' z=>z,λσ' M' z=>z⟩
  exact⟨k0.trans k1,σ',M',rs',rh',mon_xs x.c.mon x.mon r (λ_ _ z=>z) (liD.on k1) z⟩
end
end
end L2
namespace L2
open PySem PySem.Spec PyProof.Rows
section
variable{prog:Program}{w:World}{A:Around}{E:Value->Shared->Prop}{h:Heap}{g:Array GenState}{d:Drawn}{t:Nat}{os:OsState}{a:Addr}{o:Obj}
 {nm q:Str} {C N:Addr} {bs bm:List Value} {hdct:Bool} {sn:List Str} {sub:List Value} {ab:Bool} {col:Option Bool} {dd:Option Addr} {k0 k1 k2 k3 k5:Option Value} {newId:String}
theorem Z94{R:Result->Shared->Prop}(hC:h.get? C=some (excClassObj nm q C N bs bm hdct sn sub ab col dd k0 k1 k2 k3 k5 newId))(hb:bm.contains (.type "object")=true)
  (hx:h.get? a=some o) (hc:o.cls=.ref C) (hq:R (.ok (.ret (.ref C))) ⟨h,g,d,t,os⟩):
  codeAny (model prog w) A (.call (.builtin "getset_descriptor.__get__") ⟨[.builtin "object.__class__",.ref a,.ref C],[]⟩) R ⟨h,g,d,t,os⟩:=by
 have hT5:(⟨h,g,d,t,os⟩:Shared).TypeIs (.builtin "object.__class__") "getset_descriptor":=F.typeOf_object_class
 have hcB:(Y0k C::bm).contains (.type (".".intercalate ("object.__class__".cutAt '.').dropLast))=true:=by
  rw[F.owner_object_class,List.contains_cons,hb];rfl
 refine codeAny_call_builtin F.slot_gs_get.plain F.entry_gs_get (F.slot_gs_get.check _ _ _ _ _ _ _ _ hT5 (F.args_gs_get _ _ _) ?_)
 repeat (any_goals (first|assumption|(with_reducible refine wpAny_loadPart_at hx ?_;rw[hc])|(with_reducible refine wpAny_isSubtype_exc hC ?_;rw[hcB])|wp_step))
 refine⟨Code.quiet_builtin _ (by decide+kernel),codeAny_builtin F.entry_object_class ?_⟩
 repeat (any_goals (first|assumption|(with_reducible refine wpAny_loadPart_at hx ?_;rw[hc])|wp_step))
noncomputable abbrev Lk(prog:Program)(w:World)(h:Heap)(C:Addr)(n:Str)(r:Option Value):Prop:=∀(A:Around) (Q:Option Value->Shared->Prop) (E:Value->Shared->Prop) (g:Array GenState) (d:Drawn) (t:Nat) (os:OsState),Q r ⟨h,g,d,t,os⟩->wpAny (model prog w) A (typeLookup (.ref C) n) Q E ⟨h,g,d,t,os⟩
theorem Z7z{tk:Tok}{Q:Fin->Shared->Prop}(hC:h.get? C=some (excClassObj nm q C N bs bm hdct sn sub ab col dd k0 k1 k2 k3 k5 newId))(hb:bm.contains (.type "object")=true)
  (l3:Lk prog w h C "__class__" (some (.builtin "object.__class__"))) (hx:h.get? a=some o) (hc:o.cls=.ref C) (hq:Q (.done (.ret (.ref C))) ⟨h,g,d,t,os⟩):
  wpAny (model prog w) A (Builtin.«object.__getattribute__» ⟨[.ref a,.str "__class__" tk],[]⟩) Q E ⟨h,g,d,t,os⟩:=by
 have hT5:(⟨h,g,d,t,os⟩:Shared).TypeIs (.builtin "object.__class__") "getset_descriptor":=F.typeOf_object_class
 have f5:=F.typeOf_object_class
 have f6:=F.slot_gs_get.lookup
 have f7:=F.slot_gs_set.lookup
 repeat (any_goals (first|assumption|(with_reducible refine wpAny_loadPart_at hx ?_;rw[hc])|with_reducible refine l3 _ _ _ _ _ _ _ ?_|wp_step))
 refine Z94 hC hb hx hc ?_
 repeat (any_goals (first|assumption|wp_step))
theorem Za2{M:Model}{nameV:Value}{Q:Unit->Shared->Prop}(hC:h.get? C=some (excClassObj nm q C N bs bm hdct sn sub ab col dd k0 k1 k2 k3 k5 newId))(hb:bm.contains (.type "BaseException")=true)
  (hx:h.get? a=some o) (hc:o.cls=.ref C) (hq:Q () ⟨h,g,d,t,os⟩):wpAny M A (checkBuiltinCall "BaseException.__getattribute__" ⟨[.ref a,nameV],[]⟩) Q E ⟨h,g,d,t,os⟩:=by
 have hk:builtinKind "BaseException.__getattribute__"=some .slot:=by decide+kernel
 have hsplit:splitId "BaseException.__getattribute__"=some ("BaseException","__getattribute__"):=by decide+kernel
 have hcB:(Y0k C::bm).contains (.type "BaseException")=true:=by rw[List.contains_cons,hb];rfl
 have ha:=F.args_bexc_ga (.ref a) nameV
 simp only[checkBuiltinCall,hk,hsplit]
 refine wpAny_bind ?_
 ·unfold isInstance
  repeat (first|(with_reducible refine wpAny_loadPart_at hx ?_;rw[hc])|(with_reducible refine wpAny_isSubtype_exc hC ?_;rw[hcB])|wp_step)
  exact hq
theorem Z84{Q:Option Value->Shared->Prop}(hC:h.get? C=some (excClassObj nm q C N bs bm hdct sn sub ab col dd k0 k1 k2 k3 k5 newId))(hb:bm.contains (.type "BaseException")=true)(hbo:bm.contains (.type "object")=true)
  (l1:Lk prog w h C "__getattribute__" (some (.builtin "BaseException.__getattribute__"))) (l2:Lk prog w h C "__getattr__" none) (l3:Lk prog w h C "__class__" (some (.builtin "object.__class__"))) (hx:h.get? a=some o) (hc:o.cls=.ref C)
  (hq:Q (some (.ref C)) ⟨h,g,d,t+1,os⟩):wpAny (model prog w) A (getAttr? (.ref a) "__class__") Q E ⟨h,g,d,t,os⟩:=by
 have by_:∀{tk:Tok} {A:Around} {Q:Value->Shared->Prop} {E:Value->Shared->Prop} {t:Nat},Q (.ref C) ⟨h,g,d,t,os⟩->wpAny (model prog w) A (getAttrBy (.ref a) (.str "__class__" tk) false) Q E ⟨h,g,d,t,os⟩:=by
  intro tk A Q E t hq
  have f3:=F.attr_ValueError.ga.bind (.ref a)
  have hx0:(false&&onTheHeap (Value.builtin "BaseException.__getattribute__"))=false:=rfl
  have hx2:(Value.builtin "BaseException.__getattribute__"==Value.builtin "object.__getattribute__")=false:=by decide+kernel
  have hx1:(onTheHeap (Y0k C)&&Value.builtin "BaseException.__getattribute__"==Value.builtin "object.__getattribute__")=false:=by rw[hx2];rfl
  repeat (any_goals (first|assumption|(with_reducible refine wpAny_loadPart_at hx ?_;rw[hc])|with_reducible refine l1 _ _ _ _ _ _ _ ?_|with_reducible refine l2 _ _ _ _ _ _ _ ?_|wp_step))
  refine codeAny_call_builtin F.attr_ValueError.ga.plain F.entry_bexc_ga (Za2 hC hb hx hc (Z7z hC hbo l3 hx hc ?_))
  repeat (any_goals (first|assumption|wp_step))
 unfold getAttr? getAttrBy?
 repeat (any_goals (first|assumption|with_reducible apply by_|wp_step))
end
end L2
namespace L2
open PySem PySem.Spec PyProof.Rows PySem.W PySem.Calls
noncomputable def Z3x(K:Y00)(C C':Addr):Bool:=(clsIn K C').isSome&&typeIn K (.ref C')==some (.type "type")&&instIn K (.ref C') (.type "type")==some true&&subIn K (.ref C) (.ref C')==some false&& !(Y0k C==Y0k C')
section
variable{prog:Program}{w:World}{A:Around}{E:Value->Shared->Prop}{s:Shared}{K:Y00}{C C' a:Addr}{o:Obj}
theorem Z5d{M:Model}{h:Heap}(hx:h.get? a=some o)(hc:o.cls=.ref C):Looks M h (typeOf (.ref a)) (.ref C):=by
 intro A Q E s k q
 obtain⟨hh,g,d,tt,os⟩:=s
 have hx:=k _ _ hx
 repeat (first|(with_reducible refine wpAny_loadPart_at hx ?_;rw[hc])|wp_step)
 exact q
theorem Z7X{dep:Int}{tk:Tok}{Q:Fin->Shared->Prop}(X:K.In s.heap)(hx:s.heap.get? a=some o)(hc:o.cls=.ref C)(e:Z3x K C C'=true)
  (ca:∀{A:Around} {E:Value->Shared->Prop} {Q:Option Value->Shared->Prop},Q (some (.ref C)) {s with toks:=s.toks+1}->wpAny (model prog w) A (getAttr? (.ref a) "__class__") Q E s) (cC:(clsIn K C).isSome=true)
  (h:Q (.done (.ret (.bool false))) {s with toks:=s.toks+1}):
  wpAny (model prog w) A (Builtin.«isinstance.nested» ⟨[.ref a,.ref C',.int dep tk],[]⟩) Q E s:=by
 have ht:=Z5d (M:=model prog w) hx hc
 obtain⟨hh,g,d,tt,os⟩:=s
 unfold Builtin.«isinstance.nested»
 refine wpAny_bind (ht.at ?_)
 unfold Z3x at e
 simp only[Y04,Y1r]at e
 obtain⟨⟨⟨⟨e0,e1⟩,e2⟩,e3⟩,e4⟩:=e
 rw[e4,if_neg (by simp)]
 have L1:=looks_typeIn (M:=model prog w) X (beq_iff_eq.mp e1)
 have L2:=looks_instIn (M:=model prog w) X (beq_iff_eq.mp e2)
 have L4:Looks (model prog w) hh (isSubtype (.ref C) (.ref C')) false:=looks_subIn X (beq_iff_eq.mp e3)
 have L3:Looks (model prog w) hh (isInstance (.ref a) (.ref C')) false:=ht.andThen L4
 refine wpAny_bind (L1.at ?_)
 rw[if_pos (by decide)]
 k_delta "plainIsInstance"
 unfold isType
 repeat lk
 unfold clsIn at e0
 split at e0
 ·rename_i ho
  refine nd_load (X _ _ ho) (nd_pure (wpAny_pure ?_))
  simp only[Y1V,Y0m,if_false]
  refine wpAny_bind (L3.at ?_)
  simp only[Y0m,if_false]
  refine wpAny_bind (ca ?_)
  unfold clsIn at cC
  split at cC
  ·rename_i ho'
   refine wpAny_bind ?_
   refine nd_load (X _ _ ho') (nd_pure ?_)
   simp only[Y1V,Y0m,if_false]
   refine wpAny_bind (wpAny_rule ?_)
   refine L4.at ?_
   exact wpAny_pure h
  ·cases cC
 ·cases e0
noncomputable def Z7M(K:Y00)(C:Addr):Bool:=findIn K (.ref C) "__getattribute__"==some (some (.builtin "BaseException.__getattribute__"))&&findIn K (.ref C) "__getattr__"==some none&&findIn K (.ref C) "__class__"==some (some (.builtin "object.__class__"))
theorem Zhj{h:Heap}{n:Str}{r:Option Value}(X:K.In h)(e:findIn K (.ref C) n=some r):Lk prog w h C n r:=λA Q E g d t os q=>(looks_findIn (M:=model prog w) X e).here (s:=⟨h,g,d,t,os⟩) q
theorem Zbz{bm:List Value}(X:K.In s.heap)(hC:XCls K C bm)(hA:Z7M K C=true)(hb:bm.contains (.type "BaseException")=true)(hbo:bm.contains (.type "object")=true)(hx:s.heap.get? a=some o)(hc:o.cls=.ref C){A:Around}{E:Value->Shared->Prop}{Q:Option Value->Shared->Prop}
  (q:Q (some (.ref C)) {s with toks:=s.toks+1}):wpAny (model prog w) A (getAttr? (.ref a) "__class__") Q E s:=by
 obtain⟨h,g,d,t,os⟩:=s
 obtain⟨nm,qn,N,bs,hdct,sn,sub,ab,col,dd,k0,k1,k2,k3,k5,l,n⟩:=hC
 unfold Z7M at hA
 simp only[Y04,beq_iff_eq]at hA
 obtain⟨⟨a1,a2⟩,a3⟩:=hA
 exact Z84 (X _ _ l) hb hbo (Zhj X a1) (Zhj X a2) (Zhj X a3) hx hc q
theorem Za5{bm:List Value}{b:Bool}{Q:Value->Shared->Prop}(X:K.In s.heap)(hC:XCls K C bm)(hA:Z7M K C=true)(hb:bm.contains (.type "BaseException")=true)(hbo:bm.contains (.type "object")=true)(hx:s.heap.get? a=some o)(hc:o.cls=.ref C)
  (e:(if b then isIn K (.ref C) C' else Z3x K C C')=true) (q:∀t,Q (.bool b) {s with toks:=t}):wpAny (model prog w) A (call (.builtin "isinstance") [.ref a,.ref C']) Q E s:=by
 cases b with
 |true=>exact isi_call X (λM=>Z5d hx hc) e (by intro z;cases z) (q s.toks)
 |false=>
  have cC:(clsIn K C).isSome=true:=by
   obtain⟨nm,qn,N,bs,hdct,sn,sub,ab,col,dd,k0,k1,k2,k3,k5,l,n⟩:=hC
   unfold clsIn;rw[l];rfl
  refine call_isinstance (S:=λ_ R s'=>s'=s/\R (.ok (.ret (.bool false))) {s with toks:=s.toks+1}) (λ_ _ _ _ s' hs=>?_) ⟨rfl,q _⟩
  obtain⟨rfl,hs⟩:=hs
  refine isinstance_outer (Z7X X hx hc e (λq=>?_) cC hs) (by intro z;cases z)
  exact Zbz X hC hA hb hbo hx hc q
theorem Z92{bm:List Value}{dep:Int}{tk:Tok}{Q:Fin->Shared->Prop}(X:K.In s.heap)(hC:XCls K C bm)(hv:bm.contains (.type "ValueError")=true)(hx:s.heap.get? a=some o)(hc:o.cls=.ref C)(h:Q (.done (.ret (.bool true))) s):
  wpAny (model prog w) A (Builtin.«isinstance.nested» ⟨[.ref a,.type "ValueError",.int dep tk],[]⟩) Q E s:=by
 have ht:=Z5d (M:=model prog w) hx hc
 obtain⟨hh,g,d,tt,os⟩:=s
 obtain⟨nm,qn,N,bs,hdct,sn,sub,ab,col,dd,k0,k1,k2,k3,k5,l,n⟩:=hC
 have f1:typeOf (.type "ValueError")=pure (.type "type"):=by kernel_rfl
 have hcB:(Y0k C::bm).contains (.type "ValueError")=true:=by rw[List.contains_cons,hv];rfl
 unfold Builtin.«isinstance.nested»
 refine wpAny_bind (ht.at ?_)
 rw[if_neg (λq=>by cases beq_iff_eq.mp q),f1]
 refine wpAny_bind (wpAny_pure ?_)
 rw[if_pos (by decide)]
 k_delta "plainIsInstance"
 have hl:hh.get? C=some _:=X _ _ l
 have hx:hh.get? a=some o:=hx
 repeat (any_goals (first|assumption|(with_reducible refine wpAny_loadPart_at hx ?_;rw[hc])|(with_reducible refine wpAny_isSubtype_exc hl ?_;rw[hcB])|wp_step))
theorem Zb2{bm:List Value}{Q:Value->Shared->Prop}(X:K.In s.heap)(hC:XCls K C bm)(hv:bm.contains (.type "ValueError")=true)(hx:s.heap.get? a=some o)(hc:o.cls=.ref C)(q:Q (.bool true) s):
  wpAny (model prog w) A (call (.builtin "isinstance") [.ref a,.type "ValueError"]) Q E s:=by
 refine call_isinstance (S:=λ_ R s'=>s'=s/\R (.ok (.ret (.bool true))) s) (λ_ _ _ _ s' hs=>?_) ⟨rfl,q⟩
 obtain⟨rfl,hs⟩:=hs
 exact isinstance_outer (Z92 X hC hv hx hc hs) (by intro z;cases z)
end
end L2
namespace L2
open PySem PySem.Spec PyProof.Rows
section
variable{M:Model}{A:Around}{E:Value->Shared->Prop}{h:Heap}{g:Array GenState}{d:Drawn}{t:Nat}{os:OsState}{e:Addr}{oe:Obj}
 {nm q:Str} {C N:Addr} {bs bm:List Value} {hdct:Bool} {sn:List Str} {sub:List Value} {ab:Bool} {col:Option Bool} {dd:Option Addr} {k0 k1 k2 k3 k5:Option Value} {newId:String}
 {nm' q':Str} {F N':Addr} {bs' bm':List Value} {hdct':Bool} {sn':List Str} {sub':List Value} {ab':Bool} {col':Option Bool} {dd':Option Addr} {k0' k1' k2' k3' k5':Option Value} {newId':String}
theorem Z4G{Q:Bool->Shared->Prop}(hC:h.get? C=some (excClassObj nm q C N bs bm hdct sn sub ab col dd k0 k1 k2 k3 k5 newId))(hF:h.get? F=some (excClassObj nm' q' F N' bs' bm' hdct' sn' sub' ab' col' dd' k0' k1' k2' k3' k5' newId'))(he:h.get? e=some oe)(hcls:oe.cls=.ref C)
  (hb:bm'.contains (.type "BaseException")=true) (hs:(Y0k C::bm).contains (.ref F)=true) (hq:Q true ⟨h,g,d,t,os⟩):wpAny M A (excMatches (.ref e) (.ref F)) Q E ⟨h,g,d,t,os⟩:=by
 have hcB:(Y0k F::bm').contains (.type "BaseException")=true:=by rw[List.contains_cons,hb,Y1G]
 have f:=tc_notTuple
 unfold excMatches
 repeat (first|(with_reducible refine wpAny_loadPart_at he ?_;rw[hcls])|with_reducible refine wpAny_loadPart_at hF ?_|(with_reducible refine wpAny_isSubtype_exc hF ?_;rw[hcB])|(with_reducible refine wpAny_isSubtype_exc hC ?_;rw[hs])|wp_step)
 exact hq
end
noncomputable abbrev Cx.caught(X:Cx)(a:Addr)(oe:Obj):Cx:={X with A:=X.A.mark (some (.ref a)),calm:=false,pn:=(a,oe)::X.pn,xe:=λ_ _=>False}
section
variable{X:Cx}{pins:List (Addr×Obj)}{σ:St}{H:Hp}{s:Shared}{a:Addr}{oe:Obj}
theorem Inv.caught(I:Inv X pins σ H s)(ha:s.heap.get? a=some oe)(hn:H a=none)(hl:a≠X.env.locals)(hf:a∉X.fs)(hd:∀v,oe.data≠.cell v):Inv (X.caught a oe) pins σ H s:=
 ⟨⟨I.ok.mod,I.ok.kind,I.ok.glob,I.ok.blt,I.ok.above,I.ok.inj,I.ok.has,I.ok.cab,λz=>(by cases z),I.ok.frames,I.ok.stk,I.ok.exf,I.ok.bs,I.ok.bsz,I.ok.noex,I.ok.exfs,I.ok.funs,I.ok.frf⟩,I.os,I.bare,I.base,I.loc,I.cell,I.free,I.freeC,
  λp hp=>by
   rcases Y0d.mp (show p∈(a,oe)::(X.pn++pins)from hp)with rfl|hp
   ·exact⟨ha,hn,hl,hf,hd⟩
   ·exact I.pin p hp,I.hok,I.len⟩
theorem Inv.uncaught(ok:X.Ok)(I:Inv (X.caught a oe) pins σ H s):Inv X pins σ H s:=
 ⟨ok,I.os,I.bare,I.base,I.loc,I.cell,I.free,I.freeC,λp hp=>I.pin p (Y0g _ hp),I.hok,I.len⟩
theorem Inv.pinA(I:Inv (X.caught a oe) pins σ H s):s.heap.get? a=some oe:=(I.pin (a,oe) (Y0l ..)).1
end
theorem un1{outer:List Env}{H H':Hp}{h0 h h' B:Heap}(u:Un (frs outer) [] H H' h0 h)(st':B.StaysIn h')(ups:h.UpToSlots h')(ff:h.FunFrames B outer)
  (cov:∀b o,h0.get? b=some o->b∉frs outer->(H b=none->B.get? b=some o)/\∃o',B.get? b=some o'):Un (frs outer) [] H H' h0 h':=by
 have frm:∀b∈frs outer,∃o,h.get? b=some o/\∀vs,o.data≠.fields vs:=λb hb=>(ff.mem hb).2
 refine⟨λb o e n hb _=>st' b o ((cov b o e hb).1 n),λb o e n hb hx=>?_,λb o e n hx=>u.free b o e n hx,λb o e hx=>?_,u.tups,u.frzs,u.tbls⟩
 ·obtain⟨sl,e1⟩:=u.slot b o e n hb hx
  obtain⟨o1,e2,nf⟩:=frm b hb
  rw[e1]at e2;cases e2
  obtain⟨sl2,e3⟩:=ups b _ e1 nf
  exact⟨sl2,e3⟩
 ·by_cases hb:b∈frs outer
  ·obtain⟨o1,e2,nf⟩:=frm b hb
   obtain⟨sl2,e3⟩:=ups b _ e2 nf
   exact⟨_,e3⟩
  ·obtain⟨o',e'⟩:=(cov b o e hb).2
   exact⟨o',st' b o' e'⟩
theorem hok1{P:Program}{w:World}{H':Hp}{h h' B:Heap}(hok:HOk P w H' h)(st:B.StaysIn h)(st':B.StaysIn h')(own:∀b u,H' b=some u->∃o,B.get? b=some o):HOk P w H' h':=λb u e=>by
 refine(hok b u e).stay (λc v hc r=>?_) (λ_ z=>z) λ_ _ z=>z
 obtain⟨o,ho⟩:∃o,B.get? c=some o:=by
  rcases hc with rfl|hc
  ·exact own _ _ e
  ·exact own _ _ hc
 have:=st c o ho
 rw[r]at this;cases this
 exact st' c _ ho
theorem Inv.gone{X:Cx}{pins:List (Addr×Obj)}{σ:St}{H:Hp}{s:Shared}{ni tk:Nat}{n:Str}{v:Option Value}{m:Str->Option Value}{h':Heap}(I:Inv X pins σ H s)(nd:X.N.Nodup)(hni:X.N[ni]?=some n)
  (hl:∀(i:Nat) (x:Str) (v:V),X.N[i]?=some x->σ[i]?=some (some v)->Vis X.env.scope x->∃u,RelV v u/\Look X.env s.heap m x u) (hm:s.heap.Ns X.env.locals m)
  (hn':h'.Ns X.env.locals (λy=>if y=n then v else m y)) (hs:Y1P X.env.locals s.heap h'):Inv X pins (σ.set ni none) H {s with heap:=h',toks:=tk}:=by
 have cne:=I.cne
 obtain⟨oL,_,_,hoL,_⟩:=id hm
 have ne:∀b o,X.s₀.heap.get? b=some o->b≠X.env.locals:=λb o e=>Y0f (Y0y (Y09 e) I.ok.above)
 refine⟨I.ok,I.os,I.bare,⟨λb o e n hb hx=>(hs.2 b (ne b o e)).trans (I.base.keep b o e n hb hx),λb o e n hb hx=>?_,I.base.free,λb o e hx=>?_,I.base.tups,I.base.frzs,I.base.tbls⟩,⟨_,hn',λj y v' e1 e2 e3=>?_⟩,λy c e=>?_,I.free,I.freeC,λp hp=>?_,λb ob e=>?_,by simpa using I.len⟩
 ·obtain⟨sl,e1⟩:=I.base.slot b o e n hb hx
  exact⟨sl,(hs.2 b (ne b o e)).trans e1⟩
 ·obtain⟨o',e1⟩:=I.base.there b o e hx
  exact⟨o',(hs.2 b (ne b o e)).trans e1⟩
 ·by_cases hj:j=ni
  ·subst hj
   rw[Y16]at e2
   rw[if_pos rfl]at e2
   split at e2<;>cases e2
  ·rw[Y1n (Y2F hj)]at e2
   obtain⟨u',r',q⟩:=hl j y v' e1 e2 e3
   refine⟨u',r',?_⟩
   rcases q with⟨k,e⟩|⟨k,c,e,z⟩
   ·refine .inl ⟨k,?_⟩
    have:y≠n:=λe=>hj (Z8X nd e1 (e▸hni))
    simp[this,e]
   ·exact .inr ⟨k,c,e,z.sameBut hs (cne y c e)⟩
 ·obtain⟨w',z⟩:=I.cell y c e
  exact⟨w',z.sameBut hs (cne y c e)⟩
 ·obtain⟨e,n,ne,nf,d⟩:=I.pin p hp
  exact⟨(hs.2 p.1 ne).trans e,n,ne,nf,d⟩
 ·refine(I.hok b ob e).stay (λc w' hc q=>(hs.2 c ?_).trans q) (λ_ q=>q) λ_ _ q=>q
  rintro rfl
  rcases hc with rfl|hc
  ·rw[I.free]at e;cases e
  ·rw[I.free]at hc;cases hc
section
variable{X:Cx}{pins:List (Addr×Obj)}{σ:St}{H1:Hp}{s1 s':Shared}{e:Value}{R:Addr->Hp->Prop}{Fn n:Str}{F:Addr}{ni:Nat}{b₀:Stmt}{suite:List Stmt}{pos fp:Pos}{rest:List ExceptHandler}{Q:Flow->Shared->Prop}
theorem Ze2(I1:Inv X pins σ H1 s1)(hc:CX1 X.prog X.w X.stack H1 s1 (λc _ H'=>∃C,c=.ref C/\R C H') e s')(hstk:X.stack=X.env::X.outer)(hfr:X.env.frame=some X.env.locals)
  (hF:XCls X.K F veMro) (hC:∀C H',R C H'->XCls X.K C (.ref F::veMro)) (hgF:Gl X Fn) (hmF:X.mg Fn=some (.ref F)) (hdb:(Fn==("__debug__":Str))=false)
  (nd:X.N.Nodup) (hni:X.N[ni]?=some n) (hln:X.env.scope.names.lookup n=some .local)
  (k:∀a oe C H' s6,oe.cls=.ref C->R C H'->Inv (X.caught a oe) pins (σ.set ni (some (.ref a))) H' s6->
    wpAny (model X.prog X.w) (X.A.mark (some (.ref a))) (execs (b₀::suite) X.env) (λf s7=>∃σ' H'',Inv (X.caught a oe) pins σ' H'' s7/\∀s8,Inv X pins (σ'.set ni none) H'' s8->Q f s8) (λ_ _=>False) s6):
  wpAny (model X.prog X.w) X.A (noteFrame e X.env) (λ_ s₂=>wpAny (model X.prog X.w) X.A (setFlight e none) (λ_ s₃=>
   wpAny (model X.prog X.w) X.A (handleBy e X.env (.ExceptHandler (some (.Name Fn fp)) (some n) (b₀::suite) pos::rest)) Q X.xe s₃) X.xe s₂) X.xe s':=by
 obtain⟨a,C,t,B,H',rfl,os,bare,un,hok,fl,cov,own,C',ec,q⟩:=hc
 cases ec
 have fl0:=fl
 rw[hstk]at fl0
 have inv:∀(h5:Heap) (tk:Nat),Heap.FlyingW B X.stack a (.ref C) (.ref t) h5->s'.heap.UpToSlots h5->Inv X pins σ H' {s' with heap:=h5,toks:=tk}:=λh5 tk f5 u5=>
  I1.call' (s':={s' with heap:=h5,toks:=tk}) os (un1 un f5.1 u5 fl.2.2.1 cov) (hok1 hok fl.1 f5.1 own) bare (λ_ z=>nomatch z)
 have fresh:H' a=none:=by
  cases z:H' a with
  |none=>rfl
  |some u=>obtain⟨o,ho⟩:=own a u z;rw[fl.2.1]at ho;cases ho
 have fram:∀(h5:Heap),Heap.FlyingW B X.stack a (.ref C) (.ref t) h5->a∉frs X.stack:=λh5 f5 z=>by
  obtain⟨oe,vs,T,oT,ts,he,_,hd,_⟩:=f5.2.2.2
  obtain⟨_,o,ho,nf⟩:=f5.2.2.1.mem z
  rw[he]at ho;cases ho;exact nf vs hd
 have obj:∀(h5:Heap),Heap.FlyingW B X.stack a (.ref C) (.ref t) h5->∃oe,h5.get? a=some oe/\oe.cls=.ref C/\∀v,oe.data≠.cell v:=λh5 f5=>by
  obtain⟨oe,vs,T,oT,ts,he,hcl,hd,_⟩:=f5.2.2.2
  exact⟨oe,he,hcl.1,λv z=>by rw[hd]at z;cases z⟩
 have car:∀(h5:Heap) (tk:Nat) oe,Heap.FlyingW B X.stack a (.ref C) (.ref t) h5->s'.heap.UpToSlots h5->h5.get? a=some oe->(∀v,oe.data≠.cell v)->Inv (X.caught a oe) pins σ H' {s' with heap:=h5,toks:=tk}:=λh5 tk oe f5 u5 ho hd=>by
  have na:=fram h5 f5
  rw[hstk]at na
  refine(inv h5 tk f5 u5).caught ho fresh (λz=>na ?_) (λz=>na ?_) hd
  ·unfold frs;rw[Y1d,hfr,z];exact Y0l ..
  ·unfold frs;rw[Y1d,hfr];exact Y0g _ z
 have cC:=hC C H' q
 obtain⟨nm,qn,N,bs,hdct,sn,sub,ab,col,dd,k0,k1,k2,k3,k5,l,_⟩:=cC
 obtain⟨nm',qn',N',bs',hdct',sn',sub',ab',col',dd',k0',k1',k2',k3',k5',l',_⟩:=hF
 refine wpAny_looks_onW (by rw[I1.ok.frames,hstk]) hfr fl0 λh4 hh4 u4=>?_
 refine wpAny_landsW hh4 λh5 f5 u5=>?_
 have u45:=u4.trans u5
 rw[<- hstk]at f5
 obtain⟨oe,ho,hcl,hd⟩:=obj h5 f5
 have I5:=car h5 s'.toks oe f5 u45 ho hd
 refine wpAny_handleBy_cons (codeAny_handlers_test ?_) (by intro q;cases q)
 refine Z5Y (X:=X.caught a oe) I5 hgF hmF ?_ hdb
 refine Z4G (I5.kIn _ _ l) (I5.kIn _ _ l') ho hcl (by decide+kernel) (by simp) ?_
 refine codeAny_handlers_suite_as ?_
 refine lands_againW f5 λh6 f6 u6=>?_
 obtain⟨oe6,ho6,hcl6,hd6⟩:=obj h6 f6
 have I6:=car h6 s'.toks oe6 f6 (u45.trans u6) ho6 hd6
 refine Z53 (X:=X.caught a oe6) (v:=.ref a) (u:=.ref a) I6 nd hni (.inl hln) rfl (λs7 I7=>?_) (.inr hln)
 refine wpAny_mono (k a oe6 C H' s7 hcl6 q I7) (λf s8 ⟨σ',H'',I8,hQ⟩=>?_) λ_ _ z=>Y0G z
 have I9:Inv X pins σ' H'' s8:=I8.uncaught I1.ok
 obtain⟨m,hm,hl⟩:=id I9.loc
 have hcls:(X.env.scope.kind==.class||(X.env.scope.kind==.module&&X.env.locals != X.env.globals))=false:=by rw[I9.ok.kind];rfl
 refine wpAny_nameGoes_keeps hln hm hcls λh9 v hn9 hs9=>hQ _ ?_
 exact I9.gone nd hni hl hm hn9 hs9
theorem Ze3(I1:Inv X pins σ H1 s1)(hc:CX1 X.prog X.w X.stack H1 s1 (λc _ H'=>∃C,c=.ref C/\R C H') e s')(hstk:X.stack=X.env::X.outer)(hfr:X.env.frame=some X.env.locals)
  {bm:List Value} {bC:Addr->List Value} (hF:XCls X.K F bm) (hb:bm.contains (.type "BaseException")=true) (hC:∀C H',R C H'->XCls X.K C (bC C)/\(Y0k C::bC C).contains (.ref F)=true) (hgF:Gl X Fn) (hmF:X.mg Fn=some (.ref F)) (hdb:(Fn==("__debug__":Str))=false)
  (k:∀a oe C H' s6,oe.cls=.ref C->R C H'->Inv (X.caught a oe) pins σ H' s6->
    wpAny (model X.prog X.w) (X.A.mark (some (.ref a))) (execs (b₀::suite) X.env) (λf s7=>∃σ' H'',Inv (X.caught a oe) pins σ' H'' s7/\∀s8,Inv X pins σ' H'' s8->Q f s8) (λ_ _=>False) s6):
  wpAny (model X.prog X.w) X.A (noteFrame e X.env) (λ_ s₂=>wpAny (model X.prog X.w) X.A (setFlight e none) (λ_ s₃=>
   wpAny (model X.prog X.w) X.A (handleBy e X.env (.ExceptHandler (some (.Name Fn fp)) none (b₀::suite) pos::rest)) Q X.xe s₃) X.xe s₂) X.xe s':=by
 obtain⟨a,C,t,B,H',rfl,os,bare,un,hok,fl,cov,own,C',ec,q⟩:=hc
 cases ec
 have fl0:=fl
 rw[hstk]at fl0
 have inv:∀(h5:Heap) (tk:Nat),Heap.FlyingW B X.stack a (.ref C) (.ref t) h5->s'.heap.UpToSlots h5->Inv X pins σ H' {s' with heap:=h5,toks:=tk}:=λh5 tk f5 u5=>
  I1.call' (s':={s' with heap:=h5,toks:=tk}) os (un1 un f5.1 u5 fl.2.2.1 cov) (hok1 hok fl.1 f5.1 own) bare (λ_ z=>nomatch z)
 have fresh:H' a=none:=by
  cases z:H' a with
  |none=>rfl
  |some u=>obtain⟨o,ho⟩:=own a u z;rw[fl.2.1]at ho;cases ho
 have fram:∀(h5:Heap),Heap.FlyingW B X.stack a (.ref C) (.ref t) h5->a∉frs X.stack:=λh5 f5 z=>by
  obtain⟨oe,vs,T,oT,ts,he,_,hd,_⟩:=f5.2.2.2
  obtain⟨_,o,ho,nf⟩:=f5.2.2.1.mem z
  rw[he]at ho;cases ho;exact nf vs hd
 have obj:∀(h5:Heap),Heap.FlyingW B X.stack a (.ref C) (.ref t) h5->∃oe,h5.get? a=some oe/\oe.cls=.ref C/\∀v,oe.data≠.cell v:=λh5 f5=>by
  obtain⟨oe,vs,T,oT,ts,he,hcl,hd,_⟩:=f5.2.2.2
  exact⟨oe,he,hcl.1,λv z=>by rw[hd]at z;cases z⟩
 have car:∀(h5:Heap) (tk:Nat) oe,Heap.FlyingW B X.stack a (.ref C) (.ref t) h5->s'.heap.UpToSlots h5->h5.get? a=some oe->(∀v,oe.data≠.cell v)->Inv (X.caught a oe) pins σ H' {s' with heap:=h5,toks:=tk}:=λh5 tk oe f5 u5 ho hd=>by
  have na:=fram h5 f5
  rw[hstk]at na
  refine(inv h5 tk f5 u5).caught ho fresh (λz=>na ?_) (λz=>na ?_) hd
  ·unfold frs;rw[Y1d,hfr,z];exact Y0l ..
  ·unfold frs;rw[Y1d,hfr];exact Y0g _ z
 obtain⟨cC,hsub⟩:=hC C H' q
 obtain⟨nm,qn,N,bs,hdct,sn,sub,ab,col,dd,k0,k1,k2,k3,k5,l,_⟩:=cC
 obtain⟨nm',qn',N',bs',hdct',sn',sub',ab',col',dd',k0',k1',k2',k3',k5',l',_⟩:=hF
 refine wpAny_looks_onW (by rw[I1.ok.frames,hstk]) hfr fl0 λh4 hh4 u4=>?_
 refine wpAny_landsW hh4 λh5 f5 u5=>?_
 have u45:=u4.trans u5
 rw[<- hstk]at f5
 obtain⟨oe,ho,hcl,hd⟩:=obj h5 f5
 have I5:=car h5 s'.toks oe f5 u45 ho hd
 refine wpAny_handleBy_cons (codeAny_handlers_test ?_) (by intro q;cases q)
 refine Z5Y (X:=X.caught a oe) I5 hgF hmF ?_ hdb
 refine Z4G (I5.kIn _ _ l) (I5.kIn _ _ l') ho hcl hb hsub ?_
 refine codeAny_handlers_suite ?_
 refine lands_againW f5 λh6 f6 u6=>?_
 obtain⟨oe6,ho6,hcl6,hd6⟩:=obj h6 f6
 have I6:=car h6 s'.toks oe6 f6 (u45.trans u6) ho6 hd6
 exact wpAny_mono (k a oe6 C H' _ hcl6 q I6) (λf s8 ⟨σ',H'',I8,hQ⟩=>hQ _ (I8.uncaught I1.ok)) λ_ _ z=>Y0G z
end
end L2
namespace L2
set_option genInjectivity false
open PySem PySem.Spec PyProof.Rows
section
variable{X:Cx}{xe':Value->Shared->Prop}{pins:List (Addr×Obj)}{σ:St}{H:Hp}{s:Shared}{k:Nat}{fa:Addr}{fd:FuncData}{ps:List Str}{sp:Sp}{x:Str}{p pos:Pos}{e:Expr}{es:List Expr}{t:TA}{Q:VK}{E:XK}
theorem Zfn(I:Inv X pins σ H s)(F:FnOk X.prog X.w X.K X.mg X.base (CX1 X.prog X.w) k fa fd ps sp)(hr:Room k X.A)(hg:Gl X x)(hm:X.mg x=some (.ref fa))(hk:Y0V X.K (.ref fa)=true)(hb:Binds X.K fd ps [])(ha:PA X.nox (e::es) t)
  (hdb:(x==("__debug__":Str))=false) (he:starEach (e::es) X.env=(false,eval e X.env)::starEach es X.env) (hpl:(backTo pos (starEach es X.env)).any (·.1)=false) (h:t σ H fun vs H1=>sp vs H1 Q E)
  (hx:∀H1 s1 e s',Inv X pins σ H1 s1->CX1 X.prog X.w X.stack H1 s1 E e s'->xe' e s'):wpAny (model X.prog X.w) X.A (eval (.Call (.Name x p) (e::es) [] pos) X.env) (EP X pins σ Q) xe' s:=by
 refine wpAny_Call_Name_kw (Z5Y I hg hm ?_ hdb)
 refine PySem.W.callWith_K (h₀:=X.base) I.ok.mod.kin hk (wpAny_mono (ha pos pins s σ H _ (I.wish _) h) (λus s1 hq=>?_) λ_ _ z=>Y0G z) he hpl
 obtain⟨vs,H1,I1,r,q⟩:=hq
 have I1:Inv X pins σ H1 s1:=I1.unwish
 have hl:(us++[]).length=ps.length:=by rw[Y1i,<- r.length];exact F.len _ _ _ _ q
 have hb1:=hb s1 us I1.kIn hl
 rw[Y1i]at hb1
 refine⟨I1.kIn,wpAny_call (codeAny_mono (F.run X.A X.stack s1 H1 ⟨us,[]⟩ us vs Q E hr I1.env0 hb1 r q) λr s' hq=>?_)⟩
 cases r with
 |error e=>exact hx H1 s1 e s' I1 hq
 |ok fl=>
  cases fl with
  |ret u=>exact I1.after hq
  |next=>exact Y0G hq
  |brk=>exact Y0G hq
  |cont=>exact Y0G hq
end
theorem ZbL{F:Addr}{T:Value}(h:veMro.contains T=true):(Y0k F::veMro).contains T=true:=by rw[List.contains_cons,h,Y1G]
section
variable{X:Cx}{a C F:Addr}{oe:Obj}
theorem ZbC(hc:oe.cls=.ref C)(hC:XCls X.K C (.ref F::veMro))(hA:Z7M X.K C=true):CallR (X.caught a oe) (.builtin "isinstance") (fun vs H Q=>
  (∃C' b,vs=[.ref a,.ref C']/\(if b then PySem.W.isIn X.K (.ref C) C' else Z3x X.K C C')=true/\Q (.bl b) H)\/(vs=[.ref a,.ty "ValueError"]/\Q (.bl true) H)):=by
 intro pins s σ H xs us Q I r h
 have ho:=I.pinA
 rcases h with⟨C',b,rfl,e,q⟩|⟨rfl,q⟩
 ·match us,r with
  |[u1,u2],.cons h1 (.cons h2 .nil)=>
   cases h1
   cases h2
   refine Za5 (K:=X.K) (s:=s) I.kIn hC hA (ZbL (by decide+kernel)) (ZbL (by decide+kernel)) ho hc e λt=>?_
   exact⟨.bl b,H,I.tok t,rfl,q⟩
 ·match us,r with
  |[u1,u2],.cons h1 (.cons h2 .nil)=>
   cases h1
   cases h2
   exact Zb2 (K:=X.K) (s:=s) I.kIn hC (ZbL (by decide+kernel)) ho hc ⟨.bl true,H,I,rfl,q⟩
end
noncomputable def ZhS(G:GI)(sc:Scope)(n:Str):List Str->List Expr->Bool
 |[],l=>non0 l
 |c::cs,l=>(hd1 l).any λq=>(Z2R q.1).any λr=>(Z0K r.1).any λf=>(the2 r.2.1).any λy=>(Z0K y.1).any λv=>(Z0K y.2).any λw=>
   non0 r.2.2.1&&decide (f=("isinstance":Str))&&glB sc f&&G.bl.contains f&&decide (v=n)&&decide (w=c)&&glB sc c&&ZhS G sc n cs q.2
section
variable{X:Cx}{a C F:Addr}{oe:Obj}{G:GI}{ni:Nat}{n:Str}{b:Str->Bool}
theorem ZlD(hc:oe.cls=.ref C)(hC:XCls X.K C (.ref F::veMro))(hA:Z7M X.K C=true)(bls:∀x,G.bl.contains x=true->X.mg x=none)(hni:X.N[ni]?=some n) (hln:X.env.scope.names.lookup n=some .local) (hd1:(n==("__debug__":Str))=false) (hd2:(n==("__classdict__":Str))=false):
  ∀(cs:List Str) (elts:List Expr),ZhS G X.env.scope n cs elts=true->(∀c'∈cs,(c'="ValueError"/\X.mg c'=none/\b c'=true)\/∃C',X.mg c'=some (.ref C')/\(if b c' then PySem.W.isIn X.K (.ref C) C' else Z3x X.K C C')=true)->
  PA (X.caught a oe) elts (λσ H Q=>σ[ni]?=some (some (.ref a))/\Q (cs.map λc'=>V.bl (b c')) H)/\(starEach elts X.env).all (λx=>!x.1)=true:=by
 intro cs
 induction cs with
 |nil=>
  intro elts h _
  obtain rfl:=Z0s h
  exact⟨pa_nil.weak λσ H Q hw=>hw.2,rfl⟩
 |cons c' cs IH=>
  intro elts h ht
  replace h:=Z01 h
  obtain⟨⟨x,xs⟩,h1,h⟩:=h
  obtain rfl:=Z3i h1
  replace h:=Z01 h
  obtain⟨⟨f,l,ks,p2⟩,h2,h⟩:=h
  obtain rfl:=Z0S h2
  replace h:=Z01 h
  obtain⟨f,h3,h⟩:=h
  obtain⟨pf,rfl⟩:=Z09 h3
  replace h:=Z01 h
  obtain⟨⟨y1,y2⟩,h4,h⟩:=h
  obtain rfl:=Z5T h4
  replace h:=Z01 h
  obtain⟨v,h5,h⟩:=h
  obtain⟨pv1,rfl⟩:=Z09 h5
  replace h:=Z01 h
  obtain⟨w,h6,h⟩:=h
  obtain⟨pw1,rfl⟩:=Z09 h6
  simp only[Y04]at h
  obtain⟨⟨⟨⟨⟨⟨⟨a1,a2⟩,a3⟩,a4⟩,a5⟩,a6⟩,a7⟩,a8⟩:=h
  obtain rfl:=Z0s a1
  obtain rfl:=Z05 a2
  obtain rfl:=Z05 a5
  obtain rfl:=Z05 a6
  obtain⟨g1,g2,g3⟩:=Z2N a3
  obtain⟨e1,e2,e3⟩:=Z2N a7
  obtain⟨ih,is⟩:=IH xs a8 λc hc=>ht c (Y0g _ hc)
  refine⟨?_,by show(!false&&(starEach xs X.env).all _)=true;rw[is];rfl⟩
  have pv:PE (X.caught a oe) (.Name v pv1) (tVar ni):=Z9v hni (.inl hln) hd1 hd2
  have hd:PE (X.caught a oe) (.Call (.Name ("isinstance":Str) pf) [.Name v pv1,.Name w pw1] [] p2) (fun σ H Q=>σ[ni]?=some (some (.ref a))/\Q (.bl (b w)) H):=by
   rcases ht w (Y0l ..)with⟨rfl,m,hb⟩|⟨C',m,hb⟩
   ·have pc:PE (X.caught a oe) (.Name ("ValueError":Str) pw1) (tC (.ty "ValueError")):=fun pins s σ H Q I h=>Z3b (X:=X.caught a oe) I e1 m (by decide+kernel:bootBuiltins ("ValueError":Str)=some (.type "ValueError")) ⟨.ty "ValueError",H,I,rfl,h⟩ e3 e2
    refine(Z58 (ZbC hc hC hA) g1 (bls _ a4) Z1U (Z0r pv (Z0r pc pa_nil)) g3 g2).weak λσ H Q hw=>?_
    exact⟨.ref a,hw.1,.inr ⟨rfl,hb▸hw.2⟩⟩
   ·have pc:PE (X.caught a oe) (.Name w pw1) (tC (.ref C')):=Zay (X:=X.caught a oe) e1 m rfl e2
    refine(Z58 (ZbC hc hC hA) g1 (bls _ a4) Z1U (Z0r pv (Z0r pc pa_nil)) g3 g2).weak λσ H Q hw=>?_
    exact⟨.ref a,hw.1,.inl ⟨C',b w,rfl,hb,hw.2⟩⟩
  refine(Z0r hd ih).weak λσ H Q hw=>?_
  exact⟨hw.1,hw.1,hw.2⟩
end
end L2
namespace L2
set_option genInjectivity false
open PySem PySem.Spec PyProof.Rows
theorem ZeY{K:Y00}{C a:Addr}{oe:Obj}{bm:List Value}(hC:XCls K C bm)(hA:Z7M K C=true)(hb:bm.contains (.type "BaseException")=true)(hbo:bm.contains (.type "object")=true)(hc:oe.cls=.ref C):PySem.W.KitX K (.ref a) (.ref C) (fun h=>h.get? a=some oe)where
 ty:=λM h _ p=>Z5d p hc
 it:=λM h X _=>by
  obtain⟨nm,qn,N,bs,hdct,sn,sub,ab,col,dd,k0,k1,k2,k3,k5,l,n⟩:=hC
  intro A' Q' E' s' k q
  unfold isType loadHead
  exact wpAny_bind (wpAny_loadPart (k _ _ (X _ _ l)) (wpAny_pure q))
 ne:=λh tp dd its n sl X htp=>by
  obtain⟨nm,qn,N,bs,hdct,sn,sub,ab,col,dd,k0,k1,k2,k3,k5,l,n⟩:=hC
  refine Bool.eq_false_iff.mpr λq=>?_
  have e:C=tp:=Value.ref.inj (beq_iff_eq.mp q)
  subst e
  have e:=(X _ _ l).symm.trans htp
  exact absurd (show Y0n "type"=Y0n "tuple" from congrArg Obj.cls (Y0C e)) (by decide+kernel)
 ca:=λX p q=>Zbz X hC hA hb hbo p hc q
inductive SE where
 |tt
 |isi (c:Str)
 |is2 (c d:Str)
 |nt (e:SE)
 |an (a b:SE)
noncomputable def xsub(c c':Str):Bool:=decide (c'="ValueError")||decide (c'=c)
noncomputable def SE.val(k:Str):SE->Bool
 |.tt=>true
 |.isi c=>xsub k c
 |.is2 c d=>xsub k c||xsub k d
 |.nt e=>!e.val k
 |.an a b=>a.val k&&b.val k
noncomputable def Zaf:Expr->Bool|.Constant (.bool true) _ _=>true|_=>false
theorem Zae{e:Expr}(h:Zaf e=true):∃j p,e=.Constant (.bool true) j p:=by
 unfold Zaf at h
 split at h
 ·exact⟨_,_,rfl⟩
 ·cases h
noncomputable def Zfs(G:GI)(sc:Scope)(n:Str)(e:Expr):Option Expr:=(Z2R e).bind fun r=>(Z0K r.1).bind fun f=>(the2 r.2.1).bind fun y=>(Z0K y.1).bind fun v=>if non0 r.2.2.1&&decide (f=("isinstance":Str))&&glB sc f&&G.bl.contains f&&decide (v=n)then some y.2 else none
theorem ZbG{G:GI}{sc:Scope}{n:Str}{e y:Expr}(h:Zfs G sc n e=some y):∃pf pv p,e=.Call (.Name ("isinstance":Str) pf) [.Name n pv,y] [] p/\glB sc "isinstance"=true/\G.bl.contains "isinstance"=true:=by
 unfold Zfs at h
 replace h:=Option.bind_eq_some_iff.mp h
 obtain⟨⟨f,l,ks,p2⟩,h2,h⟩:=h
 obtain rfl:=Z0S h2
 replace h:=Option.bind_eq_some_iff.mp h
 obtain⟨f,h3,h⟩:=h
 obtain⟨pf,rfl⟩:=Z09 h3
 replace h:=Option.bind_eq_some_iff.mp h
 obtain⟨⟨y1,y2⟩,h4,h⟩:=h
 obtain rfl:=Z5T h4
 replace h:=Option.bind_eq_some_iff.mp h
 obtain⟨v,h5,h⟩:=h
 obtain⟨pv,rfl⟩:=Z09 h5
 split at h
 ·rename_i h6
  simp only[Y04]at h6
  obtain⟨⟨⟨⟨a1,a2⟩,a3⟩,a4⟩,a5⟩:=h6
  obtain rfl:=Z0s a1
  obtain rfl:=Z05 a2
  obtain rfl:=Z05 a5
  cases h
  exact⟨_,_,_,rfl,a3,a4⟩
 ·cases h
noncomputable def Zfm(xc:List Str)(sc:Scope)(c:Str)(e:Expr):Bool:=(Z0K e).any fun w=>decide (w=c)&&glB sc c&&(decide (c="ValueError")||xc.contains c)
noncomputable def ZdZ(G:GI)(xc:List Str)(sc:Scope)(n:Str):SE->Expr->Bool
 |.tt,e=>Zaf e
 |.isi c,e=>(Zfs G sc n e).any λy=>Zfm xc sc c y
 |.is2 c d,e=>(Zfs G sc n e).any λy=>(Zcm y).any λl=>(the2 l).any λq=>Zfm xc sc c q.1&&Zfm xc sc d q.2
 |.nt a,e=>(asUn e).any λq=>decide (q.1=.Not)&&ZdZ G xc sc n a q.2
 |.an a b,e=>(Zek e).any λq=>(hd2 q.2.1).any λv=>decide (q.1=.And)&&ZdZ G xc sc n a v.1&&ZdZ G xc sc n b (if non0 v.2.2 then v.2.1 else .BoolOp .And (v.2.1::v.2.2) q.2.2)
noncomputable def Grow(K:Y00)(H H':Hp):Prop:=Kp H H'/\∀M,RH K M H->RH K M H'
theorem Grow.refl{K:Y00}(H:Hp):Grow K H H:=⟨Kp.refl _,λ_ z=>z⟩
theorem Grow.trans{K:Y00}{H H1 H2:Hp}(a:Grow K H H1)(b:Grow K H1 H2):Grow K H H2:=⟨a.1.trans b.1,λ_ z=>b.2 _ (a.2 _ z)⟩
section
variable{X:Cx}{a C F:Addr}{oe:Obj}{G:GI}{ni:Nat}{n c:Str}{xc:List Str}
noncomputable def ClV(X:Cx)(C:Addr)(c:Str)(c':Str)(v:V)(u:Value):Prop:=RelV v u/\Y17 X.K (.ref C) u=some (xsub c c')/\(∀w,RelV v w->w=u)
structure Sub (X:Cx) (C:Addr) (c:Str) (xc:List Str):Prop where
 ve:X.mg "ValueError"=none
 own:∀c',xc.contains c'=true->c'≠"ValueError"/\∃C',X.mg c'=some (.ref C')/\Y17 X.K (.ref C) (.ref C')=some (xsub c c')
 tve:Y17 X.K (.ref C) (.type "ValueError")=some true
theorem ZgV(S:Sub X C c xc){c':Str}{e:Expr}(h:Zfm xc X.env.scope c' e=true):∃v u,ClV X C c c' v u/\PE (X.caught a oe) e (tC v)/\∃w p,e=.Name w p:=by
 replace h:=Z01 h
 obtain⟨w,h1,h⟩:=h
 obtain⟨p,rfl⟩:=Z09 h1
 simp only[Y04,Y2u]at h
 obtain⟨⟨a1,a2⟩,a3⟩:=h
 obtain rfl:=Z05 a1
 obtain⟨e1,e2,e3⟩:=Z2N a2
 by_cases ev:w="ValueError"
 ·subst ev
  refine⟨.ty "ValueError",.type "ValueError",⟨rfl,S.tve,fun _ r=>r⟩,?_,_,_,rfl⟩
  exact fun pins s σ H Q I h=>Z3b (X:=X.caught a oe) I e1 S.ve (by decide+kernel:bootBuiltins ("ValueError":Str)=some (.type "ValueError")) ⟨.ty "ValueError",H,I,rfl,h⟩ e3 e2
 ·rcases a3 with z|z
  ·exact absurd (Z05 z) ev
  ·obtain⟨_,C',m,k⟩:=S.own w z
   exact⟨.ref C',.ref C',⟨rfl,k,λ_ r=>r⟩,Zay (X:=X.caught a oe) e1 m rfl e2,_,_,rfl⟩
noncomputable def tSE(X:Cx)(a:Addr)(ni:Nat)(b:Bool):TE:=λσ H Q=>σ[ni]?=some (some (.ref a))/\∀H',Grow X.K H H'->Q (.bl b) H'
theorem Zlv(hc:oe.cls=.ref C)(hC:XCls X.K C (.ref F::veMro))(hA:Z7M X.K C=true)(S:Sub X C c xc)(bls:∀x,G.bl.contains x=true->X.mg x=none)(hni:X.N[ni]?=some n) (hln:X.env.scope.names.lookup n=some .local) (d1:(n==("__debug__":Str))=false) (d2:(n==("__classdict__":Str))=false):
  ∀(s:SE) (e:Expr),ZdZ G xc X.env.scope n s e=true->PE (X.caught a oe) e (tSE X a ni (s.val c)):=by
 have pv:∀p,PE (X.caught a oe) (.Name n p) (tVar ni):=λp=>Z9v hni (.inl hln) d1 d2
 have Z:=ZeY (a:=a) hC hA (ZbL (by decide+kernel)) (ZbL (by decide+kernel)) hc
 intro s
 induction s with
 |tt=>
  intro e h
  obtain⟨j,p,rfl⟩:=Zae h
  exact pe_bl.weak λσ H Q hw=>hw.2 H (Grow.refl _)
 |isi c'=>
  intro e h
  replace h:=Z01 h
  obtain⟨y,h1,h⟩:=h
  obtain⟨pf,pv',p,rfl,h2,h3⟩:=ZbG h1
  obtain⟨g1,g2,g3⟩:=Z2N h2
  obtain⟨v,u,⟨r1,r2,r3⟩,py,w,pw,rfl⟩:=ZgV (a:=a) (oe:=oe) S h
  have cr:CallR (X.caught a oe) (.builtin "isinstance") (fun vs H Q=>vs=[.ref a,v]/\Q (.bl (xsub c c')) H):=by
   intro pins s σ H xs us Q I r h
   obtain⟨rfl,q⟩:=h
   match us,r with
   |[u1,u2],.cons z1 (.cons z2 .nil)=>
    cases z1
    cases r3 _ z2
    exact Y0Z Z I.kIn I.pinA r2 (λz=>nomatch z) λtk=>⟨.bl _,H,I.tok tk,rfl,q⟩
  refine(Z58 cr g1 (bls _ h3) Z1U (Z0r (pv pv') (Z0r py pa_nil)) g3 g2).weak λσ H Q hw=>?_
  exact⟨.ref a,hw.1,rfl,hw.2 H (Grow.refl _)⟩
 |is2 c1 c2=>
  intro e h
  replace h:=Z01 h
  obtain⟨y,h1,h⟩:=h
  obtain⟨pf,pv',p,rfl,h2,h3⟩:=ZbG h1
  obtain⟨g1,g2,g3⟩:=Z2N h2
  replace h:=Z01 h
  obtain⟨l,h4,h⟩:=h
  obtain⟨k,pt,rfl⟩:=Z6Y h4
  replace h:=Z01 h
  obtain⟨⟨y1,y2⟩,h5,h⟩:=h
  obtain rfl:=Z5T h5
  rw[Y04]at h
  obtain⟨v,u,⟨r1,r2,r3⟩,py,w,pw,rfl⟩:=ZgV (a:=a) (oe:=oe) S h.1
  obtain⟨v',u',⟨r1',r2',r3'⟩,py',w',pw',rfl⟩:=ZgV (a:=a) (oe:=oe) S h.2
  have cr:CallR (X.caught a oe) (.builtin "isinstance") (fun vs H Q=>∃tp,vs=[.ref a,.ref tp]/\H tp=some (.tup [v,v'])/\Q (.bl (xsub c c1||xsub c c2)) H):=by
   intro pins s σ H xs us Q I r h
   obtain⟨tp,rfl,ht,q⟩:=h
   obtain⟨w1,w2,rfl,z1,z2⟩:=Zak r
   cases z1
   cases z2
   have ea:Y1A X.K (.ref C) [u,u']=some (xsub c c1||xsub c c2):=by
    unfold Y1A
    rw[r2]
    cases xsub c c1 with
    |true=>rfl
    |false=>
     show Y1A X.K _ [u']=_
     unfold Y1A
     rw[r2']
     cases xsub c c2<;>rfl
   obtain⟨its,rv,p,_⟩:=I.tuple (SqT.of (K:=X.K) ht)
   obtain⟨⟨cls,dd,data,sl⟩,ho,hc',n',hd⟩:=id p
   simp only at hc' hd
   subst hc' hd
   cases rv with
   |cons z3 z4=>
    cases z4 with
    |cons z5 z6=>
     cases z6
     obtain rfl:=r3 _ z3
     obtain rfl:=r3' _ z5
     exact Y12 Z I.kIn I.pinA ho ea (λz=>nomatch z) λtk=>⟨.bl _,H,I.tok tk,rfl,q⟩
  have ptu:PE (X.caught a oe) (.Tuple [.Name w pw,.Name w' pw'] k pt) (tTup (Z6Z (tC v) (Z6Z (tC v') tNil))):=ZfO (Z0r py (Z0r py' pa_nil))
  refine(Z58 cr g1 (bls _ h3) Z1U (Z0r (pv pv') (Z0r ptu pa_nil)) g3 g2).weak λσ H Q hw=>?_
  refine⟨.ref a,hw.1,(by decide:2≤sizeLine),λp hp=>⟨p,rfl,Z13,?_⟩⟩
  exact hw.2 _ ⟨Kp.new hp _,λM rh=>rh.kept hp _⟩
 |nt s ih=>
  intro e h
  replace h:=Z01 h
  obtain⟨⟨o,l⟩,h1,h⟩:=h
  obtain⟨p,rfl⟩:=Zeg h1
  rw[Y04]at h
  obtain rfl:=Z05 h.1
  refine(ZfP (ih _ h.2)).weak λσ H Q hw=>?_
  exact⟨hw.1,λH' g=>⟨_,rfl,hw.2 H' g⟩⟩
 |an s1 s2 ih1 ih2=>
  intro e h
  replace h:=Z01 h
  obtain⟨⟨o,vs,p⟩,h1,h⟩:=h
  obtain rfl:=Z9c h1
  replace h:=Z01 h
  obtain⟨⟨l,r,rest⟩,h2,h⟩:=h
  obtain rfl:=ZdN h2
  simp only[Y04]at h
  obtain⟨⟨h3,h4⟩,h5⟩:=h
  obtain rfl:=Z05 h3
  have hb:PE (X.caught a oe) (.BoolOp .And (r::rest) p) (tSE X a ni (s2.val c)):=by
   cases e:non0 rest with
   |true=>
    obtain rfl:=Z0s e
    exact Zd3 (ih2 _ h5)
   |false=>rw[e]at h5;exact ih2 _ h5
  refine(ZfR (ih1 _ h4) hb).weak λσ H Q hw=>?_
  refine⟨hw.1,λH' g=>⟨_,rfl,?_⟩⟩
  show if s1.val c=true then _ else _
  cases ev:s1.val c with
  |true=>
   rw[if_pos rfl]
   refine⟨hw.1,λH2 g2=>?_⟩
   have:=hw.2 H2 (g.trans g2)
   simp only[SE.val,ev,Y3I]at this
   exact this
  |false=>
   rw[if_neg (by decide)]
   have:=hw.2 H' g
   simp only[SE.val,ev,Y2G]at this
   exact this
end
end L2
namespace L2
set_option genInjectivity false
open PySem PySem.Spec PyProof.Rows
structure TryD where
 i:Option Nat
 j:Nat
 e:IE
 es:IEs
 ni:Nat
 k:Nat
 cs:List Str
noncomputable def ZhY:Stmt->Option (Stmt×Str×Str×Stmt)
 |.Try [b] [.ExceptHandler (some (.Name F _)) (some n) [s] _] [] [] _=>some (b,F,n,s)
 |_=>none
theorem Zfp{st:Stmt}{q:Stmt×Str×Str×Stmt}(h:ZhY st=some q):∃fp hp pos,st=.Try [q.1] [.ExceptHandler (some (.Name q.2.1 fp)) (some q.2.2.1) [q.2.2.2] hp] [] [] pos:=by
 unfold ZhY at h
 split at h
 ·cases h;exact⟨_,_,_,rfl⟩
 ·cases h
structure TryB where
 i:Option Nat
 j:Nat
 e:IE
 es:IEs
 hc:Option Str
 ni:Option Nat
 k:Nat
 su:SE
noncomputable def Zei:Stmt->Option (Stmt×Str×Option Str×Stmt)
 |.Try [b] [.ExceptHandler (some (.Name F _)) n [s] _] [] [] _=>some (b,F,n,s)
 |_=>none
theorem Zeh{st:Stmt}{q:Stmt×Str×Option Str×Stmt}(h:Zei st=some q):∃fp hp pos,st=.Try [q.1] [.ExceptHandler (some (.Name q.2.1 fp)) q.2.2.1 [q.2.2.2] hp] [] [] pos:=by
 unfold Zei at h
 split at h
 ·cases h;exact⟨_,_,_,rfl⟩
 ·cases h
noncomputable def goM(i:Option Nat)(σ:Sm):Sm:=match i with
 |none=>σ
 |some i=>σ.set i none
noncomputable def stO(i:Option Nat)(x:MV)(σ:Sm):Sm:=match i with
 |none=>σ
 |some i=>σ.set i (some x)
section
variable(Φ:List (Str×SpM))(Ψ:List (Str×SpX))(xc:List Str)
noncomputable def wTry(D:TryD)(E:EndM)(σ:Sm)(M:MH):Prop:=wE Φ D.e σ M λv M1=>wEs Φ D.es σ M1 λvs M2=>∃f sp,Ψ[D.j]?=some (f,sp)/\
 sp (v::vs) M2 (λx M3=>E.nx (stO D.i x σ) M3) λc M3=>xc.contains c=true/\∀p,M3 p=none->E.nx ((σ.set D.k (some (.ref p))).set D.ni none) (updM M3 p (.lst (D.cs.map λc'=>.bl (xsub c c'))))
noncomputable def Zih(D:TryB)(E:EndM)(σ:Sm)(M:MH):Prop:=wE Φ D.e σ M λv M1=>wEs Φ D.es σ M1 λvs M2=>∃f sp,Ψ[D.j]?=some (f,sp)/\
 sp (v::vs) M2 (λx M3=>E.nx (stO D.i x σ) M3) λc M3=>xc.contains c=true/\(∀c0,D.hc=some c0->c0=c)/\E.nx (goM D.ni (σ.set D.k (some (.bl (D.su.val c))))) M3
inductive IT where|pl (s:IS)|tr (D:TryD)|tb (D:TryB)
noncomputable def wT:IT->EndM->Sm->MH->Prop
 |.pl s=>wS Φ s
 |.tr D=>wTry Φ Ψ xc D
 |.tb D=>Zih Φ Ψ xc D
noncomputable def wTs:List IT->EndM->Sm->MH->Prop
 |[],D,σ,M=>D.nx σ M
 |s::r,D,σ,M=>wT Φ Ψ xc s {nx:=λσ M=>wTs r D σ M,rt:=D.rt,bk:=D.bk,ct:=D.ct} σ M
end
section
variable{Φ:List (Str×SpM)}{Ψ:List (Str×SpX)}{xc:List Str}
theorem Zjw(hΦ:∀(j:Nat) f sp,Φ[j]?=some (f,sp)->MonW sp) (hΨ:∀(j:Nat) f sp,Ψ[j]?=some (f,sp)->MonX sp) (s:IT) {D D':EndM} {σ:Sm} {M:MH} (l:D.Le D') (h:wT Φ Ψ xc s D σ M):wT Φ Ψ xc s D' σ M:=by
 cases s with
 |pl s=>exact ZeU hΦ s l h
 |tr d=>exact Z04 hΦ d.e (λv M1 h1=>mon_es hΦ d.es (λvs M2 ⟨f,sp,e,h2⟩=>⟨f,sp,e,hΨ _ f sp e (λ_ _ z=>l.nx _ _ z) (λc M3 ⟨z,y⟩=>⟨z,λp hp=>l.nx _ _ (y p hp)⟩) h2⟩) h1) h
 |tb d=>exact Z04 hΦ d.e (λv M1 h1=>mon_es hΦ d.es (λvs M2 ⟨f,sp,e,h2⟩=>⟨f,sp,e,hΨ _ f sp e (λ_ _ z=>l.nx _ _ z) (λc M3 ⟨z,y,w⟩=>⟨z,y,l.nx _ _ w⟩) h2⟩) h1) h
theorem Zdc(hΦ:∀(j:Nat) f sp,Φ[j]?=some (f,sp)->MonW sp) (hΨ:∀(j:Nat) f sp,Ψ[j]?=some (f,sp)->MonX sp):∀(s:List IT) {D D':EndM} {σ:Sm} {M:MH},D.Le D'->wTs Φ Ψ xc s D σ M->wTs Φ Ψ xc s D' σ M
 |[],D,D',σ,M,l,h=>by exact l.nx _ _ h
 |s::r,D,D',σ,M,l,h=>by
  refine Zjw hΦ hΨ s ?_ h
  exact⟨λσ M h1=>Zdc hΦ hΨ r l h1,l.rt,l.bk,l.ct⟩
end
noncomputable def ZdY(G:GX)(sc:Scope)(N:List Str)(i:Option Nat)(j:Nat)(e:IE)(es:IEs)(b:Stmt):Bool:=match i with
 |none=>(asEx b).any λv=>chkC G sc N j e es v
 |some i=>(Zb5 b).any λq=>(the1 q.1).any λt=>(Z0K t).any λx=>decide (N[i]?=some x)&&locB sc x&&chkC G sc N j e es q.2
noncomputable def Zk8(G:GX)(sc:Scope)(N:List Str)(D:TryD)(n:Str)(s:Stmt):Bool:=
 (Zb5 s).any λq=>(the1 q.1).any λt=>(Z0K t).any λx=>(Zfr q.2).any λl=>decide (N[D.k]?=some x)&&locB sc x&&ZhS G.g sc n D.cs l
noncomputable def Zgj(G:GX)(xb:Str)(sc:Scope)(N:List Str)(D:TryD)(st:Stmt):Bool:=(ZhY st).any λq=>
 decide (q.2.1=xb)&&glB sc xb&&decide (N[D.ni]?=some q.2.2.1)&&decide (sc.names.lookup q.2.2.1=some .local)&& !(q.2.2.1==("__debug__":Str))&& !(q.2.2.1==("__classdict__":Str))&& !(D.k==D.ni)&&decide (D.cs.length≤100)&&
 D.cs.all (fun c=>decide (c="ValueError")||G.xc.contains c)&&ZdY G sc N D.i D.j D.e D.es q.1&&Zk8 G sc N D q.2.2.1 q.2.2.2
noncomputable def Zk9(G:GX)(sc:Scope)(N:List Str)(D:TryB)(n:Option Str)(v:Expr):Bool:=match D.ni,n with
 |none,none=>(match D.su with|.tt=>Zaf v|_=>false)
 |some ni,some n=>D.hc.isNone&&decide (N[ni]?=some n)&&decide (sc.names.lookup n=some .local)&& !(n==("__debug__":Str))&& !(n==("__classdict__":Str))&& !(D.k==ni)&&ZdZ G.g G.xc sc n D.su v
 |_,_=>false
noncomputable def ZdX(G:GX)(xb:Str)(sc:Scope)(N:List Str)(D:TryB)(st:Stmt):Bool:=(Zei st).any λq=>(Zb5 q.2.2.2).any λz=>(the1 z.1).any λt=>(Z0K t).any λx=>
 (match D.hc with|none=>decide (q.2.1=xb)|some c=>decide (q.2.1=c)&&G.xc.contains c)&&glB sc q.2.1&&decide (N[D.k]?=some x)&&locB sc x&&Z3u z.2&&ZdY G sc N D.i D.j D.e D.es q.1&&Zk9 G sc N D q.2.2.1 z.2
noncomputable def chkT(G:GX)(xb:Str)(sc:Scope)(N:List Str):IT->Stmt->Bool
 |.pl s,st=>chkS G.g sc N s st
 |.tr D,st=>Zgj G xb sc N D st
 |.tb D,st=>ZdX G xb sc N D st
noncomputable def Zfl(G:GX)(xb:Str)(sc:Scope)(N:List Str):List IT->List Stmt->Bool
 |[],l=>non0 l
 |s::r,l=>(hd1 l).any λq=>chkT G xb sc N s q.1&&Zfl G xb sc N r q.2
structure Exs (K:Y00) (mg:Str->Option Value) (xb:Str) (xc:List Str):Prop where
 ve:mg "ValueError"=none
 bas:∃F,mg xb=some (.ref F)/\XCls K F veMro/\∀c,xc.contains c=true->∃C,mg c=some (.ref C)/\Y0h K mainGlobals c=some (some (.ref C))/\XCls K C (.ref F::veMro)/\Z7M K C=true/\
  ∀c',xc.contains c'=true->∃C',mg c'=some (.ref C')/\(if decide (c'=c)then PySem.W.isIn K (.ref C) C' else Z3x K C C')=true
structure Tok (X:Cx) (G:GX) (xb:Str) (Φ:List (Str×SpM)) (Ψ:List (Str×SpX)):Prop where
 c:Cok X.nox G.g Φ
 stk:X.stack=X.env::X.outer
 frm:X.env.frame=some X.env.locals
 exs:Exs X.K X.mg xb G.xc
 vx:G.xc.contains "ValueError"=false
 mon:∀(j:Nat) f sp,Ψ[j]?=some (f,sp)->MonX sp
 fnn:∀(j:Nat) f,G.xf[j]?=some f->∃sp,Ψ[j]?=some (f,sp)
 fns:∀(j:Nat) f sp,G.xf[j]?=some f->Ψ[j]?=some (f,sp)->∃k fa fd ps,Room k X.A/\FnOk X.prog X.w X.K X.mg X.base (CX1 X.prog X.w) k fa fd ps (Z7V X.K sp)/\X.mg f=some (.ref fa)/\Y0V X.K (.ref fa)=true/\Binds X.K fd ps []
theorem RS.gone{K:Y00}{H:Hp}{σm:Sm}{σ:St}(h:RS K H σm σ){m:MV}{v:V}(r:RM K H m v)(k ni:Nat)(w:Option V):RS K H ((σm.set k (some m)).set ni none) (((σ.set ni w).set k (some v)).set ni none):=by
 refine⟨by simp[h.1],λj x e=>?_⟩
 by_cases hj:ni=j
 ·subst hj
  rw[Y16,if_pos rfl]at e
  split at e<;>cases e
 ·rw[Y1n hj]at e ⊢
  by_cases hk:k=j
  ·subst hk
   rw[Y16,if_pos rfl]at e
   split at e
   ·rename_i hlt
    cases e
    refine⟨v,?_,r⟩
    rw[Y16,if_pos rfl,if_pos (by simpa [<- h.1]using hlt)]
   ·cases e
  ·rw[Y1n hk]at e ⊢
   rw[Y1n hj]
   exact h.2 j x e
section
variable{X:Cx}{G:GX}{xb:Str}{Φ:List (Str×SpM)}{Ψ:List (Str×SpX)}
noncomputable def Cau(X:Cx)(xc:List Str)(H:Hp)(R:Str->MH->Prop)(C:Addr)(H':Hp):Prop:=∃c M3,xc.contains c=true/\Y0h X.K mainGlobals c=some (some (.ref C))/\Kp H H'/\RH X.K M3 H'/\R c M3
theorem Z6S(x:Tok X G xb Φ Ψ){j:Nat}{a:IE}{es:IEs}{v:Expr}(h:chkC G X.env.scope X.N j a es v=true){pins:List (Addr×Obj)}{s:Shared}{σ:St}{σm:Sm}{H:Hp}{M:MH}{Q:VK}{R:Str->MH->Prop}{xe':Value->Shared->Prop}(I:Inv X pins σ H s)(rs:RS X.K H σm σ)(rh:RH X.K M H)
  (hw:wE Φ a σm M λv M1=>wEs Φ es σm M1 λvs M2=>∃f sp,Ψ[j]?=some (f,sp)/\sp (v::vs) M2 (Dn X.K H Q) λc M3=>G.xc.contains c=true/\R c M3)
  (hx:∀H1 s1 e s',Inv X pins σ H1 s1->CX1 X.prog X.w X.stack H1 s1 (λc _ H'=>∃C,c=.ref C/\Cau X G.xc H R C H') e s'->xe' e s'):
  wpAny (model X.prog X.w) X.A (eval v X.env) (EP X pins σ Q) xe' s/\Z3u v=true:=by
 obtain⟨f,p,y,ys,p2,rfl,h1,h2,h3,h4⟩:=Ze1 h
 obtain⟨g1,g2,g3⟩:=Z2N h2
 obtain⟨sp,hj⟩:=x.fnn j f h1
 obtain⟨k,fa,fd,ps,hr,F,hm,hk,hb⟩:=x.fns j f sp h1 hj
 have c:=x.c
 have ha:PA X.nox (y::ys) (Z6Z (liE X.K (wE Φ a)) (liA X.K (wEs Φ es))):=Z0r (X:=X.nox) (sE a c h3).pe (sA es c h4) (Z0a h3)
 refine⟨Zfn (E:=λc _ H'=>∃C,c=.ref C/\Cau X G.xc H R C H') I F hr g1 hm hk hb ha g2 (Z0a h3) (Z36 (Z2k (pos:=p2) h4)).2 ?_ hx,rfl⟩
 refine⟨σm,M,rs,rh,Z04 c.mon a (λv M1 q1=>?_) hw⟩
 intro u H1 k1 r1 rh1
 refine⟨σm,M1,rs.mono k1,rh1,mon_es c.mon es (λvs M2 ⟨f',sp',e,q2⟩=>?_) q1⟩
 rw[hj]at e
 cases e
 intro us H2 k2 r2 rh2
 refine⟨v::vs,M2,.cons (r1.mono k2) r2,rh2,x.mon j f sp hj (λm M' hq=>hq.on (k1.trans k2)) (λc' M' hc C H' e' kk rr=>?_) q2⟩
 exact⟨C,rfl,c',M',hc.1,e',k1.trans (k2.trans kk),rr,hc.2⟩
theorem Zcy(x:Tok X G xb Φ Ψ){D:TryD}{F C a:Addr}{c n:Str}{oe:Obj}{st:Stmt}{pins:List (Addr×Obj)}{σ:St}{H':Hp}{s6:Shared}{Q:Flow->Shared->Prop}(hc:oe.cls=.ref C)(hC:XCls X.K C (.ref F::veMro))(hA:Z7M X.K C=true)
  (hT:∀c'∈D.cs,(c'="ValueError"/\X.mg c'=none/\xsub c c'=true)\/∃C',X.mg c'=some (.ref C')/\(if xsub c c' then PySem.W.isIn X.K (.ref C) C' else Z3x X.K C C')=true)
  (hni:X.N[D.ni]?=some n) (hln:X.env.scope.names.lookup n=some .local) (d1:(n==("__debug__":Str))=false) (d2:(n==("__classdict__":Str))=false) (hk:D.k≠D.ni) (hl:D.cs.length≤100) (h:Zk8 G X.env.scope X.N D n st=true) (hfn:∀y,X.fn y=true)
  (hlt:D.ni<σ.length) (I:Inv (X.caught a oe) pins (σ.set D.ni (some (.ref a))) H' s6)
  (hq:∀p,H' p=none->∀s8,Inv X pins (((σ.set D.ni (some (.ref a))).set D.k (some (.ref p))).set D.ni none) (upd H' p (.lst (D.cs.map λc'=>V.bl (xsub c c')))) s8->Q .next s8):
  wpAny (model X.prog X.w) (X.A.mark (some (.ref a))) (execs [st] X.env) (λf s7=>∃σ' H'',Inv (X.caught a oe) pins σ' H'' s7/\∀s8,Inv X pins (σ'.set D.ni none) H'' s8->Q f s8) (λ_ _=>False) s6:=by
 replace h:=Z01 h
 obtain⟨⟨ts,v⟩,h1,h⟩:=h
 obtain⟨p,rfl⟩:=Z37 h1
 replace h:=Z01 h
 obtain⟨t,h2,h⟩:=h
 obtain rfl:=Z1b h2
 replace h:=Z01 h
 obtain⟨y,h3,h⟩:=h
 obtain⟨px,rfl⟩:=Z09 h3
 replace h:=Z01 h
 obtain⟨l,h4,h⟩:=h
 obtain⟨pl,rfl⟩:=ZbF h4
 simp only[Y04]at h
 obtain⟨⟨a1,a2⟩,a3⟩:=h
 obtain⟨hp,_⟩:=ZlD (X:=X) (a:=a) (oe:=oe) (b:=xsub c) hc hC hA x.c.bls hni hln d1 d2 D.cs l a3 hT
 have ps:=Z8b (X:=X.caught a oe) (pos:=p) (pos':=px) x.c.nd (Z05 a1) (Z4h a2) (ZfQ (pos:=pl) hp) rfl (.inl (hfn _))
 have:=Zaw ps pins s6 _ H' {nx:=λσ' H''=>∃p,H' p=none/\σ'=(σ.set D.ni (some (.ref a))).set D.k (some (.ref p))/\H''=upd H' p (.lst (D.cs.map λc'=>V.bl (xsub c c'))),rt:=λ_ _=>False} I ⟨by rw[Y16,if_pos rfl,if_pos hlt],by rw[Y03];exact Y0N hl (by decide),λp hp=>⟨p,hp,rfl,rfl⟩⟩
 refine wpAny_mono this (λf s7 q=>?_) λ_ _ z=>z
 cases f with
 |next=>
  obtain⟨σ',H'',I',p,hp,rfl,rfl⟩:=q
  exact⟨_,_,I',hq p hp⟩
 |ret u=>obtain⟨_,_,_,_,_,z⟩:=q;exact z.elim
 |brk=>obtain⟨_,_,_,z⟩:=q;exact z.elim
 |cont=>obtain⟨_,_,_,z⟩:=q;exact z.elim
end
end L2
namespace L2
set_option genInjectivity false
open PySem PySem.Spec PyProof.Rows
theorem RMs.bls{K:Y00}{H:Hp}(b:Str->Bool):∀cs:List Str,RMs K H (cs.map λc=>.bl (b c)) (cs.map λc=>.bl (b c))
 |[]=>.nil
 |_::cs=>.cons (.bl _) (RMs.bls b cs)
section
variable{X:Cx}{G:GX}{xb:Str}{Φ:List (Str×SpM)}{Ψ:List (Str×SpX)}
theorem sTry(x:Tok X G xb Φ Ψ)(hf:∀y,X.fn y=true)(D:TryD){st:Stmt}(h:Zgj G xb X.env.scope X.N D st=true):PS X st (liSt X.K (wTry Φ Ψ G.xc D)):=by
 replace h:=Z01 h
 obtain⟨⟨b,Fn,n,su⟩,h1,h⟩:=h
 obtain⟨fp,hp,pos,rfl⟩:=Zfp h1
 simp only[Y04,Y1r]at h
 obtain⟨⟨⟨⟨⟨⟨⟨⟨⟨⟨a1,a2⟩,a3⟩,a4⟩,a5⟩,a6⟩,a7⟩,a8⟩,a9⟩,b1⟩,b2⟩:=h
 have e1:Fn=xb:=Z05 a1
 subst e1
 obtain⟨g1,g2,g3⟩:=Z2N a2
 obtain⟨F,mF,cF,cs⟩:=x.exs.bas
 intro pins s σ H E I hw
 obtain⟨σm,M,rs,rh,hw⟩:=hw
 have hx:∀H1 s1 e s',Inv X pins σ H1 s1->CX1 X.prog X.w X.stack H1 s1 (λc _ H'=>∃C,c=.ref C/\Cau X G.xc H (λc M3=>∀p,M3 p=none->(liD X.K H E).nx ((σm.set D.k (some (.ref p))).set D.ni none) (updM M3 p (.lst (D.cs.map λc'=>.bl (xsub c c'))))) C H') e s'->
   wpAny (model X.prog X.w) X.A (noteFrame e X.env) (λ_ s₂=>wpAny (model X.prog X.w) X.A (setFlight e none) (λ_ s₃=>wpAny (model X.prog X.w) X.A (handleBy e X.env [.ExceptHandler (some (.Name Fn fp)) (some n) [su] hp]) (SP X pins E) X.xe s₃) X.xe s₂) X.xe s':=by
  intro H1 s1 e s' I1 hc
  refine Ze2 I1 hc x.stk x.frm cF (λC H' ⟨c,M3,hc,hn,_⟩=>?_) g1 mF g2 x.c.nd (Z05 a3) (Z05 a4) ?_
  ·obtain⟨C',m',n',xc,_⟩:=cs c hc
   rw[hn]at n';cases n';exact xc
  rintro a oe C H' s6 hcls ⟨c,M3,hc,hn,kk,rr,hR⟩ I6
  obtain⟨C',m',n',xC,xA,sub⟩:=cs c hc
  rw[hn]at n';cases n'
  refine Zcy x hcls xC xA (c:=c) (λc' hc'=>?_) (Z05 a3) (Z05 a4) a5 a6 (by simpa using a7) (Z05 a8) b2 hf ?_ I6 λp hp s8 I8=>?_
  ·have:=List.all_eq_true.mp a9 c' hc'
   rw[Y2u]at this
   by_cases ev:c'="ValueError"
   ·subst ev
    exact .inl ⟨rfl,x.exs.ve,rfl⟩
   ·rcases this with z|z
    ·exact absurd (Z05 z) ev
    ·obtain⟨C',m'',q⟩:=sub c' z
     refine .inr ⟨C',m'',?_⟩
     unfold xsub
     rw[decide_eq_false ev,Y2o]
     exact q
  ·have:=(Y08.mp (Z05 a3)).1
   rw[I1.len];exact this
  ·have k2:=Kp.new hp (.lst (D.cs.map λc'=>V.bl (xsub c c')))
   exact⟨_,_,I8,hR p (rr.free hp) _ _ (kk.trans k2) (RS.gone (rs.mono (kk.trans k2)) (.ref p) _ _ _) (rr.put k2 (RMs.bls _ _))⟩
 refine wpAny_Try_except (wpAny_execs_cons ?_)
 unfold ZdY at b1
 unfold wTry stO at hw
 cases ei:D.i with
 |none=>
  rw[ei]at b1 hw
  replace b1:=Z01 b1
  obtain⟨v,h1,b1⟩:=b1
  obtain⟨p,rfl⟩:=Z9b h1
  obtain⟨w1,w2⟩:=Z6S (Q:=λ_ H1=>E.nx σ H1) x b1 I rs rh (Z04 x.c.mon _ (λv M1 q1=>mon_es x.c.mon _ (λvs M2 ⟨f,sp,e1,q2⟩=>⟨f,sp,e1,x.mon _ f sp e1 (λm M' z u H1 k1 r1 rh1=>z _ _ k1 (rs.mono k1) rh1) (λ_ _ z=>z) q2⟩) q1) hw) hx
  refine wpAny_Expr_any (wpAny_mono w1 (λu s1 ⟨v,H1,I1,r1,q⟩=>?_) λ_ _ z=>z) I.quiet (Z52 w2)
  exact wpAny_execs_nil (wpAny_execs_nil ⟨σ,H1,I1,q⟩)
 |some i=>
  rw[ei]at b1 hw
  replace b1:=Z01 b1
  obtain⟨⟨ts,v⟩,h1,b1⟩:=b1
  obtain⟨p,rfl⟩:=Z37 h1
  replace b1:=Z01 b1
  obtain⟨t,h2,b1⟩:=b1
  obtain rfl:=Z1b h2
  replace b1:=Z01 b1
  obtain⟨y,h3,b1⟩:=b1
  obtain⟨px,rfl⟩:=Z09 h3
  simp only[Y04]at b1
  obtain⟨⟨c1,c2⟩,c3⟩:=b1
  obtain⟨w1,w2⟩:=Z6S (Q:=λv H1=>E.nx (σ.set i (some v)) H1) x c3 I rs rh (Z04 x.c.mon _ (λv M1 q1=>mon_es x.c.mon _ (λvs M2 ⟨f,sp,e1,q2⟩=>⟨f,sp,e1,x.mon _ f sp e1 (λm M' z u H1 k1 r1 rh1=>z _ _ k1 ((rs.mono k1).set r1 i) rh1) (λ_ _ z=>z) q2⟩) q1) hw) hx
  refine wpAny_Assign_Name (wpAny_mono w1 (λu s1 ⟨v,H1,I1,r1,q⟩=>?_) λ_ _ z=>z) (Z3l w2)
  exact Z53 I1 x.c.nd (Z05 c1) (Z4h c2) r1 (λs2 I2=>wpAny_execs_nil (wpAny_execs_nil ⟨_,H1,I2,q⟩)) (.inl (hf _))
theorem Zeu(x:Tok X G xb Φ Ψ)(hf:∀y,X.fn y=true){i:Option Nat}{j:Nat}{e:IE}{es:IEs}{b:Stmt}(b1:ZdY G X.env.scope X.N i j e es b=true){pins:List (Addr×Obj)}{s:Shared}{σ:St}{σm:Sm}{H:Hp}{M:MH}{E:Ends}{R:Str->MH->Prop}{xe':Value->Shared->Prop}(I:Inv X pins σ H s)(rs:RS X.K H σm σ)(rh:RH X.K M H)
  (hw:wE Φ e σm M λv M1=>wEs Φ es σm M1 λvs M2=>∃f sp,Ψ[j]?=some (f,sp)/\sp (v::vs) M2 (λx M3=>(liD X.K H E).nx (stO i x σm) M3) λc M3=>G.xc.contains c=true/\R c M3)
  (hx:∀H1 s1 e s',Inv X pins σ H1 s1->CX1 X.prog X.w X.stack H1 s1 (λc _ H'=>∃C,c=.ref C/\Cau X G.xc H R C H') e s'->xe' e s'):
  wpAny (model X.prog X.w) X.A (exec b X.env) (λf s'=>match f with|.next=>wpAny (model X.prog X.w) X.A (execs [] X.env) (λf s₁=>match f with|.next=>wpAny (model X.prog X.w) X.A (execs [] X.env) (SP X pins E) X.xe s₁|f=>SP X pins E f s₁) xe' s'|f=>(match f with|.next=>wpAny (model X.prog X.w) X.A (execs [] X.env) (SP X pins E) X.xe s'|f=>SP X pins E f s')) xe' s:=by
 unfold ZdY at b1
 unfold stO at hw
 cases i with
 |none=>
  replace b1:=Z01 b1
  obtain⟨v,h1,b1⟩:=b1
  obtain⟨p,rfl⟩:=Z9b h1
  obtain⟨w1,w2⟩:=Z6S (Q:=λ_ H1=>E.nx σ H1) x b1 I rs rh (Z04 x.c.mon _ (λv M1 q1=>mon_es x.c.mon _ (λvs M2 ⟨f,sp,e1,q2⟩=>⟨f,sp,e1,x.mon _ f sp e1 (λm M' z u H1 k1 r1 rh1=>z _ _ k1 (rs.mono k1) rh1) (λ_ _ z=>z) q2⟩) q1) hw) hx
  refine wpAny_Expr_any (wpAny_mono w1 (λu s1 ⟨v,H1,I1,r1,q⟩=>?_) λ_ _ z=>z) I.quiet (Z52 w2)
  exact wpAny_execs_nil (wpAny_execs_nil ⟨σ,H1,I1,q⟩)
 |some i=>
  replace b1:=Z01 b1
  obtain⟨⟨ts,v⟩,h1,b1⟩:=b1
  obtain⟨p,rfl⟩:=Z37 h1
  replace b1:=Z01 b1
  obtain⟨t,h2,b1⟩:=b1
  obtain rfl:=Z1b h2
  replace b1:=Z01 b1
  obtain⟨y,h3,b1⟩:=b1
  obtain⟨px,rfl⟩:=Z09 h3
  simp only[Y04]at b1
  obtain⟨⟨c1,c2⟩,c3⟩:=b1
  obtain⟨w1,w2⟩:=Z6S (Q:=λv H1=>E.nx (σ.set i (some v)) H1) x c3 I rs rh (Z04 x.c.mon _ (λv M1 q1=>mon_es x.c.mon _ (λvs M2 ⟨f,sp,e1,q2⟩=>⟨f,sp,e1,x.mon _ f sp e1 (λm M' z u H1 k1 r1 rh1=>z _ _ k1 ((rs.mono k1).set r1 i) rh1) (λ_ _ z=>z) q2⟩) q1) hw) hx
  refine wpAny_Assign_Name (wpAny_mono w1 (λu s1 ⟨v,H1,I1,r1,q⟩=>?_) λ_ _ z=>z) (Z3l w2)
  exact Z53 I1 x.c.nd (Z05 c1) (Z4h c2) r1 (λs2 I2=>wpAny_execs_nil (wpAny_execs_nil ⟨_,H1,I2,q⟩)) (.inl (hf _))
theorem Zil(x:Tok X G xb Φ Ψ){c:Str}{C F:Addr}(hm:∀c',G.xc.contains c'=true->∃C',X.mg c'=some (.ref C')/\(if decide (c'=c)then PySem.W.isIn X.K (.ref C) C' else Z3x X.K C C')=true)(hC:XCls X.K C (.ref F::veMro)):Sub X C c G.xc where
 ve:=x.exs.ve
 own:=λc' hc'=>by
  have nv:c'≠"ValueError":=fun z=>by
   have:=x.vx
   rw[<- z,hc']at this
   cases this
  obtain⟨C',m,h⟩:=hm c' hc'
  refine⟨nv,C',m,?_⟩
  have ex:xsub c c'=decide (c'=c):=by unfold xsub;rw[decide_eq_false nv,Y2o]
  rw[ex]
  unfold Y17
  by_cases hcc:c'=c
  ·rw[decide_eq_true hcc]at h ⊢
   have h:PySem.W.isIn X.K (.ref C) C'=true:=h
   unfold PySem.W.isIn at h
   split
   ·rfl
   ·rename_i ne
    rw[Bool.eq_false_iff.mpr ne,Y2o]at h
    simp only[Y04]at h
    show PySem.W.kitCls X.K (.ref C) (.ref C')=_
    unfold PySem.W.kitCls
    simp only
    rw[if_pos (by rw[Y04];exact⟨h.1.1.1,h.1.1.2⟩)]
    exact beq_iff_eq.mp h.2
  ·rw[decide_eq_false hcc]at h ⊢
   have h:Z3x X.K C C'=true:=h
   unfold Z3x at h
   simp only[Y04,Y1r]at h
   obtain⟨⟨⟨⟨e0,e1⟩,e2⟩,e3⟩,e4⟩:=h
   rw[e4,if_neg (by simp)]
   unfold PySem.W.kitCls
   simp only
   rw[if_pos (by rw[Y04];exact⟨e0,e1⟩)]
   exact beq_iff_eq.mp e3
 tve:=by
  obtain⟨nm,qn,N,bs,hdct,sn,sub,ab,col,dd,k0,k1,k2,k3,k5,l,n⟩:=hC
  unfold Y17
  rw[if_neg (λq=>by cases beq_iff_eq.mp q)]
  unfold PySem.W.kitCls
  simp only
  rw[if_pos (by decide+kernel)]
  show Y3F X.K C _=_
  unfold Y3F PySem.W.clsIn
  rw[l]
  show(if(Y0k C::.ref F::veMro).isEmpty then none else some ((Y0k C::.ref F::veMro).contains (.type "ValueError")))=some true
  rw[if_neg (by simp),List.contains_cons,List.contains_cons]
  rw[show veMro.contains (Y0n "ValueError")=true by decide+kernel,Y1G,Y1G]
theorem Zkx(x:Tok X G xb Φ Ψ)(hf:∀y,X.fn y=true)(D:TryB){st:Stmt}(h:ZdX G xb X.env.scope X.N D st=true):PS X st (liSt X.K (Zih Φ Ψ G.xc D)):=by
 replace h:=Z01 h
 obtain⟨⟨b,Fn,on,su⟩,h1,h⟩:=h
 obtain⟨fp,hp,pos,rfl⟩:=Zeh h1
 replace h:=Z01 h
 obtain⟨⟨ts,v⟩,h2,h⟩:=h
 obtain⟨pa,e2⟩:=Z37 h2
 have e2:su=_:=e2
 subst e2
 replace h:=Z01 h
 obtain⟨t,h3,h⟩:=h
 obtain rfl:=Z1b h3
 replace h:=Z01 h
 obtain⟨y,h4,h⟩:=h
 obtain⟨py,rfl⟩:=Z09 h4
 simp only[Y04]at h
 obtain⟨⟨⟨⟨⟨⟨a1,a2⟩,a3⟩,a4⟩,a5⟩,a6⟩,a7⟩:=h
 obtain⟨g1,g2,g3⟩:=Z2N a2
 obtain⟨F,mF,cF,cs⟩:=x.exs.bas
 intro pins s σ H E I hw
 obtain⟨σm,M,rs,rh,hw⟩:=hw
 refine wpAny_Try_except (wpAny_execs_cons (Zeu (R:=λc M3=>(∀c0,D.hc=some c0->c0=c)/\(liD X.K H E).nx (goM D.ni (σm.set D.k (some (.bl (D.su.val c))))) M3) x hf a6 I rs rh hw ?_))
 intro H1 s1 e s' I1 hc
 have end_:∀(f:Flow) s7 (a:Addr) (oe:Obj) (D':Ends),SP (X.caught a oe) pins {nx:=D'.nx,rt:=λ_ _=>False} f s7->f=.next/\∃σ' H'',Inv (X.caught a oe) pins σ' H'' s7/\D'.nx σ' H'':=by
  intro f s7 a oe D' q
  cases f with
  |next=>exact⟨rfl,q⟩
  |ret u=>obtain⟨_,_,_,_,_,z⟩:=q;exact z.elim
  |brk=>obtain⟨_,_,_,z⟩:=q;exact z.elim
  |cont=>obtain⟨_,_,_,z⟩:=q;exact z.elim
 unfold Zk9 at a7
 cases en:D.ni with
 |none=>
  rw[en]at a7
  cases on with
  |some n=>cases a7
  |none=>
   have hsu:D.su=.tt/\Zaf v=true:=by
    cases es:D.su with
    |tt=>rw[es]at a7;exact⟨rfl,a7⟩
    |_=>rw[es]at a7;cases a7
   obtain⟨j,p,rfl⟩:=Zae hsu.2
   have suite0:∀(a:Addr) (oe:Obj) (C:Addr) (H':Hp) (s6:Shared),oe.cls=.ref C->Cau X G.xc H (λc M3=>(∀c0,D.hc=some c0->c0=c)/\(liD X.K H E).nx (goM D.ni (σm.set D.k (some (.bl (D.su.val c))))) M3) C H'->Inv (X.caught a oe) pins σ H' s6->
     wpAny (model X.prog X.w) (X.A.mark (some (.ref a))) (execs [.Assign [.Name y py] (.Constant (.bool true) j p) pa] X.env) (λf s7=>∃σ' H'',Inv (X.caught a oe) pins σ' H'' s7/\∀s8,Inv X pins σ' H'' s8->SP X pins E f s8) (λ_ _=>False) s6:=by
    rintro a oe C H' s6 hcls ⟨c,M3,hcx,hn,kk,rr,hR⟩ I6
    have ps:=Z8b (X:=X.caught a oe) (pos:=pa) (pos':=py) x.c.nd (Z05 a3) (Z4h a4) (pe_bl (b:=true) (j:=j) (pos:=p)) rfl (.inl (hf _))
    have:=Zaw ps pins s6 _ H' {nx:=λσ' H''=>σ'=σ.set D.k (some (.bl true))/\H''=H',rt:=λ_ _=>False} I6 ⟨rfl,rfl⟩
    refine wpAny_mono this (λf s7 q=>?_) λ_ _ z=>z
    obtain⟨rfl,σ',H'',I7,rfl,rfl⟩:=end_ f s7 a oe {nx:=λσ' H''=>σ'=σ.set D.k (some (.bl true))/\H''=H',rt:=λ_ _=>False} q
    refine⟨_,_,I7,λs8 I8=>⟨_,_,I8,?_⟩⟩
    have h2:=hR.2
    rw[en,hsu.1]at h2
    exact h2 _ _ kk ((rs.mono kk).set (.bl _) D.k) rr
   cases eh:D.hc with
   |none=>
    rw[eh]at a1
    obtain rfl:Fn=xb:=Z05 a1
    refine Ze3 (bC:=λ_=>.ref F::veMro) I1 hc x.stk x.frm cF (by decide+kernel) (λC H' ⟨c,M3,hc,hn,_⟩=>?_) g1 mF g2 suite0
    obtain⟨C',m',n',xC,_⟩:=cs c hc
    rw[hn]at n';cases n'
    exact⟨xC,by simp⟩
   |some c0=>
    rw[eh]at a1
    have a1:(decide (Fn=c0)&&G.xc.contains c0)=true:=a1
    rw[Y04]at a1
    obtain rfl:Fn=c0:=Z05 a1.1
    obtain⟨C0,m0,n0,xC0,_⟩:=cs Fn a1.2
    refine Ze3 (bC:=λ_=>.ref F::veMro) I1 hc x.stk x.frm xC0 (ZbL (by decide+kernel)) (λC H' ⟨c,M3,hc,hn,_,_,hR⟩=>?_) g1 m0 g2 suite0
    obtain rfl:Fn=c:=hR.1 Fn eh
    rw[hn]at n0;cases n0
    exact⟨xC0,by simp⟩
 |some ni=>
  rw[en]at a7
  cases on with
  |none=>cases a7
  |some n=>
   simp only[Y04,Y1r]at a7
   obtain⟨⟨⟨⟨⟨⟨b1,b2⟩,b3⟩,b4⟩,b5⟩,b6⟩,b7⟩:=a7
   have eh:D.hc=none:=Option.isNone_iff_eq_none.mp b1
   rw[eh]at a1
   obtain rfl:Fn=xb:=Z05 a1
   refine Ze2 I1 hc x.stk x.frm cF (λC H' ⟨c,M3,hc,hn,_⟩=>?_) g1 mF g2 x.c.nd (Z05 b2) (Z05 b3) ?_
   ·obtain⟨C',m',n',xc,_⟩:=cs c hc
    rw[hn]at n';cases n';exact xc
   rintro a oe C H' s6 hcls ⟨c,M3,hcx,hn,kk,rr,hR⟩ I6
   obtain⟨C',m',n',xC,xA,sub⟩:=cs c hcx
   rw[hn]at n';cases n'
   have pv:=Zlv (a:=a) (c:=c) hcls xC xA (Zil x sub xC) x.c.bls (Z05 b2) (Z05 b3) b4 b5 D.su v b7
   have ps:=Z8b (X:=X.caught a oe) (pos:=pa) (pos':=py) x.c.nd (Z05 a3) (Z4h a4) pv (Z3l a5) (.inl (hf _))
   have hlt:ni<σ.length:=by
    have:=(Y08.mp (Z05 b2)).1
    rw[I1.len];exact this
   have:=Zaw ps pins s6 _ H' {nx:=λσ' H''=>σ'=(σ.set ni (some (.ref a))).set D.k (some (.bl (D.su.val c)))/\Grow X.K H' H'',rt:=λ_ _=>False} I6 ⟨by rw[Y16,if_pos rfl,if_pos hlt],λH'' g=>⟨rfl,g⟩⟩
   refine wpAny_mono this (λf s7 q=>?_) λ_ _ z=>z
   obtain⟨rfl,σ',H'',I7,rfl,g⟩:=end_ f s7 a oe {nx:=λσ' H''=>σ'=(σ.set ni (some (.ref a))).set D.k (some (.bl (D.su.val c)))/\Grow X.K H' H'',rt:=λ_ _=>False} q
   refine⟨_,_,I7,λs8 I8=>⟨_,_,I8,?_⟩⟩
   have h2:=hR.2
   rw[en]at h2
   exact h2 _ _ (kk.trans g.1) (RS.gone (rs.mono (kk.trans g.1)) (.bl _) _ _ _) (g.2 _ rr)
theorem sT(x:Tok X G xb Φ Ψ)(hf:∀y,X.fn y=true)(is:IT){st:Stmt}(h:chkT G xb X.env.scope X.N is st=true):PS X st (liSt X.K (wT Φ Ψ G.xc is)):=by
 cases is with
 |pl s=>exact PS.nox (sS s x.c hf h)
 |tr d=>exact sTry x hf d h
 |tb d=>exact Zkx x hf d h
theorem sTs(x:Tok X G xb Φ Ψ)(hf:∀y,X.fn y=true):∀(is:List IT) {sts:List Stmt},Zfl G xb X.env.scope X.N is sts=true->PSs X sts (liSt X.K (wTs Φ Ψ G.xc is))
 |[],sts,h=>by
  obtain rfl:=Z0s h
  refine pss_nil.weak λD σ H hw=>?_
  obtain⟨σm,M,rs,rh,hw⟩:=hw
  exact hw σ H (Kp.refl _) rs rh
 |s::r,sts,h=>by
  replace h:=Z01 h
  obtain⟨⟨y,ys⟩,h1,h⟩:=h
  obtain rfl:=Z3i h1
  rw[Y04]at h
  refine(Z8O (sT x hf s h.1) (sTs x hf r h.2)).weak λD σ H hw=>?_
  obtain⟨σm,M,rs,rh,hw⟩:=hw
  refine⟨σm,M,rs,rh,?_⟩
  refine Zjw x.c.mon x.mon s ?_ hw
  refine⟨λσ' M' z σv H1 k1 rs' rh'=>?_,λv M' z=>z,λσ' M' z=>z,λσ' M' z=>z⟩
  exact⟨σ',M',rs',rh',Zdc x.c.mon x.mon r (liD.on k1) z⟩
end
end L2
namespace L2
set_option genInjectivity false
open PySem PySem.Spec PyProof.Rows
noncomputable def clsB(K:Y00)(C:Addr)(bm:List Value):Bool:=match K.lookup C with
 |some ⟨.type "type",_,.cls cd,sl⟩=>(match cd.mro,sl.toList with
  |.ref C'::bm',[_,_,_,_,some (.builtin n),_]=>C'==C&&n=="ValueError.__new__"&& !cd.hasDel&&decide (bm'=bm)&&nsOk K cd.ns
  |_,_=>false)
 |_=>false
theorem ZdU{K:Y00}{C:Addr}{bm:List Value}(q:clsB K C bm=true):XCls K C bm:=by
 unfold clsB at q
 split at q
 ·rename_i dd cd sl ho
  split at q
  ·rename_i C' bm' k0 k1 k2 k3 n k5 hm hs
   simp only[Y04,beq_iff_eq,Y1r,decide_eq_true_eq]at q
   obtain⟨⟨⟨⟨rfl,rfl⟩,hdel⟩,rfl⟩,hok⟩:=q
   obtain⟨nm,bs,mro,ns,qn,hd,sn,sub,ab,col,del⟩:=cd
   dsimp only at hm hdel hok
   subst hm hdel
   have hsl:sl=#[k0,k1,k2,k3,some (.builtin "ValueError.__new__"),k5]:=by
    obtain⟨l⟩:=sl
    simp only at hs
    rw[hs]
   subst hsl
   exact⟨_,_,_,_,_,_,_,_,_,_,_,_,_,_,_,ho,hok⟩
  ·cases q
 ·cases q
noncomputable def ZcR(K:Y00)(c:Str):Option Addr:=match Y0h K mainGlobals c with
 |some (some (.ref C))=>some C
 |_=>none
theorem Z6W{K:Y00}{c:Str}{C:Addr}(h:ZcR K c=some C):Y0h K mainGlobals c=some (some (.ref C)):=by
 unfold ZcR at h
 split at h
 ·cases h;assumption
 ·cases h
noncomputable def exsB(K:Y00)(xb:Str)(xc:List Str):Bool:=(ZcR K xb).any λF=>clsB K F veMro&&xc.all λc=>(ZcR K c).any λC=>clsB K C (.ref F::veMro)&&Z7M K C&&xc.all λc'=>(ZcR K c').any λC'=>if decide (c'=c)then PySem.W.isIn K (.ref C) C' else Z3x K C C'
theorem Zk1{K:Y00}{h:Heap}{mg:Str->Option Value}{xb:Str}{xc:List Str}(e:exsB K xb xc=true)(v:Y0h K mainGlobals "ValueError"=some none)(X:K.In h)(G:h.Ns mainGlobals mg):Exs K mg xb xc:=by
 unfold exsB at e
 obtain⟨F,hF,e⟩:=Z01 e
 rw[Y04]at e
 refine⟨Y0D X G v,F,Y0T X G (Z6W hF),ZdU e.1,λc hc=>?_⟩
 obtain⟨C,hC,q⟩:=Z01 (List.all_eq_true.mp e.2 c (by simpa using hc))
 simp only[Y04]at q
 refine⟨C,Y0T X G (Z6W hC),Z6W hC,ZdU q.1.1,q.1.2,λc' hc'=>?_⟩
 obtain⟨C',hC',q'⟩:=Z01 (List.all_eq_true.mp q.2 c' (by simpa using hc'))
 exact⟨C',Y0T X G (Z6W hC'),q'⟩
structure FtX (P:Program) (w:World) (K:Y00) (mg:Str->Option Value) (base:Heap) (k:Nat) (xf:List Str) (Ψ:List (Str×SpX)):Prop where
 mon:∀(j:Nat) f sp,Ψ[j]?=some (f,sp)->MonX sp
 fnn:∀(j:Nat) f,xf[j]?=some f->∃sp,Ψ[j]?=some (f,sp)
 fns:∀(j:Nat) f sp,xf[j]?=some f->Ψ[j]?=some (f,sp)->∃fa fd ps,FnOk P w K mg base (CX1 P w) k fa fd ps (Z7V K sp)/\mg f=some (.ref fa)/\Y0V K (.ref fa)=true/\Binds K fd ps []
theorem ZeV{P:Program}{w:World}{K:Y00}{mg:Str->Option Value}{base:Heap}{k:Nat}{xf:List Str}{Ψ:List (Str×SpX)}(hf:Ψ.map (·.1)=xf)(hm:∀p∈Ψ,MonX p.2)
  (hF:∀p∈Ψ,∃fa fd ps,FnOk P w K mg base (CX1 P w) k fa fd ps (Z7V K p.2)/\mg p.1=some (.ref fa)/\Y0V K (.ref fa)=true/\Binds K fd ps []):FtX P w K mg base k xf Ψ where
 mon:=λj f sp h=>hm (f,sp) (Y0i h)
 fnn:=λj f h=>by
  rw[<- hf,Y06]at h
  cases e:Ψ[j]? with
  |none=>rw[e]at h;cases h
  |some p=>rw[e]at h;cases h;exact⟨p.2,rfl⟩
 fns:=λj f sp hj h=>hF (f,sp) (Y0i h)
theorem Zgi{P:Program}{w:World}{K:Y00}{mg:Str->Option Value}{base:Heap}{G:GI}{Φ:List (Str×SpM)}{CX:CXT}{qual:Str}{sc:Scope}{f:Addr}{N ps:List Str}{k:Nat}{cdv:Value}{A:Around}{outer:List Env}{s:Shared}{H:Hp}{E:XK}
  (S:FnScope N ps sc) (T:Fts P w K mg base k G Φ) (hr:Room k (A.deeper (envOfC qual sc s.heap.objs.size f cdv))):Cok (cxOf CX P w K mg base N qual sc f cdv A outer s H E).nox G Φ:=
 ⟨(by have:=hr.un;show(A.deeper _).units+70<cLine;lia),rfl,rfl,(by show(if sc.kind.isAnnotationScope then Y2C else sc.kind)=.function;rw[S.kind];rfl),S.nd,T.bls,T.gls,T.fnn,T.mon,
  (λj f sp hg hj=>let⟨fa,fd,ps,F,hm,hk,hb⟩:=T.fns j f sp hg hj;⟨k,fa,fd,ps,hr,F,hm,hk,hb⟩),
  (λj c m h=>let⟨f,sp,hj,C,fa,fd,ps,F,hC,cl,hm,hb⟩:=T.mts j c m h;⟨f,sp,hj,k,C,fa,fd,ps,hr,F,hC,cl,hm,hb⟩),
  (λj c h=>let⟨f,sp,hj,k',C,fa,fd,ps,hk,F,hC,hm,mk1,hb⟩:=T.mks j c h;⟨f,sp,hj,k',C,fa,fd,ps,hr.mono hk,F,hC,hm,mk1,hb⟩),T.cls⟩
theorem Fun.okX{P:Program}{w:World}{K:Y00}{mg:Str->Option Value}{base:Heap}{G:GX}{xb:Str}{Φ:List (Str×SpM)}{Ψ:List (Str×SpX)}{x qual:Str}{st:Stmt}{f:Addr}{fd:FuncData}{N ps:List Str}{k:Nat}{sp:SpX}
  (F:Fun K x qual st f fd) (S:FnScope N ps (Z00 st)) (T:Fts P w K mg base k G.g Φ) (TX:FtX P w K mg base k G.xf Ψ) (Ex:Exs K mg xb G.xc) (ir:IXs) (hc:chkXs G (Z00 st) N ir (Z07 st)=true)
  (len:∀vs M Q X,sp vs M Q X->vs.length=ps.length) (h:∀vs M Q X,sp vs M Q X->wXs Φ Ψ X ir {nx:=λ_ M'=>Q .non M',rt:=Q} (Z54 N.length vs) M):FnOk P w K mg base (CX1 P w) (k+1) f fd ps (Z7V K sp):=by
 obtain⟨oc,od,kV,doc,pm,an,cdv,ct,osl,rfl,lk,hcd⟩:=F.ex
 refine Zk0 lk hcd S (λvs H Q E hs=>?_) λA outer s H vs Q E hr hsp=>?_
 ·obtain⟨ms,M,r,rh,q⟩:=hs
  rw[<- r.length];exact len _ _ _ _ q
 obtain⟨ms,M,r,rh,q⟩:=hsp
 have x:Xok (cxOf (CX1 P w) P w K mg base N qual (Z00 st) f cdv A outer s H E) G Φ Ψ H E:=
  ⟨Zgi S T hr,S.nd,rfl,own1,ZlB,λpins σ H s h' e C vs I hm q=>ZiB I hm q,TX.mon,TX.fnn,(λj f sp hg hj=>let⟨fa,fd,ps,F,hm,hk,hb⟩:=TX.fns j f sp hg hj;⟨k,fa,fd,ps,hr,F,hm,hk,hb⟩),
   λc hc=>let⟨F,mF,cF,cs⟩:=Ex.bas;let⟨C,m1,n1,xC,_⟩:=cs c hc;⟨C,F,m1,n1,cF,xC⟩⟩
 refine⟨_,sXs x (ex:=liEx K E H) (λ_ _ z=>z) (λ_=>rfl) ir hc,Kp.refl _,Z54 N.length ms,M,Z8E r,rh,?_⟩
 refine mon_xs T.mon TX.mon ir (λ_ _ z=>z) ?_ (h ms M _ _ q)
 exact⟨λσ M' z σv H' k1 rs' rh'=>z _ _ k1 .non rh',λv M' z=>z,λ_ _ z=>z.elim,λ_ _ z=>z.elim⟩
theorem Zbh{P:Program}{w:World}{K:Y00}{mg:Str->Option Value}{base:Heap}{k:Nat}{f:Addr}{fd:FuncData}{ps:List Str}{sp:SpX}{sp':SpM}(F:FnOk P w K mg base (CX1 P w) k f fd ps (Z7V K sp))(h:∀vs M Q X,sp' vs M Q->sp vs M Q X):FnOk P w K mg base CX0 k f fd ps (liSp K sp'):=by
 have conv:∀vs H Q E,liSp K sp' vs H Q E->Z7V K sp vs H Q E0:=λvs H Q E ⟨ms,M,r,rh,q⟩=>⟨ms,M,r,rh,h _ _ _ _ q⟩
 refine⟨λvs H Q E hs=>F.len _ _ _ _ (conv _ _ _ _ hs),λA outer s H args us vs Q E hr e0 hb r hs=>?_⟩
 refine codeAny_mono (F.run A outer s H args us vs Q E0 hr e0 hb r (conv _ _ _ _ hs)) λres s' q=>?_
 cases res with
 |error e=>
  obtain⟨_,_,_,_,_,_,_,_,_,_,_,_,_,z⟩:=q
  exact z.elim
 |ok fl=>cases fl<;>exact q
theorem Fun.okT{P:Program}{w:World}{K:Y00}{mg:Str->Option Value}{base:Heap}{G:GX}{xb:Str}{Φ:List (Str×SpM)}{Ψ:List (Str×SpX)}{x qual:Str}{st:Stmt}{f:Addr}{fd:FuncData}{N ps:List Str}{k:Nat}{sp:SpM}
  (F:Fun K x qual st f fd) (S:FnScope N ps (Z00 st)) (T:Fts P w K mg base k G.g Φ) (TX:FtX P w K mg base k G.xf Ψ) (Ex:Exs K mg xb G.xc) (vx:G.xc.contains "ValueError"=false) (ir:List IT) (hc:Zfl G xb (Z00 st) N ir (Z07 st)=true)
  (len:∀vs M Q,sp vs M Q->vs.length=ps.length) (h:∀vs M Q,sp vs M Q->wTs Φ Ψ G.xc ir {nx:=λ_ M'=>Q .non M',rt:=Q} (Z54 N.length vs) M):FnOk P w K mg base CX0 (k+1) f fd ps (liSp K sp):=by
 refine F.ok S (λvs H Q E hs=>?_) λcdv A outer s H vs Q E hr hs=>?_
 ·obtain⟨ms,M,r,rh,q⟩:=hs
  rw[<- r.length];exact len _ _ _ q
 obtain⟨ms,M,r,rh,q⟩:=hs
 have x:Tok (cxOf CX0 P w K mg base N qual (Z00 st) f cdv A outer s H E).nox G xb Φ Ψ:=
  ⟨Zgi (CX:=CX0) (E:=E) S T hr,rfl,rfl,Ex,vx,TX.mon,TX.fnn,(λj f sp hg hj=>let⟨fa,fd,ps,F,hm,hk,hb⟩:=TX.fns j f sp hg hj;⟨k,fa,fd,ps,hr,F,hm,hk,hb⟩)⟩
 refine⟨_,sTs x (λ_=>rfl) ir hc,Z54 N.length ms,M,Z8E r,rh,?_⟩
 refine Zdc T.mon TX.mon ir ?_ (h ms M _ q)
 exact⟨λσ M' z σv H' k1 rs' rh'=>z _ _ k1 .non rh',λv M' z=>z,λ_ _ z=>z.elim,λ_ _ z=>z.elim⟩
end L2
namespace L2
open PySem PySem.Spec PyProof.Rows
section
variable{Φ:List (Str×SpM)}{Ψ:List (Str×SpX)}{ex:Str->MH->Prop}{xc:List Str}{D:EndM}{σ:Sm}{M:MH}
theorem Zke:wXs Φ Ψ ex .nil D σ M=D.nx σ M:=rfl
theorem Zic{s:IX}{r:IXs}:wXs Φ Ψ ex (.cons s r) D σ M=wX Φ Ψ ex s {nx:=λσ M=>wXs Φ Ψ ex r D σ M,rt:=D.rt,bk:=D.bk,ct:=D.ct} σ M:=rfl
theorem x_pl{s:IS}:wX Φ Ψ ex (.pl s) D σ M=wS Φ s D σ M:=rfl
theorem x_rs{c:Str}{e:IE}:wX Φ Ψ ex (.rs c e) D σ M=wE Φ e σ M λ_ M1=>ex c M1:=rfl
theorem x_rf{c:Str}{i:Nat}:wX Φ Ψ ex (.rf c i) D σ M=∃x,σ[i]?=some (some (.str x))/\ShortT x/\ex c M:=rfl
theorem x_cl{j:Nat}{e:IE}{es:IEs}:wX Φ Ψ ex (.cl j e es) D σ M=wE Φ e σ M λv M1=>wEs Φ es σ M1 λvs M2=>∃f sp,Ψ[j]?=some (f,sp)/\sp (v::vs) M2 (λ_ M3=>D.nx σ M3) ex:=rfl
theorem x_st{i j:Nat}{e:IE}{es:IEs}:wX Φ Ψ ex (.st i j e es) D σ M=wE Φ e σ M λv M1=>wEs Φ es σ M1 λvs M2=>∃f sp,Ψ[j]?=some (f,sp)/\sp (v::vs) M2 (λx M3=>D.nx (σ.set i (some x)) M3) ex:=rfl
theorem x_rt{j:Nat}{e:IE}{es:IEs}:wX Φ Ψ ex (.rt j e es) D σ M=wE Φ e σ M λv M1=>wEs Φ es σ M1 λvs M2=>∃f sp,Ψ[j]?=some (f,sp)/\sp (v::vs) M2 D.rt ex:=rfl
theorem Zkg{t:ITg}{s:ISr}{b:IXs}:wX Φ Ψ ex (.for_ t s b) D σ M=wSr Φ s σ M λS M1=>S.flat/\∃J:Nat->Sm->MH->Prop,J 0 σ M1/\(∀i σ M,J i σ M->S.ok M)/\
   (∀i x σ M,S.items[i]?=some x->J i σ M->wTg t x σ λσ2=>wXs Φ Ψ ex b {nx:=J (i+1),rt:=D.rt,bk:=D.nx,ct:=J (i+1)} σ2 M)/\∀σ M,J S.len σ M->D.nx σ M:=rfl
theorem Zkh:wTs Φ Ψ xc [] D σ M=D.nx σ M:=rfl
theorem Zii{s:IT}{r:List IT}:wTs Φ Ψ xc (s::r) D σ M=wT Φ Ψ xc s {nx:=λσ M=>wTs Φ Ψ xc r D σ M,rt:=D.rt,bk:=D.bk,ct:=D.ct} σ M:=rfl
theorem t_pl{s:IS}:wT Φ Ψ xc (.pl s) D σ M=wS Φ s D σ M:=rfl
theorem t_tr{i:Option Nat}{j ni k:Nat}{e:IE}{es:IEs}{cs:List Str}:wT Φ Ψ xc (.tr ⟨i,j,e,es,ni,k,cs⟩) D σ M=wE Φ e σ M λv M1=>wEs Φ es σ M1 λvs M2=>∃f sp,Ψ[j]?=some (f,sp)/\
 sp (v::vs) M2 (λx M3=>D.nx (stO i x σ) M3) λc M3=>xc.contains c=true/\∀p,M3 p=none->D.nx ((σ.set k (some (.ref p))).set ni none) (updM M3 p (.lst (cs.map λc'=>.bl (xsub c c')))):=rfl
theorem Zfe{a:Str}{b:SpX}{R:SpX->Prop}:(∃f sp,(a=f/\b=sp)/\R sp)↔R b:=⟨fun⟨_,_,⟨_,e⟩,h⟩=>e▸h,λh=>⟨a,b,⟨rfl,rfl⟩,h⟩⟩
theorem t_tb{i ni:Option Nat}{j k:Nat}{e:IE}{es:IEs}{hc:Option Str}{su:SE}:wT Φ Ψ xc (.tb ⟨i,j,e,es,hc,ni,k,su⟩) D σ M=wE Φ e σ M λv M1=>wEs Φ es σ M1 λvs M2=>∃f sp,Ψ[j]?=some (f,sp)/\
 sp (v::vs) M2 (λx M3=>D.nx (stO i x σ) M3) λc M3=>xc.contains c=true/\(∀c0,hc=some c0->c0=c)/\D.nx (goM ni (σ.set k (some (.bl (su.val c))))) M3:=rfl
theorem go0:goM none σ=σ:=rfl
theorem go1{i:Nat}:goM (some i) σ=σ.set i none:=rfl
theorem sto0{x:MV}:stO none x σ=σ:=rfl
theorem sto1{i:Nat}{x:MV}:stO (some i) x σ=σ.set i (some x):=rfl
theorem Zkd{c c':Str}:xsub c c'=(decide (c'="ValueError")||decide (c'=c)):=rfl
end
end L2
namespace My
open PySem L2
noncomputable abbrev XB:Str:="FerryError"
noncomputable abbrev XC:List Str:=["Unknown","Twice","NoName","NoWord","TooMany","NoStep","NoFerry","NoWidth"]
noncomputable def top(i:Nat):Stmt:=PySem.Challenge.pw_bellferry_k21_a_world_made.main.body.getD i (.Pass ⟨0,0,0,0⟩)
noncomputable abbrev Z2z:Stmt:=top 12
noncomputable abbrev Z2y:Stmt:=top 13
noncomputable abbrev Z56:Stmt:=top 14
noncomputable abbrev Z9s:Stmt:=top 15
noncomputable abbrev Z0Y:Stmt:=top 17
noncomputable abbrev Z3p:Stmt:=top 18
noncomputable abbrev Z1A:Stmt:=top 19
noncomputable abbrev Z3o:Stmt:=top 20
noncomputable abbrev Z3q:Stmt:=top 31
noncomputable abbrev Z1f:Stmt:=top 32
noncomputable abbrev Z0I:Stmt:=top 33
noncomputable abbrev Z0n:Stmt:=top 34
noncomputable abbrev Z0D:Stmt:=top 35
noncomputable abbrev Z1d:Stmt:=top 36
noncomputable abbrev Z1e:Stmt:=top 37
noncomputable abbrev Z0P:Stmt:=top 38
noncomputable abbrev Z0J:Stmt:=top 39
noncomputable abbrev Z0X:Stmt:=top 40
noncomputable abbrev Z0C:Stmt:=top 41
noncomputable abbrev Z0x:Stmt:=top 42
noncomputable abbrev Z57:Stmt:=top 43
noncomputable abbrev Z9r:Stmt:=top 44
noncomputable abbrev Z1z:Stmt:=top 45
noncomputable abbrev Z1W:Stmt:=top 46
noncomputable abbrev Z2A:Stmt:=top 47
noncomputable abbrev Z1B:Stmt:=top 48
noncomputable abbrev Z20:Stmt:=top 50
noncomputable abbrev Z2B:Stmt:=top 51
noncomputable abbrev Z1D:Stmt:=top 52
noncomputable abbrev Z1X:Stmt:=top 53
noncomputable abbrev Z1Y:Stmt:=top 54
noncomputable abbrev Z1Z:Stmt:=top 55
noncomputable abbrev Z10:Stmt:=top 56
noncomputable abbrev Z1C:Stmt:=top 57
noncomputable abbrev Z0Z:Stmt:=top 58
noncomputable abbrev ZcN:Stmt:=top 59
set_option genInjectivity false in
set_option genSizeOf false in
structure Adr where
 f_is_whole:Addr
 d_is_whole:FuncData
 f_is_width:Addr
 d_is_width:FuncData
 f_two_to:Addr
 d_two_to:FuncData
 f_fits:Addr
 d_fits:FuncData
 f_parts_within:Addr
 d_parts_within:FuncData
 f_size_of:Addr
 d_size_of:FuncData
 f_names_read:Addr
 d_names_read:FuncData
 f_vars_in:Addr
 d_vars_in:FuncData
 f_is_name:Addr
 d_is_name:FuncData
 f_refuse_name:Addr
 d_refuse_name:FuncData
 f_refuse_unknown:Addr
 d_refuse_unknown:FuncData
 f_refuse_ferry_names:Addr
 d_refuse_ferry_names:FuncData
 f_refuse_variables:Addr
 d_refuse_variables:FuncData
 f_refuse_term:Addr
 d_refuse_term:FuncData
 f_refuse_step:Addr
 d_refuse_step:FuncData
 f_refuse_island:Addr
 d_refuse_island:FuncData
 f_refuse_islands:Addr
 d_refuse_islands:FuncData
 f_refuse_ferry:Addr
 d_refuse_ferry:FuncData
 f_refuse_wrong_end:Addr
 d_refuse_wrong_end:FuncData
 f_refuse_wrong_ends:Addr
 d_refuse_wrong_ends:FuncData
 f_frozen:Addr
 d_frozen:FuncData
 f_made:Addr
 d_made:FuncData
 f_one_called:Addr
 d_one_called:FuncData
 f_island_of:Addr
 d_island_of:FuncData
 f_ferry_of:Addr
 d_ferry_of:FuncData
 f_ferries_at:Addr
 d_ferries_at:FuncData
 f__law_cell:Addr
 d__law_cell:FuncData
 f__law_mix:Addr
 d__law_mix:FuncData
 f__law_names:Addr
 d__law_names:FuncData
 f__law_word:Addr
 d__law_word:FuncData
 f__law_term:Addr
 d__law_term:FuncData
 f__law_step:Addr
 d__law_step:FuncData
 f__law_ferries:Addr
 d__law_ferries:FuncData
 f__law_world:Addr
 d__law_world:FuncData
 f__law_refused:Addr
 d__law_refused:FuncData
 f_law:Addr
 d_law:FuncData
structure Txt (K:Y00) (mg:Str->Option Value) (t:Adr):Prop where
 q_is_whole:FnT K mg "is_whole" ["value"] Z2z t.f_is_whole t.d_is_whole
 q_is_width:FnT K mg "is_width" ["number"] Z2y t.f_is_width t.d_is_width
 q_two_to:FnT K mg "two_to" ["exponent"] Z56 t.f_two_to t.d_two_to
 q_fits:FnT K mg "fits" ["width","number"] Z9s t.f_fits t.d_fits
 q_parts_within:FnT K mg "parts_within" ["T"] Z0Y t.f_parts_within t.d_parts_within
 q_size_of:FnT K mg "size_of" ["T"] Z3p t.f_size_of t.d_size_of
 q_names_read:FnT K mg "names_read" ["T"] Z1A t.f_names_read t.d_names_read
 q_vars_in:FnT K mg "vars_in" ["T"] Z3o t.f_vars_in t.d_vars_in
 q_is_name:FnT K mg "is_name" ["text"] Z3q t.f_is_name t.d_is_name
 q_refuse_name:FnT K mg "refuse_name" ["text","earlier"] Z1f t.f_refuse_name t.d_refuse_name
 q_refuse_unknown:FnT K mg "refuse_unknown" ["name","known"] Z0I t.f_refuse_unknown t.d_refuse_unknown
 q_refuse_ferry_names:FnT K mg "refuse_ferry_names" ["ferries"] Z0n t.f_refuse_ferry_names t.d_refuse_ferry_names
 q_refuse_variables:FnT K mg "refuse_variables" ["width","pairs"] Z0D t.f_refuse_variables t.d_refuse_variables
 q_refuse_term:FnT K mg "refuse_term" ["T","known"] Z1d t.f_refuse_term t.d_refuse_term
 q_refuse_step:FnT K mg "refuse_step" ["step","known","count","ferry_names"] Z1e t.f_refuse_step t.d_refuse_step
 q_refuse_island:FnT K mg "refuse_island" ["width","island","ferry_names"] Z0P t.f_refuse_island t.d_refuse_island
 q_refuse_islands:FnT K mg "refuse_islands" ["width","islands","ferry_names"] Z0J t.f_refuse_islands t.d_refuse_islands
 q_refuse_ferry:FnT K mg "refuse_ferry" ["ferry","island_names"] Z0X t.f_refuse_ferry t.d_refuse_ferry
 q_refuse_wrong_end:FnT K mg "refuse_wrong_end" ["name","step","givers","takers"] Z0C t.f_refuse_wrong_end t.d_refuse_wrong_end
 q_refuse_wrong_ends:FnT K mg "refuse_wrong_ends" ["islands","ferries"] Z0x t.f_refuse_wrong_ends t.d_refuse_wrong_ends
 q_frozen:FnT K mg "frozen" ["value"] Z57 t.f_frozen t.d_frozen
 q_made:FnT K mg "made" ["width","islands","ferries"] Z9r t.f_made t.d_made
 q_one_called:FnT K mg "one_called" ["row","name"] Z1z t.f_one_called t.d_one_called
 q_island_of:FnT K mg "island_of" ["world","name"] Z1W t.f_island_of t.d_island_of
 q_ferry_of:FnT K mg "ferry_of" ["world","name"] Z2A t.f_ferry_of t.d_ferry_of
 q_ferries_at:FnT K mg "ferries_at" ["world","name"] Z1B t.f_ferries_at t.d_ferries_at
 q__law_cell:FnT K mg "_law_cell" ["script","k"] Z20 t.f__law_cell t.d__law_cell
 q__law_mix:FnT K mg "_law_mix" ["number","salt"] Z2B t.f__law_mix t.d__law_mix
 q__law_names:FnT K mg "_law_names" ["number","many"] Z1D t.f__law_names t.d__law_names
 q__law_word:FnT K mg "_law_word" ["number","width"] Z1X t.f__law_word t.d__law_word
 q__law_term:FnT K mg "_law_term" ["number","own","deep"] Z1Y t.f__law_term t.d__law_term
 q__law_step:FnT K mg "_law_step" ["number","name","ferries","own","many"] Z1Z t.f__law_step t.d__law_step
 q__law_ferries:FnT K mg "_law_ferries" ["number","names","many"] Z10 t.f__law_ferries t.d__law_ferries
 q__law_world:FnT K mg "_law_world" ["script","start"] Z1C t.f__law_world t.d__law_world
 q__law_refused:FnT K mg "_law_refused" ["world","island","ferry"] Z0Z t.f__law_refused t.d__law_refused
 q_law:FnT K mg "law" ["script"] ZcN t.f_law t.d_law
 z_ValueError:mg "ValueError"=none
 z_all:mg "all"=none
 z_bool:mg "bool"=none
 z_dict:mg "dict"=none
 z_int:mg "int"=none
 z_isinstance:mg "isinstance"=none
 z_len:mg "len"=none
 z_list:mg "list"=none
 z_max:mg "max"=none
 z_min:mg "min"=none
 z_range:mg "range"=none
 z_set:mg "set"=none
 z_sorted:mg "sorted"=none
 z_tuple:mg "tuple"=none
 c_MOST_WIDTH:∃tk,mg "MOST_WIDTH"=some (.int 64 tk)
 c_MOST_LETTERS:∃tk,mg "MOST_LETTERS"=some (.int 8 tk)
 c_MOST_ISLANDS:∃tk,mg "MOST_ISLANDS"=some (.int 5 tk)
 c_MOST_FERRIES:∃tk,mg "MOST_FERRIES"=some (.int 6 tk)
 c_MOST_VARS:∃tk,mg "MOST_VARS"=some (.int 6 tk)
 c_MOST_STEPS:∃tk,mg "MOST_STEPS"=some (.int 12 tk)
 c_MOST_PARTS:∃tk,mg "MOST_PARTS"=some (.int 30 tk)
 c_MOST_DEPTH:∃tk,mg "MOST_DEPTH"=some (.int 8 tk)
 c_MOST_K:∃tk,mg "MOST_K"=some (.int 3 tk)
 c_MOST_STAGES:∃tk,mg "MOST_STAGES"=some (.int 3 tk)
 ex:Exs K mg XB XC
theorem Zat:FnScope ["value"] ["value"] (Z00 Z2z):=⟨rfl,rfl,rfl,by decide+kernel,rfl,by decide+kernel,by decide+kernel⟩
theorem Zas:FnScope ["number"] ["number"] (Z00 Z2y):=⟨rfl,rfl,rfl,by decide+kernel,rfl,by decide+kernel,by decide+kernel⟩
theorem ZcM:FnScope ["exponent","answer","k"] ["exponent"] (Z00 Z56):=⟨rfl,rfl,rfl,by decide+kernel,rfl,by decide+kernel,by decide+kernel⟩
theorem Zgx:FnScope ["width","number"] ["width","number"] (Z00 Z9s):=⟨rfl,rfl,rfl,by decide+kernel,rfl,by decide+kernel,by decide+kernel⟩
theorem Z71:FnScope ["T"] ["T"] (Z00 Z0Y):=⟨rfl,rfl,rfl,by decide+kernel,rfl,by decide+kernel,by decide+kernel⟩
theorem ZbP:FnScope ["T","parts","deepest","part","size"] ["T"] (Z00 Z3p):=⟨rfl,rfl,rfl,by decide+kernel,rfl,by decide+kernel,by decide+kernel⟩
theorem Z8K:FnScope ["T","names","part"] ["T"] (Z00 Z1A):=⟨rfl,rfl,rfl,by decide+kernel,rfl,by decide+kernel,by decide+kernel⟩
theorem ZbO:FnScope ["T"] ["T"] (Z00 Z3o):=⟨rfl,rfl,rfl,by decide+kernel,rfl,by decide+kernel,by decide+kernel⟩
theorem ZbQ:FnScope ["text"] ["text"] (Z00 Z3q):=⟨rfl,rfl,rfl,by decide+kernel,rfl,by decide+kernel,by decide+kernel⟩
theorem Z7P:FnScope ["text","earlier"] ["text","earlier"] (Z00 Z1f):=⟨rfl,rfl,rfl,by decide+kernel,rfl,by decide+kernel,by decide+kernel⟩
theorem Z5U:FnScope ["name","known"] ["name","known"] (Z00 Z0I):=⟨rfl,rfl,rfl,by decide+kernel,rfl,by decide+kernel,by decide+kernel⟩
theorem Z3n:FnScope ["ferries","earlier","ferry"] ["ferries"] (Z00 Z0n):=⟨rfl,rfl,rfl,by decide+kernel,rfl,by decide+kernel,by decide+kernel⟩
theorem Z4O:FnScope ["width","pairs","earlier","pair","name"] ["width","pairs"] (Z00 Z0D):=⟨rfl,rfl,rfl,by decide+kernel,rfl,by decide+kernel,by decide+kernel⟩
theorem Z7N:FnScope ["T","known","size","name"] ["T","known"] (Z00 Z1d):=⟨rfl,rfl,rfl,by decide+kernel,rfl,by decide+kernel,by decide+kernel⟩
theorem Z7O:FnScope ["step","known","count","ferry_names"] ["step","known","count","ferry_names"] (Z00 Z1e):=⟨rfl,rfl,rfl,by decide+kernel,rfl,by decide+kernel,by decide+kernel⟩
theorem Z6J:FnScope ["width","island","ferry_names","known","step"] ["width","island","ferry_names"] (Z00 Z0P):=⟨rfl,rfl,rfl,by decide+kernel,rfl,by decide+kernel,by decide+kernel⟩
theorem Z5V:FnScope ["width","islands","ferry_names","earlier","island"] ["width","islands","ferry_names"] (Z00 Z0J):=⟨rfl,rfl,rfl,by decide+kernel,rfl,by decide+kernel,by decide+kernel⟩
theorem Z70:FnScope ["ferry","island_names"] ["ferry","island_names"] (Z00 Z0X):=⟨rfl,rfl,rfl,by decide+kernel,rfl,by decide+kernel,by decide+kernel⟩
theorem Z4N:FnScope ["name","step","givers","takers"] ["name","step","givers","takers"] (Z00 Z0C):=⟨rfl,rfl,rfl,by decide+kernel,rfl,by decide+kernel,by decide+kernel⟩
theorem Z4b:FnScope ["islands","ferries","givers","takers","island","step"] ["islands","ferries"] (Z00 Z0x):=⟨rfl,rfl,rfl,by decide+kernel,rfl,by decide+kernel,by decide+kernel⟩
theorem Z9m:FnScope ["value"] ["value"] (Z00 Z57):=⟨rfl,rfl,rfl,by decide+kernel,rfl,by decide+kernel,by decide+kernel⟩
theorem Zgw:FnScope ["width","islands","ferries","island_names","ferry"] ["width","islands","ferries"] (Z00 Z9r):=⟨rfl,rfl,rfl,by decide+kernel,rfl,by decide+kernel,by decide+kernel⟩
theorem Z8J:FnScope ["row","name","one"] ["row","name"] (Z00 Z1z):=⟨rfl,rfl,rfl,by decide+kernel,rfl,by decide+kernel,by decide+kernel⟩
theorem Z9l:FnScope ["world","name"] ["world","name"] (Z00 Z1W):=⟨rfl,rfl,rfl,by decide+kernel,rfl,by decide+kernel,by decide+kernel⟩
theorem Zau:FnScope ["world","name"] ["world","name"] (Z00 Z2A):=⟨rfl,rfl,rfl,by decide+kernel,rfl,by decide+kernel,by decide+kernel⟩
theorem Z8L:FnScope ["world","name"] ["world","name"] (Z00 Z1B):=⟨rfl,rfl,rfl,by decide+kernel,rfl,by decide+kernel,by decide+kernel⟩
theorem Z9q:FnScope ["script","k"] ["script","k"] (Z00 Z20):=⟨rfl,rfl,rfl,by decide+kernel,rfl,by decide+kernel,by decide+kernel⟩
theorem Zav:FnScope ["number","salt","mixed"] ["number","salt"] (Z00 Z2B):=⟨rfl,rfl,rfl,by decide+kernel,rfl,by decide+kernel,by decide+kernel⟩
theorem Z8N:FnScope ["number","many","letters","first","step","size","at","stem","names","k","sign"] ["number","many"] (Z00 Z1D):=⟨rfl,rfl,rfl,by decide+kernel,rfl,by decide+kernel,by decide+kernel⟩
theorem Z9n:FnScope ["number","width","far"] ["number","width"] (Z00 Z1X):=⟨rfl,rfl,rfl,by decide+kernel,rfl,by decide+kernel,by decide+kernel⟩
theorem Z9o:FnScope ["number","own","deep","way","more","far","one","two"] ["number","own","deep"] (Z00 Z1Y):=⟨rfl,rfl,rfl,by decide+kernel,rfl,by decide+kernel,by decide+kernel⟩
theorem Z9p:FnScope ["number","name","ferries","own","many","takes","gives","way","more","term"] ["number","name","ferries","own","many"] (Z00 Z1Z):=⟨rfl,rfl,rfl,by decide+kernel,rfl,by decide+kernel,by decide+kernel⟩
theorem Z73:FnScope ["number","names","many","ferries","j","more","giver","taker","ends"] ["number","names","many"] (Z00 Z10):=⟨rfl,rfl,rfl,by decide+kernel,rfl,by decide+kernel,by decide+kernel⟩
theorem Z8M:FnScope ["script","start","head","many","names","size","width","ferries","islands","i","more","first","own","cells","long","pairs","steps"] ["script","start"] (Z00 Z1C):=⟨rfl,rfl,rfl,by decide+kernel,rfl,by decide+kernel,by decide+kernel⟩
theorem Z72:FnScope ["world","island","ferry","plainly","fine","e"] ["world","island","ferry"] (Z00 Z0Z):=⟨rfl,rfl,rfl,by decide+kernel,rfl,by decide+kernel,by decide+kernel⟩
theorem Ziq:FnScope ["script","width","islands","ferries","due","handed","world","ends","name","pairs","steps","island","own","found","ferry"] ["script"] (Z00 ZcN):=⟨rfl,rfl,rfl,by decide+kernel,rfl,by decide+kernel,by decide+kernel⟩
noncomputable def GB:List Str:=["ValueError","all","bool","dict","int","isinstance","len","list","max","min","range","set","sorted","tuple"]
noncomputable def GL:List (Str×Int):=[("MOST_WIDTH",64),("MOST_LETTERS",8),("MOST_ISLANDS",5),("MOST_FERRIES",6),("MOST_VARS",6),("MOST_STEPS",12),("MOST_PARTS",30),("MOST_DEPTH",8),("MOST_K",3),("MOST_STAGES",3)]
theorem Z0M{K:Y00}{mg:Str->Option Value}{t:Adr}(T:Txt K mg t):∀x∈GB,mg x=none:=(fMc ⟨T.z_ValueError,(fMc ⟨T.z_all,(fMc ⟨T.z_bool,(fMc ⟨T.z_dict,(fMc ⟨T.z_int,(fMc ⟨T.z_isinstance,(fMc ⟨T.z_len,(fMc ⟨T.z_list,(fMc ⟨T.z_max,(fMc ⟨T.z_min,(fMc ⟨T.z_range,(fMc ⟨T.z_set,(fMc ⟨T.z_sorted,(fMc ⟨T.z_tuple,(λ_ h=>nomatch h)⟩)⟩)⟩)⟩)⟩)⟩)⟩)⟩)⟩)⟩)⟩)⟩)⟩)⟩)
theorem Z0i{K:Y00}{mg:Str->Option Value}{t:Adr}(T:Txt K mg t):∀p∈GL,∃tk,mg p.1=some (.int p.2 tk):=(fMc ⟨T.c_MOST_WIDTH,(fMc ⟨T.c_MOST_LETTERS,(fMc ⟨T.c_MOST_ISLANDS,(fMc ⟨T.c_MOST_FERRIES,(fMc ⟨T.c_MOST_VARS,(fMc ⟨T.c_MOST_STEPS,(fMc ⟨T.c_MOST_PARTS,(fMc ⟨T.c_MOST_DEPTH,(fMc ⟨T.c_MOST_K,(fMc ⟨T.c_MOST_STAGES,(λ_ h=>nomatch h)⟩)⟩)⟩)⟩)⟩)⟩)⟩)⟩)⟩)⟩)
noncomputable def Z7r:ISs:=.cons (.ret (.and (.bi .isinst (.var 0) (.cons (.ty .int) .nil)) (.not (.bi .isinst (.var 0) (.cons (.ty .bool) .nil))))) .nil
noncomputable abbrev Z4W:ISs:=Z7r
noncomputable def Z8A:GI:={bl:=GB,gl:=GL,fns:=[]}
theorem ZaY:chkSs Z8A (Z00 Z2z) ["value"] Z4W (Z07 Z2z)=true:=by decide+kernel
noncomputable def Z7q:ISs:=.cons (.ret (.and (.call 0 (.var 0) .nil) (.chn .LtE .LtE (.int 1) (.var 0) (.glb "MOST_WIDTH" 64)))) .nil
noncomputable abbrev Z4V:ISs:=Z7q
noncomputable def Z8z:GI:={bl:=GB,gl:=GL,fns:=["is_whole"]}
theorem ZaX:chkSs Z8z (Z00 Z2y) ["number"] Z4V (Z07 Z2y)=true:=by decide+kernel
noncomputable def Z9H:ISs:=.cons (.ret (.var 1)) .nil
noncomputable def Z9I:ISs:=.cons (.set 1 (.bin .Mult (.var 1) (.int 2))) .nil
noncomputable def Z9J:ISs:=.cons (.for_ (.nm 2) (.rng (.var 0)) Z9I) Z9H
noncomputable def Z9K:ISs:=.cons (.set 1 (.int 1)) Z9J
noncomputable abbrev Z7m:ISs:=Z9K
noncomputable def ZbK:GI:={bl:=GB,gl:=GL,fns:=[]}
theorem ZdW:chkSs ZbK (Z00 Z56) ["exponent","answer","k"] Z7m (Z07 Z56)=true:=by decide+kernel
noncomputable def ZdL:ISs:=.cons (.ret (.and (.call 0 (.var 1) .nil) (.chn .LtE .Lt (.int 0) (.var 1) (.call 1 (.var 0) .nil)))) .nil
noncomputable abbrev ZaK:ISs:=ZdL
noncomputable def Zgm:GI:={bl:=GB,gl:=GL,fns:=["is_whole","two_to"]}
theorem ZhR:chkSs Zgm (Z00 Z9s) ["width","number"] ZaK (Z07 Z9s)=true:=by decide+kernel
noncomputable def Z2f:ISs:=.cons (.ret (.bi .list (.sl (.var 0) (.some (.int 1)) .none) .nil)) .nil
noncomputable def Z2g:ISs:=.cons (.ret (.lst .nil)) .nil
noncomputable def Z3J:ISs:=.cons (.ite (.or (.cmp .Eq (.ix (.var 0) (.int 0)) (.str "num")) (.cmp .Eq (.ix (.var 0) (.int 0)) (.str "var"))) Z2g .nil) Z2f
noncomputable abbrev Z2c:ISs:=Z3J
noncomputable def Z4J:GI:={bl:=GB,gl:=GL,fns:=[]}
theorem Z7B:chkSs Z4J (Z00 Z0Y) ["T"] Z2c (Z07 Z0Y)=true:=by decide+kernel
noncomputable def Z8h:ISs:=.cons (.ret (.tup (.cons (.var 1) (.cons (.bin .Add (.var 2) (.int 1)) .nil)))) .nil
noncomputable def Z8i:ISs:=.cons (.set 2 (.bi .max (.var 2) (.cons (.ix (.var 4) (.int 1)) .nil))) .nil
noncomputable def Z8j:ISs:=.cons (.set 1 (.bin .Add (.var 1) (.ix (.var 4) (.int 0)))) Z8i
noncomputable def Z8k:ISs:=.cons (.set 4 (.call 1 (.var 3) .nil)) Z8j
noncomputable def Z8l:ISs:=.cons (.for_ (.nm 3) (.seq (.call 0 (.var 0) .nil)) Z8k) Z8h
noncomputable def Z8m:ISs:=.cons (.set 2 (.int 0)) Z8l
noncomputable def Z8n:ISs:=.cons (.set 1 (.int 1)) Z8m
noncomputable abbrev Z61:ISs:=Z8n
noncomputable def Zai:GI:={bl:=GB,gl:=GL,fns:=["parts_within","size_of"]}
theorem Zcf:chkSs Zai (Z00 Z3p) ["T","parts","deepest","part","size"] Z61 (Z07 Z3p)=true:=by decide+kernel
noncomputable def Z5i:ISs:=.cons (.ret (.var 1)) .nil
noncomputable def Z5j:ISs:=.cons (.expr (.mt .extend (.var 1) (.cons (.call 0 (.var 2) .nil) .nil))) .nil
noncomputable def Z5k:ISs:=.cons (.for_ (.nm 2) (.seq (.call 1 (.var 0) .nil)) Z5j) Z5i
noncomputable def Z30:ISs:=.cons (.set 1 (.lst .nil)) Z5k
noncomputable def Z5l:ISs:=.cons (.ret (.lst (.cons (.ix (.var 0) (.int 1)) .nil))) .nil
noncomputable def Z5m:ISs:=.cons (.ite (.cmp .Eq (.ix (.var 0) (.int 0)) (.str "var")) Z5l .nil) Z30
noncomputable abbrev Z2W:ISs:=Z5m
noncomputable def Z6F:GI:={bl:=GB,gl:=GL,fns:=["names_read","parts_within"]}
theorem Z96:chkSs Z6F (Z00 Z1A) ["T","names","part"] Z2W (Z07 Z1A)=true:=by decide+kernel
noncomputable def Z8g:ISs:=.cons (.ret (.b2 .ssrt (.call 0 (.var 0) .nil))) .nil
noncomputable abbrev Z60:ISs:=Z8g
noncomputable def Zah:GI:={bl:=GB,gl:=GL,fns:=["names_read"]}
theorem Zce:chkSs Zah (Z00 Z3o) ["T"] Z60 (Z07 Z3o)=true:=by decide+kernel
noncomputable def Z8r:ISs:=.cons (.ret (.and (.chn .LtE .LtE (.int 1) (.bi .len (.var 0) .nil) (.glb "MOST_LETTERS" 8)) (.bi .all (.comp ["sign"] [] (.seq (.var 0)) (.nm 0) .none (.chn .LtE .LtE (.str "a") (.var 0) (.str "z"))) .nil))) .nil
noncomputable abbrev Z62:ISs:=Z8r
noncomputable def Zaj:GI:={bl:=GB,gl:=GL,fns:=[]}
theorem Zcg:chkSs Zaj (Z00 Z3q) ["text"] Z62 (Z07 Z3q)=true:=by decide+kernel
noncomputable def Z80:ISs:=.cons .never .nil
noncomputable def Z4u:ISs:=.cons (.ite (.cmp .In (.var 0) (.var 1)) Z80 .nil) .nil
noncomputable def Z81:ISs:=.cons .never .nil
noncomputable def Z4v:ISs:=.cons (.ite (.not (.call 0 (.var 0) .nil)) Z81 .nil) Z4u
noncomputable abbrev Z2v:ISs:=Z4v
noncomputable def Z5R:GI:={bl:=GB,gl:=GL,fns:=["is_name"]}
theorem Z87:chkSs Z5R (Z00 Z1f) ["text","earlier"] Z2v (Z07 Z1f)=true:=by decide+kernel
noncomputable def Z5Z:ISs:=.cons .never .nil
noncomputable def Z2F:ISs:=.cons (.ite (.cmp .NotIn (.var 0) (.var 1)) Z5Z .nil) .nil
noncomputable abbrev Z1s:ISs:=Z2F
noncomputable def Z3j:GI:={bl:=GB,gl:=GL,fns:=[]}
theorem Z65:chkSs Z3j (Z00 Z0I) ["name","known"] Z1s (Z07 Z0I)=true:=by decide+kernel
noncomputable def Z1F:ISs:=.cons (.expr (.mt .append (.var 1) (.cons (.ix (.var 2) (.int 0)) .nil))) .nil
noncomputable def Z1G:ISs:=.cons (.expr (.call 0 (.ix (.var 2) (.int 0)) (.cons (.var 1) .nil))) Z1F
noncomputable def Z1H:ISs:=.cons (.for_ (.nm 2) (.seq (.var 0)) Z1G) .nil
noncomputable def Z1I:ISs:=.cons (.set 1 (.lst .nil)) Z1H
noncomputable abbrev Z0R:ISs:=Z1I
noncomputable def Z1S:GI:={bl:=GB,gl:=GL,fns:=["refuse_name"]}
theorem Z41:chkSs Z1S (Z00 Z0n) ["ferries","earlier","ferry"] Z0R (Z07 Z0n)=true:=by decide+kernel
noncomputable def Z4U:ISs:=.cons .never .nil
noncomputable def Z25:ISs:=.cons (.ite (.not (.call 0 (.var 0) (.cons (.ix (.var 3) (.int 1)) .nil))) Z4U .nil) .nil
noncomputable def Z26:ISs:=.cons (.expr (.mt .append (.var 2) (.cons (.var 4) .nil))) Z25
noncomputable def Z27:ISs:=.cons (.expr (.call 1 (.var 4) (.cons (.var 2) .nil))) Z26
noncomputable def Z28:ISs:=.cons (.set 4 (.ix (.var 3) (.int 0))) Z27
noncomputable def Z29:ISs:=.cons (.for_ (.nm 3) (.seq (.var 1)) Z28) .nil
noncomputable def Z2a:ISs:=.cons (.set 2 (.lst .nil)) Z29
noncomputable abbrev Z18:ISs:=Z2a
noncomputable def Z2q:GI:={bl:=GB,gl:=GL,fns:=["fits","refuse_name"]}
theorem Z50:chkSs Z2q (Z00 Z0D) ["width","pairs","earlier","pair","name"] Z18 (Z07 Z0D)=true:=by decide+kernel
noncomputable def Z4i:ISs:=.cons (.expr (.call 0 (.var 3) (.cons (.var 1) .nil))) .nil
noncomputable def Z4j:ISs:=.cons (.for_ (.nm 3) (.seq (.call 2 (.var 0) .nil)) Z4i) .nil
noncomputable def Z7Z:ISs:=.cons .never .nil
noncomputable def Z4k:ISs:=.cons (.ite (.or (.cmp .Gt (.ix (.var 2) (.int 0)) (.glb "MOST_PARTS" 30)) (.cmp .Gt (.ix (.var 2) (.int 1)) (.glb "MOST_DEPTH" 8))) Z7Z .nil) Z4j
noncomputable def Z4l:ISs:=.cons (.set 2 (.call 1 (.var 0) .nil)) Z4k
noncomputable abbrev Z2t:ISs:=Z4l
noncomputable def Z5P:GI:={bl:=GB,gl:=GL,fns:=["refuse_unknown","size_of","vars_in"]}
theorem Z85:chkSs Z5P (Z00 Z1d) ["T","known","size","name"] Z2t (Z07 Z1d)=true:=by decide+kernel
noncomputable def Z4r:ISs:=.cons (.expr (.call 1 (.ix (.var 0) (.int 2)) (.cons (.var 1) .nil))) .nil
noncomputable def Z4s:ISs:=.cons (.expr (.call 1 (.ix (.var 0) (.int 1)) (.cons (.var 3) .nil))) Z4r
noncomputable def Z4p:ISs:=.cons (.expr (.call 0 (.ix (.var 0) (.int 2)) (.cons (.var 1) .nil))) .nil
noncomputable def Z4q:ISs:=.cons (.expr (.call 1 (.ix (.var 0) (.int 1)) (.cons (.var 3) .nil))) Z4p
noncomputable def Z4n:ISs:=.cons (.expr (.call 0 (.ix (.var 0) (.int 2)) (.cons (.var 1) .nil))) .nil
noncomputable def Z4o:ISs:=.cons (.expr (.call 1 (.ix (.var 0) (.int 1)) (.cons (.var 1) .nil))) Z4n
noncomputable def Z7i:ISs:=.cons .never .nil
noncomputable def Z3y:ISs:=.cons (.ite (.not (.chn .LtE .LtE (.int 0) (.ix (.var 0) (.int 2)) (.var 2))) Z7i .nil) .nil
noncomputable def Z4m:ISs:=.cons (.expr (.call 0 (.ix (.var 0) (.int 1)) (.cons (.var 1) .nil))) Z3y
noncomputable def Z2s:ISs:=.cons (.ite (.cmp .Eq (.ix (.var 0) (.int 0)) (.str "put")) Z4o Z4m) .nil
noncomputable def Z1w:ISs:=.cons (.ite (.cmp .Eq (.ix (.var 0) (.int 0)) (.str "give")) Z4q Z2s) .nil
noncomputable def Z4t:ISs:=.cons (.ite (.cmp .Eq (.ix (.var 0) (.int 0)) (.str "take")) Z4s Z1w) .nil
noncomputable abbrev Z2u:ISs:=Z4t
noncomputable def Z5Q:GI:={bl:=GB,gl:=GL,fns:=["refuse_term","refuse_unknown"]}
theorem Z86:chkSs Z5Q (Z00 Z1e) ["step","known","count","ferry_names"] Z2u (Z07 Z1e)=true:=by decide+kernel
noncomputable def Z3c:ISs:=.cons (.expr (.call 0 (.var 4) (.cons (.var 3) (.cons (.bi .len (.ix (.var 1) (.int 2)) .nil) (.cons (.var 2) .nil))))) .nil
noncomputable def Z3d:ISs:=.cons (.for_ (.nm 4) (.seq (.ix (.var 1) (.int 2))) Z3c) .nil
noncomputable def Z3e:ISs:=.cons (.set 3 (.comp ["pair"] [] (.seq (.ix (.var 1) (.int 1))) (.nm 0) .none (.ix (.var 0) (.int 0)))) Z3d
noncomputable def Z3f:ISs:=.cons (.expr (.call 1 (.var 0) (.cons (.ix (.var 1) (.int 1)) .nil))) Z3e
noncomputable def Z6M:ISs:=.cons .never .nil
noncomputable def Z3g:ISs:=.cons (.ite (.cmp .Gt (.bi .len (.ix (.var 1) (.int 2)) .nil) (.glb "MOST_STEPS" 12)) Z6M .nil) Z3f
noncomputable def Z6N:ISs:=.cons .never .nil
noncomputable def Z3h:ISs:=.cons (.ite (.cmp .Gt (.bi .len (.ix (.var 1) (.int 1)) .nil) (.glb "MOST_VARS" 6)) Z6N .nil) Z3g
noncomputable abbrev Z1M:ISs:=Z3h
noncomputable def Z44:GI:={bl:=GB,gl:=GL,fns:=["refuse_step","refuse_variables"]}
theorem Z6O:chkSs Z44 (Z00 Z0P) ["width","island","ferry_names","known","step"] Z1M (Z07 Z0P)=true:=by decide+kernel
noncomputable def Z2G:ISs:=.cons (.expr (.call 0 (.var 0) (.cons (.var 4) (.cons (.var 2) .nil)))) .nil
noncomputable def Z2H:ISs:=.cons (.expr (.mt .append (.var 3) (.cons (.ix (.var 4) (.int 0)) .nil))) Z2G
noncomputable def Z2I:ISs:=.cons (.expr (.call 1 (.ix (.var 4) (.int 0)) (.cons (.var 3) .nil))) Z2H
noncomputable def Z2J:ISs:=.cons (.for_ (.nm 4) (.seq (.var 1)) Z2I) .nil
noncomputable def Z2K:ISs:=.cons (.set 3 (.bi .list (.var 2) .nil)) Z2J
noncomputable abbrev Z1t:ISs:=Z2K
noncomputable def Z3k:GI:={bl:=GB,gl:=GL,fns:=["refuse_island","refuse_name"]}
theorem Z66:chkSs Z3k (Z00 Z0J) ["width","islands","ferry_names","earlier","island"] Z1t (Z07 Z0J)=true:=by decide+kernel
noncomputable def Z7j:ISs:=.cons .never .nil
noncomputable def Z3z:ISs:=.cons (.ite (.not (.chn .LtE .LtE (.int 1) (.ix (.var 0) (.int 4)) (.glb "MOST_STAGES" 3))) Z7j .nil) .nil
noncomputable def Z7k:ISs:=.cons .never .nil
noncomputable def Z3A:ISs:=.cons (.ite (.not (.chn .LtE .LtE (.int 0) (.ix (.var 0) (.int 3)) (.glb "MOST_K" 3))) Z7k .nil) Z3z
noncomputable def Z7l:ISs:=.cons .never .nil
noncomputable def Z3B:ISs:=.cons (.ite (.cmp .Eq (.ix (.var 0) (.int 1)) (.ix (.var 0) (.int 2))) Z7l .nil) Z3A
noncomputable def Z3C:ISs:=.cons (.expr (.call 0 (.ix (.var 0) (.int 2)) (.cons (.var 1) .nil))) Z3B
noncomputable def Z3D:ISs:=.cons (.expr (.call 0 (.ix (.var 0) (.int 1)) (.cons (.var 1) .nil))) Z3C
noncomputable abbrev Z2b:ISs:=Z3D
noncomputable def Z4I:GI:={bl:=GB,gl:=GL,fns:=["refuse_unknown"]}
theorem Z7A:chkSs Z4I (Z00 Z0X) ["ferry","island_names"] Z2b (Z07 Z0X)=true:=by decide+kernel
noncomputable def Z4S:ISs:=.cons .never .nil
noncomputable def Z0y:ISs:=.cons (.ite (.and (.cmp .Eq (.ix (.var 1) (.int 0)) (.str "give")) (.cmp .NotEq (.ix (.var 2) (.ix (.var 1) (.int 1))) (.var 0))) Z4S .nil) .nil
noncomputable def Z4T:ISs:=.cons .never .nil
noncomputable def Z24:ISs:=.cons (.ite (.and (.cmp .Eq (.ix (.var 1) (.int 0)) (.str "take")) (.cmp .NotEq (.ix (.var 3) (.ix (.var 1) (.int 1))) (.var 0))) Z4T .nil) Z0y
noncomputable abbrev Z17:ISs:=Z24
noncomputable def Z2p:GI:={bl:=GB,gl:=GL,fns:=[]}
theorem Z4Z:chkSs Z2p (Z00 Z0C) ["name","step","givers","takers"] Z17 (Z07 Z0C)=true:=by decide+kernel
noncomputable def Z1N:ISs:=.cons (.expr (.call 0 (.ix (.var 4) (.int 0)) (.cons (.var 5) (.cons (.var 2) (.cons (.var 3) .nil))))) .nil
noncomputable def Z1O:ISs:=.cons (.for_ (.nm 5) (.seq (.ix (.var 4) (.int 2))) Z1N) .nil
noncomputable def Z1P:ISs:=.cons (.for_ (.nm 4) (.seq (.var 0)) Z1O) .nil
noncomputable def Z1Q:ISs:=.cons (.set 3 (.bi .dictL (.comp ["ferry"] [] (.seq (.var 1)) (.nm 0) .none (.tup (.cons (.ix (.var 0) (.int 0)) (.cons (.ix (.var 0) (.int 2)) .nil)))) .nil)) Z1P
noncomputable def Z1R:ISs:=.cons (.set 2 (.bi .dictL (.comp ["ferry"] [] (.seq (.var 1)) (.nm 0) .none (.tup (.cons (.ix (.var 0) (.int 0)) (.cons (.ix (.var 0) (.int 1)) .nil)))) .nil)) Z1Q
noncomputable abbrev Z0V:ISs:=Z1R
noncomputable def Z2i:GI:={bl:=GB,gl:=GL,fns:=["refuse_wrong_end"]}
theorem Z4e:chkSs Z2i (Z00 Z0x) ["islands","ferries","givers","takers","island","step"] Z0V (Z07 Z0x)=true:=by decide+kernel
noncomputable def Z2M:ISs:=.cons (.ret (.var 0)) .nil
noncomputable def Z7s:ISs:=.cons (.ret (.bi .tuple (.comp ["part"] [] (.seq (.var 0)) (.nm 0) .none (.call 0 (.var 0) .nil)) .nil)) .nil
noncomputable def Z7t:ISs:=.cons (.ite (.bi .isinst (.var 0) (.cons (.tup (.cons (.ty .list) (.cons (.ty .tuple) .nil))) .nil)) Z7s .nil) Z2M
noncomputable abbrev Z2L:ISs:=Z7t
noncomputable def Z9e:GI:={bl:=GB,gl:=GL,fns:=["frozen"]}
theorem Z9X:chkSs Z9e (Z00 Z57) ["value"] Z2L (Z07 Z57)=true:=by decide+kernel
noncomputable def Zbn:ISs:=.cons (.ret (.call 0 (.tup (.cons (.var 0) (.cons (.var 1) (.cons (.var 2) .nil)))) .nil)) .nil
noncomputable def Zbo:ISs:=.cons (.expr (.call 5 (.var 1) (.cons (.var 2) .nil))) Zbn
noncomputable def Zbp:ISs:=.cons (.expr (.call 2 (.var 4) (.cons (.var 3) .nil))) .nil
noncomputable def Zdw:ISs:=.cons (.for_ (.nm 4) (.seq (.var 2)) Zbp) Zbo
noncomputable def Zdx:ISs:=.cons (.set 3 (.comp ["island"] [] (.seq (.var 1)) (.nm 0) .none (.ix (.var 0) (.int 0)))) Zdw
noncomputable def Zdy:ISs:=.cons (.expr (.call 4 (.var 0) (.cons (.var 1) (.cons (.comp ["ferry"] [] (.seq (.var 2)) (.nm 0) .none (.ix (.var 0) (.int 0))) .nil)))) Zdx
noncomputable def Zdz:ISs:=.cons (.expr (.call 3 (.var 2) .nil)) Zdy
noncomputable def ZhE:ISs:=.cons .never .nil
noncomputable def ZdA:ISs:=.cons (.ite (.cmp .Gt (.bi .len (.var 2) .nil) (.glb "MOST_FERRIES" 6)) ZhE .nil) Zdz
noncomputable def ZhF:ISs:=.cons .never .nil
noncomputable def ZdB:ISs:=.cons (.ite (.cmp .Gt (.bi .len (.var 1) .nil) (.glb "MOST_ISLANDS" 5)) ZhF .nil) ZdA
noncomputable def ZhG:ISs:=.cons .never .nil
noncomputable def ZdC:ISs:=.cons (.ite (.not (.call 1 (.var 0) .nil)) ZhG .nil) ZdB
noncomputable abbrev ZaJ:ISs:=ZdC
noncomputable def Zgl:GI:={bl:=GB,gl:=GL,fns:=["frozen","is_width","refuse_ferry","refuse_ferry_names","refuse_islands","refuse_wrong_ends"]}
theorem ZhQ:chkSs Zgl (Z00 Z9r) ["width","islands","ferries","island_names","ferry"] ZaJ (Z07 Z9r)=true:=by decide+kernel
noncomputable def Z5e:IXs:=.cons (.rf "Unknown" 1) .nil
noncomputable def Z5f:ISs:=.cons (.ret (.var 2)) .nil
noncomputable def Z5g:ISs:=.cons (.ite (.cmp .Eq (.ix (.var 2) (.int 0)) (.var 1)) Z5f .nil) .nil
noncomputable def Z5h:IXs:=.cons (.pl (.for_ (.nm 2) (.seq (.var 0)) Z5g)) Z5e
noncomputable abbrev Z2V:IXs:=Z5h
noncomputable def Z6E:GI:={bl:=GB,gl:=GL,fns:=[]}
noncomputable def Z6D:GX:={g:=Z6E,xf:=[],xc:=XC}
theorem Z95:chkXs Z6D (Z00 Z1z) ["row","name","one"] Z2V (Z07 Z1z)=true:=by decide+kernel
noncomputable def Z6h:IXs:=.cons (.rt 0 (.ix (.var 0) (.int 1)) (.cons (.var 1) .nil)) .nil
noncomputable abbrev Z3E:IXs:=Z6h
noncomputable def Z7H:GI:={bl:=GB,gl:=GL,fns:=[]}
noncomputable def Z7F:GX:={g:=Z7H,xf:=["one_called"],xc:=XC}
theorem Z9W:chkXs Z7F (Z00 Z1W) ["world","name"] Z3E (Z07 Z1W)=true:=by decide+kernel
noncomputable def Z7u:IXs:=.cons (.rt 0 (.ix (.var 0) (.int 2)) (.cons (.var 1) .nil)) .nil
noncomputable abbrev Z4X:IXs:=Z7u
noncomputable def Z8B:GI:={bl:=GB,gl:=GL,fns:=[]}
noncomputable def Z8y:GX:={g:=Z8B,xf:=["one_called"],xc:=XC}
theorem ZaZ:chkXs Z8y (Z00 Z2A) ["world","name"] Z4X (Z07 Z2A)=true:=by decide+kernel
noncomputable def Z5n:ISs:=.cons (.ret (.comp ["ferry"] [1] (.seq (.ix (.var 0) (.int 2))) (.nm 0) (.some (.cmp .In (.var 1) (.tup (.cons (.ix (.var 0) (.int 1)) (.cons (.ix (.var 0) (.int 2)) .nil))))) (.ix (.var 0) (.int 0)))) .nil
noncomputable def Z5o:ISs:=.cons (.expr (.call 0 (.var 1) (.cons (.comp ["island"] [] (.seq (.ix (.var 0) (.int 1))) (.nm 0) .none (.ix (.var 0) (.int 0))) .nil))) Z5n
noncomputable abbrev Z2X:ISs:=Z5o
noncomputable def Z6G:GI:={bl:=GB,gl:=GL,fns:=["refuse_unknown"]}
theorem Z97:chkSs Z6G (Z00 Z1B) ["world","name"] Z2X (Z07 Z1B)=true:=by decide+kernel
noncomputable def Z6z:ISs:=.cons (.ret (.bin .Mod (.bin .Mult (.bin .Mult (.var 1) (.var 1)) (.int 7919)) (.int 1000003))) .nil
noncomputable def Z6A:ISs:=.cons (.ret (.bin .Mod (.ix (.var 0) (.var 1)) (.int 1000000007))) .nil
noncomputable def Z6B:ISs:=.cons (.ite (.cmp .Lt (.var 1) (.bi .len (.var 0) .nil)) Z6A .nil) Z6z
noncomputable abbrev Z3I:ISs:=Z6B
noncomputable def Z7L:GI:={bl:=GB,gl:=GL,fns:=[]}
theorem Za1:chkSs Z7L (Z00 Z20) ["script","k"] Z3I (Z07 Z20)=true:=by decide+kernel
noncomputable def Z7v:ISs:=.cons (.ret (.bin .Mod (.bin .Mult (.var 2) (.var 2)) (.int 2147483629))) .nil
noncomputable def Z7w:ISs:=.cons (.set 2 (.bin .Mod (.bin .Add (.bin .Add (.bin .Mult (.var 0) (.int 69621)) (.bin .Mult (.var 1) (.int 16807))) (.int 1013)) (.int 2147483647))) Z7v
noncomputable abbrev Z4Y:ISs:=Z7w
noncomputable def Z8C:GI:={bl:=GB,gl:=GL,fns:=[]}
theorem Zb0:chkSs Z8C (Z00 Z2B) ["number","salt","mixed"] Z4Y (Z07 Z2B)=true:=by decide+kernel
noncomputable def Z4D:ISs:=.cons (.ret (.var 8)) .nil
noncomputable def Z4F:ISs:=.cons (.expr (.mt .append (.var 8) (.cons (.bin .Add (.bin .Add (.sl (.var 7) .none (.some (.var 6))) (.var 10)) (.sl (.var 7) (.some (.bin .Add (.var 6) (.int 1))) .none)) .nil))) .nil
noncomputable def Z4E:ISs:=.cons (.expr (.mt .append (.var 8) (.cons (.bin .Add (.bin .Mult (.ix (.var 2) (.var 3)) (.bin .Mod (.var 9) (.int 4))) (.var 10)) .nil))) .nil
noncomputable def Z5B:ISs:=.cons (.ite (.cmp .Eq (.bin .Mod (.bin .FloorDiv (.var 0) (.int 13312)) (.int 2)) (.int 0)) Z4F Z4E) .nil
noncomputable def Z5C:ISs:=.cons (.set 10 (.ix (.var 2) (.bin .Mod (.bin .Add (.var 3) (.bin .Mult (.var 9) (.var 4))) (.int 26)))) Z5B
noncomputable def Z5D:ISs:=.cons (.for_ (.nm 9) (.rng (.var 1)) Z5C) Z4D
noncomputable def Z5E:ISs:=.cons (.set 8 (.lst .nil)) Z5D
noncomputable def Z5F:ISs:=.cons (.set 7 (.mt .join (.str "") (.cons (.comp ["k"] [2,0] (.rng (.var 5)) (.nm 0) .none (.ix (.var 1) (.bin .Mod (.call 0 (.var 2) (.cons (.bin .Add (.int 20) (.var 0)) .nil)) (.int 26)))) .nil))) Z5E
noncomputable def Z5G:ISs:=.cons (.set 6 (.bin .Mod (.bin .FloorDiv (.var 0) (.int 1664)) (.var 5))) Z5F
noncomputable def Z5H:ISs:=.cons (.set 5 (.bin .Add (.int 1) (.bin .Mod (.bin .FloorDiv (.var 0) (.int 208)) (.int 8)))) Z5G
noncomputable def Z5I:ISs:=.cons (.set 4 (.ix (.lst (.cons (.int 1) (.cons (.int 3) (.cons (.int 5) (.cons (.int 7) (.cons (.int 9) (.cons (.int 11) (.cons (.int 15) (.cons (.int 17) .nil))))))))) (.bin .Mod (.bin .FloorDiv (.var 0) (.int 26)) (.int 8)))) Z5H
noncomputable def Z5J:ISs:=.cons (.set 3 (.bin .Mod (.var 0) (.int 26))) Z5I
noncomputable def Z5K:ISs:=.cons (.set 2 (.str "abcdefghijklmnopqrstuvwxyz")) Z5J
noncomputable abbrev Z2Z:ISs:=Z5K
noncomputable def Z6I:GI:={bl:=GB,gl:=GL,fns:=["_law_mix"]}
theorem Z99:chkSs Z6I (Z00 Z1D) ["number","many","letters","first","step","size","at","stem","names","k","sign"] Z2Z (Z07 Z1D)=true:=by decide+kernel
noncomputable def Z6i:ISs:=.cons (.ret (.bin .Mod (.ix (.lst (.cons (.var 2) (.cons (.var 2) (.cons (.int 0) (.cons (.bin .Sub (.bin .LShift (.int 1) (.var 1)) (.int 1)) .nil))))) (.bin .Mod (.bin .FloorDiv (.var 0) (.int 8)) (.int 4))) (.bin .LShift (.int 1) (.var 1)))) .nil
noncomputable def Z6j:ISs:=.cons (.set 2 (.bin .Add (.bin .Mult (.bin .Add (.bin .Mult (.call 0 (.var 0) (.cons (.int 7) .nil)) (.int 2147483629)) (.call 0 (.var 0) (.cons (.int 8) .nil))) (.int 8)) (.bin .Mod (.var 0) (.int 8)))) Z6i
noncomputable abbrev Z3F:ISs:=Z6j
noncomputable def Z7I:GI:={bl:=GB,gl:=GL,fns:=["_law_mix"]}
theorem Z9Y:chkSs Z7I (Z00 Z1X) ["number","width","far"] Z3F (Z07 Z1X)=true:=by decide+kernel
noncomputable def Z5z:ISs:=.cons (.ret (.tup (.cons (.ix (.lst (.cons (.str "plus") (.cons (.str "minus") (.cons (.str "times") (.cons (.str "less") (.cons (.str "same") (.cons (.str "minus") .nil))))))) (.bin .Sub (.var 3) (.int 2))) (.cons (.var 6) (.cons (.var 7) .nil))))) .nil
noncomputable def Z5A:ISs:=.cons (.ret (.tup (.cons (.str "pick") (.cons (.call 1 (.call 0 (.var 0) (.cons (.int 4) .nil)) (.cons (.var 1) (.cons (.bin .Sub (.var 2) (.int 1)) .nil))) (.cons (.var 6) (.cons (.var 7) .nil)))))) .nil
noncomputable def Z6k:ISs:=.cons (.ite (.cmp .Eq (.var 3) (.int 8)) Z5A .nil) Z5z
noncomputable def Z6l:ISs:=.cons (.set 7 (.call 1 (.call 0 (.var 0) (.cons (.int 3) .nil)) (.cons (.var 1) (.cons (.bin .Sub (.var 2) (.int 1)) .nil)))) Z6k
noncomputable def Z6m:ISs:=.cons (.set 6 (.call 1 (.call 0 (.var 0) (.cons (.int 2) .nil)) (.cons (.var 1) (.cons (.bin .Sub (.var 2) (.int 1)) .nil)))) Z6l
noncomputable def Z6n:ISs:=.cons (.ret (.tup (.cons (.str "num") (.cons (.ix (.lst (.cons (.bin .Sub (.bin .Mod (.bin .FloorDiv (.var 4) (.int 8)) (.int 9)) (.int 4)) (.cons (.var 5) (.cons (.bin .Sub (.int 0) (.var 5)) (.cons (.bin .Mod (.bin .FloorDiv (.var 4) (.int 8)) (.int 2)) .nil))))) (.bin .Mod (.bin .FloorDiv (.var 4) (.int 128)) (.int 4))) .nil)))) .nil
noncomputable def Z3K:ISs:=.cons (.set 5 (.call 2 (.var 4) (.cons (.int 64) .nil))) Z6n
noncomputable def Z6o:ISs:=.cons (.ret (.tup (.cons (.str "var") (.cons (.ix (.var 1) (.bin .Mod (.bin .FloorDiv (.var 4) (.int 3)) (.bi .len (.var 1) .nil))) .nil)))) .nil
noncomputable def Z3L:ISs:=.cons (.ite (.and (.cmp .NotEq (.var 1) (.lst .nil)) (.cmp .Gt (.bin .Mod (.var 4) (.int 3)) (.int 0))) Z6o .nil) Z3K
noncomputable def Z6p:ISs:=.cons (.ite (.or (.cmp .Eq (.var 2) (.int 0)) (.cmp .Lt (.var 3) (.int 2))) Z3L .nil) Z6m
noncomputable def Z6q:ISs:=.cons (.set 4 (.call 0 (.var 0) (.cons (.int 1) .nil))) Z6p
noncomputable def Z6r:ISs:=.cons (.set 3 (.bin .Mod (.var 0) (.int 9))) Z6q
noncomputable abbrev Z3G:ISs:=Z6r
noncomputable def Z7J:GI:={bl:=GB,gl:=GL,fns:=["_law_mix","_law_term","_law_word"]}
theorem Z9Z:chkSs Z7J (Z00 Z1Y) ["number","own","deep","way","more","far","one","two"] Z3G (Z07 Z1Y)=true:=by decide+kernel
noncomputable def Z31:ISs:=.cons (.ret (.tup (.cons (.str "put") (.cons (.ix (.var 3) (.bin .Mod (.bin .FloorDiv (.var 8) (.int 8)) (.bi .len (.var 3) .nil))) (.cons (.var 9) .nil))))) .nil
noncomputable def Z32:ISs:=.cons (.ret (.tup (.cons (.str "jump") (.cons (.var 9) (.cons (.bin .Mod (.bin .FloorDiv (.var 8) (.int 512)) (.bin .Add (.var 4) (.int 1))) .nil))))) .nil
noncomputable def Z3M:ISs:=.cons (.ite (.or (.cmp .Eq (.var 7) (.int 7)) (.cmp .Eq (.var 3) (.lst .nil))) Z32 .nil) Z31
noncomputable def Z6s:ISs:=.cons (.ret (.tup (.cons (.str "give") (.cons (.ix (.var 6) (.bin .Mod (.var 8) (.bi .len (.var 6) .nil))) (.cons (.var 9) .nil))))) .nil
noncomputable def Z3N:ISs:=.cons (.ite (.and (.cmp .Lt (.var 7) (.int 6)) (.cmp .NotEq (.var 6) (.lst .nil))) Z6s .nil) Z3M
noncomputable def Z3O:ISs:=.cons (.set 9 (.call 1 (.call 0 (.var 0) (.cons (.int 6) .nil)) (.cons (.var 3) (.cons (.bin .Mod (.bin .FloorDiv (.var 8) (.int 64)) (.int 3)) .nil)))) Z3N
noncomputable def Z6t:ISs:=.cons (.ret (.tup (.cons (.str "take") (.cons (.ix (.var 5) (.bin .Mod (.var 8) (.bi .len (.var 5) .nil))) (.cons (.ix (.var 3) (.bin .Mod (.bin .FloorDiv (.var 8) (.int 8)) (.bi .len (.var 3) .nil))) .nil))))) .nil
noncomputable def Z6u:ISs:=.cons (.ite (.and (.cmp .Lt (.var 7) (.int 3)) (.and (.cmp .NotEq (.var 5) (.lst .nil)) (.cmp .NotEq (.var 3) (.lst .nil)))) Z6t .nil) Z3O
noncomputable def Z6v:ISs:=.cons (.set 8 (.call 0 (.var 0) (.cons (.int 5) .nil))) Z6u
noncomputable def Z6w:ISs:=.cons (.set 7 (.bin .Mod (.var 0) (.int 8))) Z6v
noncomputable def Z6x:ISs:=.cons (.set 6 (.comp ["ferry"] [1] (.seq (.var 2)) (.nm 0) (.some (.cmp .Eq (.ix (.var 0) (.int 1)) (.var 1))) (.ix (.var 0) (.int 0)))) Z6w
noncomputable def Z6y:ISs:=.cons (.set 5 (.comp ["ferry"] [1] (.seq (.var 2)) (.nm 0) (.some (.cmp .Eq (.ix (.var 0) (.int 2)) (.var 1))) (.ix (.var 0) (.int 0)))) Z6x
noncomputable abbrev Z3H:ISs:=Z6y
noncomputable def Z7K:GI:={bl:=GB,gl:=GL,fns:=["_law_mix","_law_term"]}
theorem Za0:chkSs Z7K (Z00 Z1Z) ["number","name","ferries","own","many","takes","gives","way","more","term"] Z3H (Z07 Z1Z)=true:=by decide+kernel
noncomputable def Z2h:ISs:=.cons (.ret (.var 3)) .nil
noncomputable def Z3P:ISs:=.cons (.expr (.mt .append (.var 3) (.cons (.bin .Add (.var 8) (.tup (.cons (.bin .Mod (.bin .FloorDiv (.var 5) (.int 64)) (.int 4)) (.cons (.bin .Add (.int 1) (.bin .Mod (.bin .FloorDiv (.var 5) (.int 256)) (.int 3))) .nil)))) .nil))) .nil
noncomputable def Z3Q:ISs:=.cons (.set 8 (.tup (.cons (.ix (.var 1) (.bin .Add (.int 5) (.var 4))) (.cons (.ix (.var 1) (.var 6)) (.cons (.ix (.var 1) (.var 7)) .nil))))) Z3P
noncomputable def Z3R:ISs:=.cons (.set 7 (.bin .Mod (.bin .Add (.bin .Add (.var 6) (.int 1)) (.bin .Mod (.bin .FloorDiv (.var 5) (.int 8)) (.bin .Sub (.var 2) (.int 1)))) (.var 2))) Z3Q
noncomputable def Z3S:ISs:=.cons (.set 6 (.bin .Mod (.var 5) (.var 2))) Z3R
noncomputable def Z3T:ISs:=.cons (.set 5 (.call 0 (.var 0) (.cons (.bin .Add (.int 10) (.var 4)) .nil))) Z3S
noncomputable def Z3U:ISs:=.cons (.for_ (.nm 4) (.rng (.bin .Mod (.bin .FloorDiv (.var 0) (.int 8)) (.int 7))) Z3T) .nil
noncomputable def Z3V:ISs:=.cons (.ite (.cmp .Gt (.var 2) (.int 1)) Z3U .nil) Z2h
noncomputable def Z3W:ISs:=.cons (.set 3 (.lst .nil)) Z3V
noncomputable abbrev Z2e:ISs:=Z3W
noncomputable def Z4L:GI:={bl:=GB,gl:=GL,fns:=["_law_mix"]}
theorem Z7D:chkSs Z4L (Z00 Z10) ["number","names","many","ferries","j","more","giver","taker","ends"] Z2e (Z07 Z10)=true:=by decide+kernel
noncomputable def Z4w:ISs:=.cons (.ret (.tup (.cons (.var 6) (.cons (.var 8) (.cons (.var 7) .nil))))) .nil
noncomputable def Z4x:ISs:=.cons (.expr (.mt .append (.var 8) (.cons (.tup (.cons (.ix (.var 4) (.var 9)) (.cons (.var 15) (.cons (.var 16) .nil)))) .nil))) .nil
noncomputable def Z4y:ISs:=.cons (.set 16 (.comp ["cell"] [7,12,14,4,9] (.seq (.sl (.var 13) .none (.some (.int 12)))) (.nm 0) .none (.call 4 (.call 2 (.var 0) (.cons (.int 4) .nil)) (.cons (.ix (.var 4) (.var 5)) (.cons (.var 1) (.cons (.var 2) (.cons (.var 3) .nil))))))) Z4x
noncomputable def Z4z:ISs:=.cons (.set 15 (.comp ["j"] [12,6,10] (.rng (.bi .len (.var 12) .nil)) (.nm 0) .none (.tup (.cons (.ix (.var 1) (.var 0)) (.cons (.call 5 (.call 2 (.var 3) (.cons (.var 0) .nil)) (.cons (.var 2) .nil)) .nil))))) Z4y
noncomputable def Z4A:ISs:=.cons (.set 14 (.bi .min (.bi .len (.var 13) .nil) (.cons (.int 12) .nil))) Z4z
noncomputable def Z4B:ISs:=.cons (.set 13 (.comp ["k"] [0,9,3,1] (.rng2 (.var 1) (.bi .len (.var 0) .nil)) (.nm 0) (.some (.cmp .Eq (.bin .Mod (.bin .Sub (.var 0) (.var 4)) (.var 3)) (.var 2))) (.bin .Mod (.ix (.var 1) (.var 0)) (.int 1000000007)))) Z4A
noncomputable def Z4C:ISs:=.cons (.set 12 (.sl (.var 4) (.some (.var 11)) (.some (.bin .Add (.var 11) (.bin .Mod (.var 10) (.int 7)))))) Z4B
noncomputable def Z5p:ISs:=.cons (.set 11 (.ix (.lst (.cons (.int 11) (.cons (.int 11) (.cons (.int 5) (.cons (.int 0) .nil))))) (.bin .Mod (.bin .FloorDiv (.var 10) (.int 7)) (.int 4)))) Z4C
noncomputable def Z5q:ISs:=.cons (.set 10 (.call 2 (.var 5) (.cons (.bin .Add (.int 20) (.var 9)) .nil))) Z5p
noncomputable def Z5r:ISs:=.cons (.for_ (.nm 9) (.rng (.var 3)) Z5q) Z4w
noncomputable def Z5s:ISs:=.cons (.set 8 (.lst .nil)) Z5r
noncomputable def Z5t:ISs:=.cons (.set 7 (.call 1 (.var 2) (.cons (.var 4) (.cons (.var 3) .nil)))) Z5s
noncomputable def Z5u:ISs:=.cons (.set 6 (.ix (.lst (.cons (.bin .Add (.int 1) (.bin .Mod (.bin .FloorDiv (.var 5) (.int 4)) (.int 64))) (.cons (.int 64) (.cons (.bin .Add (.int 1) (.bin .Mod (.bin .FloorDiv (.var 5) (.int 4)) (.int 5))) (.cons (.int 8) .nil))))) (.bin .Mod (.var 5) (.int 4)))) Z5t
noncomputable def Z5v:ISs:=.cons (.set 5 (.call 2 (.call 0 (.var 0) (.cons (.int 2) .nil)) (.cons (.int 3) .nil))) Z5u
noncomputable def Z5w:ISs:=.cons (.set 4 (.call 3 (.call 2 (.call 0 (.var 0) (.cons (.int 1) .nil)) (.cons (.int 2) .nil)) (.cons (.int 17) .nil))) Z5v
noncomputable def Z5x:ISs:=.cons (.set 3 (.ix (.lst (.cons (.int 2) (.cons (.int 3) (.cons (.int 4) (.cons (.int 5) (.cons (.int 2) (.cons (.int 3) (.cons (.int 1) (.cons (.int 0) .nil))))))))) (.bin .Mod (.var 2) (.int 8)))) Z5w
noncomputable def Z5y:ISs:=.cons (.set 2 (.call 2 (.call 0 (.var 0) (.cons (.int 0) .nil)) (.cons (.int 1) .nil))) Z5x
noncomputable abbrev Z2Y:ISs:=Z5y
noncomputable def Z6H:GI:={bl:=GB,gl:=GL,fns:=["_law_cell","_law_ferries","_law_mix","_law_names","_law_step","_law_word"]}
theorem Z98:chkSs Z6H (Z00 Z1C) ["script","start","head","many","names","size","width","ferries","islands","i","more","first","own","cells","long","pairs","steps"] Z2Y (Z07 Z1C)=true:=by decide+kernel
noncomputable abbrev Z2d:List IT:=[.pl (.set 3 (.bl false)),.tb ⟨none,1,(.var 0),(.cons (.var 2) .nil),(some "Unknown"),none,3,.tt⟩,.pl (.set 4 (.bl false)),.tb ⟨none,0,(.var 0),(.cons (.var 1) .nil),none,(some 5),4,(.an (.isi "Unknown") (.an (.isi "ValueError") (.nt (.is2 "Twice" "NoName"))))⟩,.pl (.ret (.and (.var 3) (.var 4)))]
noncomputable def Z4K:GI:={bl:=GB,gl:=GL,fns:=[]}
noncomputable def Z4H:GX:={g:=Z4K,xf:=["ferry_of","island_of"],xc:=XC}
theorem Z7C:Zfl Z4H XB (Z00 Z0Z) ["world","island","ferry","plainly","fine","e"] Z2d (Z07 Z0Z)=true:=by decide+kernel
noncomputable def ZdD:ISs:=.cons (.ret (.call 0 (.var 6) (.cons (.ix (.ix (.var 4) (.int 0)) (.int 0)) (.cons (.ix (.ix (.var 7) (.int 0)) (.int 0)) .nil)))) .nil
noncomputable def ZaN:ISs:=.cons (.ret (.bl true)) .nil
noncomputable def ZdE:ISs:=.cons (.ite (.or (.cmp .Eq (.var 4) (.lst .nil)) (.cmp .Eq (.var 7) (.lst .nil))) ZaN .nil) ZdD
noncomputable def ZhH:ISs:=.cons (.ret (.bl false)) .nil
noncomputable def ZdF:ISs:=.cons (.ite (.cmp .NotEq (.call 3 (.var 6) (.cons (.ix (.var 14) (.int 0)) .nil)) (.var 14)) ZhH .nil) .nil
noncomputable def ZaO:ISs:=.cons (.for_ (.nm 14) (.seq (.var 7)) ZdF) ZdE
noncomputable def ZhI:ISs:=.cons (.ret (.bl false)) .nil
noncomputable def ZdG:ISs:=.cons (.ite (.or (.cmp .NotEq (.call 4 (.var 6) (.cons (.ix (.var 11) (.int 0)) .nil)) (.var 11)) (.or (.not (.bi .isinst (.var 13) (.cons (.ty .list) .nil))) (.cmp .NotEq (.var 13) (.var 12)))) ZhI .nil) .nil
noncomputable def ZdH:ISs:=.cons (.set 13 (.call 2 (.var 6) (.cons (.ix (.var 11) (.int 0)) .nil))) ZdG
noncomputable def ZdI:ISs:=.cons (.set 12 (.comp ["ferry"] [11] (.seq (.var 7)) (.nm 0) (.some (.or (.cmp .Eq (.ix (.var 0) (.int 1)) (.ix (.var 1) (.int 0))) (.cmp .Eq (.ix (.var 0) (.int 2)) (.ix (.var 1) (.int 0))))) (.ix (.var 0) (.int 0)))) ZdH
noncomputable def ZdJ:ISs:=.cons (.for_ (.nm 11) (.seq (.var 4)) ZdI) ZaO
noncomputable def ZhJ:ISs:=.cons (.ret (.bl false)) .nil
noncomputable def ZaP:ISs:=.cons (.ite (.or (.not (.bi .isinst (.var 6) (.cons (.ty .tuple) .nil))) (.or (.bi .isinst (.ix (.var 6) (.int 0)) (.cons (.ty .bool) .nil)) (.cmp .NotEq (.var 6) (.tup (.cons (.var 1) (.cons (.bi .tuple (.var 4) .nil) (.cons (.bi .tuple (.var 7) .nil) .nil))))))) ZhJ .nil) ZdJ
noncomputable def ZaQ:ISs:=.cons (.expr (.mt .clear (.ix (.var 5) (.int 1)) .nil)) ZaP
noncomputable def ZdK:ISs:=.cons (.expr (.mt .clear (.ix (.var 5) (.int 0)) .nil)) ZaQ
noncomputable def Zg5:ISs:=.cons (.expr (.mt .append (.var 10) (.cons (.tup (.cons (.str "jump") (.cons (.tup (.cons (.str "num") (.cons (.int 0) .nil))) (.cons (.int 0) .nil)))) .nil))) .nil
noncomputable def Zg6:ISs:=.cons (.expr (.mt .append (.var 9) (.cons (.tup (.cons (.str "zz") (.cons (.int 0) .nil))) .nil))) Zg5
noncomputable def Zg7:ISs:=.cons (.for_ (.tup (.cons (.nm 8) (.cons (.nm 9) (.cons (.nm 10) .nil)))) (.seq (.var 2)) Zg6) ZdK
noncomputable def Zg8:ISs:=.cons (.set 7 (.bi .list (.var 3) .nil)) Zg7
noncomputable def ZjV:ISs:=.cons (.ret (.bl false)) .nil
noncomputable def Zg9:ISs:=.cons (.ite (.cmp .NotEq (.var 5) (.lst (.cons (.var 2) (.cons (.var 3) .nil)))) ZjV .nil) Zg8
noncomputable def Zga:ISs:=.cons (.set 6 (.call 5 (.var 1) (.cons (.ix (.var 5) (.int 0)) (.cons (.ix (.var 5) (.int 1)) .nil)))) Zg9
noncomputable def Zgb:ISs:=.cons (.set 5 (.lst (.cons (.bi .list (.var 2) .nil) (.cons (.bi .list (.var 3) .nil) .nil)))) Zga
noncomputable def Zgc:ISs:=.cons (.set 4 (.comp ["name","pairs","steps"] [] (.seq (.var 2)) (.tup (.cons (.nm 0) (.cons (.nm 1) (.cons (.nm 2) .nil)))) .none (.tup (.cons (.var 0) (.cons (.bi .tuple (.var 1) .nil) (.cons (.bi .tuple (.var 2) .nil) .nil)))))) Zgb
noncomputable def Zgd:ISs:=.cons (.asg (.cons (.nm 1) (.cons (.nm 2) (.cons (.nm 3) .nil))) (.call 1 (.var 0) (.cons (.int 3) .nil))) Zgc
noncomputable abbrev Zdq:ISs:=Zgd
noncomputable def Zkc:GI:={bl:=GB,gl:=GL,fns:=["_law_refused","_law_world","ferries_at","ferry_of","island_of","made"]}
theorem Zk7:chkSs Zkc (Z00 ZcN) ["script","width","islands","ferries","due","handed","world","ends","name","pairs","steps","island","own","found","ferry"] Zdq (Z07 ZcN)=true:=by decide+kernel
theorem szl:sizeLine=16777216:=by decide
theorem na10:Int.natAbs 10=10:=rfl
theorem na1:Int.natAbs 1=1:=rfl
theorem na2:Int.natAbs 2=2:=rfl
theorem at0{α:Type}{x:α}{xs:List α}:atI (x::xs) 0=some x:=by unfold atI ixN;simp
theorem at1{α:Type}{x y:α}{xs:List α}:atI (x::y::xs) 1=some y:=Z0c (j:=1) (by rfl)
theorem at2{α:Type}{x y z:α}{xs:List α}:atI (x::y::z::xs) 2=some z:=Z0c (j:=2) (by rfl)
theorem at3{α:Type}{x y z u:α}{xs:List α}:atI (x::y::z::u::xs) 3=some u:=Z0c (j:=3) (by rfl)
theorem at4{α:Type}{x y z u v:α}{xs:List α}:atI (x::y::z::u::v::xs) 4=some v:=Z0c (j:=4) (by rfl)
theorem Zim{a b:String}:(Y0w a=Y0w b)↔a=b:=by
 constructor
 ·intro h
  rw[Str.ofString_eq_toList,Str.ofString_eq_toList]at h
  have h1:a.toList.map Y3N=b.toList.map Y3N:=by
   have:=congrArg (λs:Str=>s.cps.toList) h
   simpa using this
  have inj:∀(xs ys:List Char),xs.map Y3N=ys.map Y3N->xs=ys:=by
   intro xs
   induction xs with
   |nil=>
    intro ys e
    cases ys with
    |nil=>rfl
    |cons _ _=>cases e
   |cons x r ih=>
    intro ys e
    cases ys with
    |nil=>cases e
    |cons y s=>
     rw[Y0b,Y0b]at e
     injection e with e1 e2
     rw[ih s e2,Char.toNat_inj.mp e1]
  exact String.toList_inj.mp (inj _ _ h1)
 ·intro h;rw[h]
theorem Z2j{c A B:Prop} [Decidable c] (h1:c->A)(h2:¬c->B):if c then A else B:=by
 split
 ·exact h1 ‹_›
 ·exact h2 ‹_›
theorem isN0:Z7Y .non=true:=rfl
theorem isN1{b:Bool}:Z7Y (.bl b)=false:=rfl
theorem isN2{b:Int}:Z7Y (.int b)=false:=rfl
theorem isN3{b:Str}:Z7Y (.str b)=false:=rfl
theorem isN4{b:List MV}:Z7Y (.tup b)=false:=rfl
theorem isN5{b:Addr}:Z7Y (.ref b)=false:=rfl
theorem isN6{b:List MV}:Z7Y (.frl b)=false:=rfl
theorem isB0{c:Bool}:isBl c .non=false:=rfl
theorem isB1{b c:Bool}:isBl c (.bl b)=decide (b=c):=rfl
theorem isB2{c:Bool}{b:Int}:isBl c (.int b)=false:=rfl
theorem isB3{c:Bool}{b:Str}:isBl c (.str b)=false:=rfl
theorem isB4{c:Bool}{b:List MV}:isBl c (.tup b)=false:=rfl
theorem isB5{c:Bool}{b:Addr}:isBl c (.ref b)=false:=rfl
local macro_rules | `(tactic| walk_at "s") => `(tactic| simp only [seval, Zke, Zic, x_pl, x_rs, x_rf, x_cl, x_st, x_rt, Zcq, Zkg, Zkh, Zii, t_pl, t_tr, t_tb, go0, go1, SE.val, Zfe, sto0, sto1, Zkd, List.map_cons, List.map_nil, szl, na10, na1, na2, Nat.zero_add, Nat.reduceAdd, Nat.zero_le, at0, at1, at2, at3, at4, Zim, Z02, Zkr, Ziu, Zis, Zkv, Zku, Zgy, Zkq, Zir, Zkp, Zkw, Zit, Zks, Zkt, v_s, b_0, f_s, ZlQ, ZlV, ZlS, e_bl, ZlW, e_ty, ZlZ, ZlT, ZlX, ZlY, Zm0, e_or, ZlR, ZlU, e_ix, e_sl, Zk3, e_bi, e_b2, e_mt, Zjd, ZgM, Zk2, ZhN, Zju, Zjt, ZjX, ZjW, ZkP, ZkM, ZkO, ZkN, isN0, isN1, isN2, isN3, isN4, isN5, isN6, isTy, Zlu, ZkQ, Zlf, Zj6, ZiR, ZkY, Zj9, ZiQ, Zj8, Zja, q_lt, q_le, Zlg, q_gt, Zlq, Zld, Zlo, Zlb, Zlr, Zle, isB0, isB1, isB2, isB3, isB4, isB5, Zj3, ZgI, ZkS, ZkH, Zl3, Zlp, Zlc, Zln, Zla, q_in, Zl9, Zlj, Zj1, ZgH, Zlh, Zlk, Zli, ZkW, ZiJ, ZkX, ZkU, ZkV, ZiW, ZiZ, ZiX, ZiY, ZgF, ZgG, Zll, Zj2, ZkE, ZkF, ZkB, ZkD, ZkA, ZkC, ZiD, ZiE, ZiV, ZiT, ZgC, ZgE, ZgD, ZiF, ZiG, ZgJ, Zlt, Zls, Zj7, Zlm, ZiP, ZiO, ZiN, Zl8, Zj0, ZkZ, ZkT, ZiH, ZiI, ZkL, ZkK, ZkJ, ZkI, Zl7, Zl6, Zl5, Zl4, ZkR, Zl0, Zl1, ZiL, ZiK, ZkG, Zl2, ZiM, ZiU, ZiS, Zj4, Zj5, Zer, CMul, CPow, List.getElem?_cons_zero, List.getElem?_cons_succ, Option.some.injEq,
  MV.int.injEq, MV.str.injEq, MV.bl.injEq, MV.tup.injEq, MV.frl.injEq, MV.ref.injEq, MV.ty.injEq, MO.lst.injEq, MO.dic.injEq, MO.ins.injEq, Prod.mk.injEq, exists_eq_left', exists_eq_left, exists_eq_right, exists_eq_right', exists_and_left, exists_eq, exists_const, true_and, and_true, false_and, and_false, true_or, or_true, false_or, or_false, reduceCtorEq, ne_eq, not_false_eq_true, not_true_eq_false,
  List.set_cons_zero, List.set_cons_succ, decide_eq_true_eq, Bool.not_eq_true', decide_eq_false_iff_not, if_true, if_false, Bool.false_eq_true, ite_true, ite_false, reduceIte, List.length_cons, List.length_nil, and_self, String.reduceEq, String.reduceNe, Int.reduceLT, Int.reduceLE, Int.reducePow, Int.reduceNeg, Int.reduceToNat, Int.reduceSub, Int.reduceAdd, Int.reduceMul, Nat.reduceLT, Nat.reducePow, Nat.reduceLeDiff])
theorem ZhM{α:Sort _}{p q:α->Prop}(h:∀a,p a->q a):(∃a,p a)->∃a,q a:=fun⟨a,x⟩=>⟨a,h a x⟩
theorem Zfw{a b c:Prop}(h:b->c):a/\b->a/\c:=λx=>⟨x.1,h x.2⟩
theorem Zel{a b c d:Prop}(h:a->c)(g:b->d):a/\b->c/\d:=λx=>⟨h x.1,g x.2⟩
theorem ZgX{a b c d:Prop}(h:a->c)(g:b->d):a\/b->c\/d:=λx=>x.elim (λy=>.inl (h y)) λy=>.inr (g y)
theorem Zfx{α:Sort _}{p q:α->Prop}(h:∀a,p a->q a):(∀a,p a)->∀a,q a:=λx a=>h a (x a)
local macro_rules | `(tactic| walk_at "m") => `(tactic| (intro vs M Q Q' hq; repeat (first | exact hq _ _ | exact id | refine ZhM fun _ => ?_ | refine Zfw ?_ | refine Zel ?_ ?_ | refine Zfx fun _ => ?_ | refine ZgX ?_ ?_)))
noncomputable def SameM(M M':MH):Prop:=∀a o,M a=some o->M' a=some o
theorem SameM.refl(M:MH):SameM M M:=λ_ _ h=>h
theorem SameM.trans{M M1 M2:MH}(a:SameM M M1)(b:SameM M1 M2):SameM M M2:=λc o h=>b c o (a c o h)
theorem neM{M:MH}{a p:Addr}{o:MO}(h:M a=some o)(hp:M p=none):a≠p:=by intro e;subst e;rw[h]at hp;cases hp
theorem SameM.new{M:MH}{p:Addr}(h:M p=none)(o:MO):SameM M (updM M p o):=λa u e=>by rw[Z0j (neM e h)];exact e
theorem SameM.free{M M':MH}(s:SameM M M'){p:Addr}(h:M' p=none):M p=none:=by
 cases e:M p with
 |none=>rfl
 |some o=>rw[s _ _ e]at h;cases h
theorem SameM.upd{M M':MH}(s:SameM M M'){p:Addr}(h:M p=none)(o:MO):SameM M (updM M' p o):=λa u e=>by rw[Z0j (neM e h)];exact s a u e
theorem Z6V{lo:Int}{n i:Nat}{x:MV}(h:(Src.rng lo n).items[i]?=some x):i<n/\x=.int (lo+(i:Nat)):=by
 have hi:=(Y08.mp h).1
 rw[Src.items_len]at hi
 refine⟨hi,?_⟩
 have h':((Y0E n).map λi=>MV.int (lo+(i:Nat)))[i]?=some x:=h
 rw[Y06,Y01 (by simpa using(show i<n from hi))]at h'
 simpa using h'.symm
theorem Z0F{α:Type}{f:α->MV}{xs:List α}{i:Nat}{x:MV}(h:(xs.map f)[i]?=some x):∃hi:i<xs.length,x=f xs[i]:=by
 have hi:=(Y08.mp h).1
 rw[Y03]at hi
 refine⟨hi,?_⟩
 rw[Y06,Y01 hi]at h
 exact(Y0C h).symm
theorem Z7U{Φ:List (Str×SpM)}(hm:∀p∈Φ,MonW p.2):∀(j:Nat) f sp,Φ[j]?=some (f,sp)->MonW sp:=λj f sp h=>hm (f,sp) (Y0i h)
theorem Zcb(xs:List MV)(k:Nat):cutM xs none (some (k:Int))=xs.take k:=by
 unfold cutM
 rw[HT.sIx_none,HT.sIx_nat]
 simp
theorem Zcc(xs:List MV)(k:Nat):cutM xs (some (k:Int)) none=xs.drop k:=by
 unfold cutM
 rw[HT.sIx_none,HT.sIx_nat]
 by_cases h:k≤xs.length
 ·rw[Y3m h,Y0X (by rw[Y1l];exact Y07 _)]
 ·rw[Y30 (by lia),Y1M (Y07 _),Y1M (by lia)]
  simp
theorem Z51{κ:Type} [DecidableEq κ] (k:κ)(v:MV)(j:κ):∀kvs:List (κ×MV),valM (putM kvs k v) j=if j=k then some v else valM kvs j
 |[]=>by
  unfold putM valM
  by_cases e:k=j
  ·rw[if_pos e,if_pos e.symm]
  ·rw[if_neg e,if_neg (λz=>e z.symm)]
   rfl
 |(i,u)::r=>by
  unfold putM
  by_cases e:i=k
  ·rw[if_pos e]
   subst e
   unfold valM
   by_cases f:i=j
   ·rw[if_pos f,if_pos f.symm]
   ·rw[if_neg f,if_neg (λz=>f z.symm),if_neg f]
  ·rw[if_neg e]
   unfold valM
   by_cases f:i=j
   ·rw[if_pos f,if_neg (λz=>e (f.trans z)),if_pos f]
   ·rw[if_neg f,Z51 k v j r,if_neg f]
inductive Form where|plus|minus|times|less|same
noncomputable def Form.str:Form->Str
 |.plus=>"plus"|.minus=>"minus"|.times=>"times"|.less=>"less"|.same=>"same"
inductive Tm where
 |num (n:Int)|var (x:Str)|two (f:Form) (a b:Tm)|pick (c a b:Tm)
noncomputable def Tm.depth:Tm->Nat
 |.num _=>1|.var _=>1|.two _ a b=>1+max a.depth b.depth|.pick c a b=>1+max c.depth (max a.depth b.depth)
noncomputable def Tm.size:Tm->Nat
 |.num _=>1|.var _=>1|.two _ a b=>1+(a.size+b.size)|.pick c a b=>1+(c.size+(a.size+b.size))
noncomputable def Tm.reads:Tm->List Str
 |.num _=>[]|.var x=>[x]|.two _ a b=>a.reads++b.reads|.pick c a b=>c.reads++(a.reads++b.reads)
noncomputable def twoV(w:Nat)(l r:Int):Form->Int
 |.plus=>(l+r)%2^w
 |.minus=>(l - r)%2^w
 |.times=>(l*r)%2^w
 |.less=>if l<r then 1 else 0
 |.same=>if l=r then 1 else 0
noncomputable def Tm.val(ρ:Str->Int)(w:Nat):Tm->Int
 |.num n=>n%2^w
 |.var x=>ρ x
 |.two f a b=>twoV w (a.val ρ w) (b.val ρ w) f
 |.pick c a b=>if c.val ρ w≠0 then a.val ρ w else b.val ρ w
theorem Z8P(w:Nat):(0:Int)<2^w:=Int.pow_pos (by decide)
theorem Zjz(x:Int)(w:Nat):0≤x%2^w/\x%2^w<2^w:=⟨Y0z _ (Int.ne_of_gt (Z8P w)),Y0u _ (Z8P w)⟩
theorem Tm.depth_pos:∀T:Tm,1≤T.depth
 |.num _=>Y07 _
 |.var _=>Y07 _
 |.two _ _ _=>Nat.le_add_right _ _
 |.pick _ _ _=>Nat.le_add_right _ _
noncomputable def Tm.mv:Tm->MV
 |.num n=>.tup [.str "num",.int n]
 |.var x=>.tup [.str "var",.str x]
 |.two f a b=>.tup [.str f.str,a.mv,b.mv]
 |.pick c a b=>.tup [.str "pick",c.mv,a.mv,b.mv]
theorem Zfd(f:Form):¬f.str="num":=by cases f<;>decide+kernel
theorem Zbs(f:Form):¬f.str="var":=by cases f<;>decide+kernel
inductive Stp where
 |take (f x:Str)|give (f:Str) (T:Tm)|put (x:Str) (T:Tm)|jump (T:Tm) (i:Int)
noncomputable def Stp.mv:Stp->MV
 |.take f x=>.tup [.str "take",.str f,.str x]
 |.give f T=>.tup [.str "give",.str f,T.mv]
 |.put x T=>.tup [.str "put",.str x,T.mv]
 |.jump T i=>.tup [.str "jump",T.mv,.int i]
noncomputable def tmOk(ns:List Str)(T:Tm):Prop:=T.depth≤8/\T.size≤30/\∀x∈T.reads,x∈ns
noncomputable def Stp.ok(ns:List Str)(n:Nat):Stp->Prop
 |.take _ x=>x∈ns
 |.give _ T=>tmOk ns T
 |.put x T=>x∈ns/\tmOk ns T
 |.jump T i=>tmOk ns T/\0≤i/\i≤n
section
variable{P:Program}{w:World}{K:Y00}{mg:Str->Option Value}{base:Heap}{t:Adr}
noncomputable abbrev Z55:SpM:=λvs M Q=>∃k:Nat,vs=[.int k]/\k≤64/\Q (.int (2^k)) M
theorem Z8Z:MonW Z55:=by walk_at "m"
theorem Zd7(T:Txt K mg t):FnOk P w K mg base CX0 1 t.f_two_to t.d_two_to ["exponent"] (liSp K Z55):=by
 refine T.q_two_to.F.okM ZcM (Z0L (Φ:=[]) (Z0M T) (Z0i T) rfl (λ_ h=>nomatch h) (λ_ h=>nomatch h):Fts P w K mg base 0 ZbK []) Z7m ZdW (λvs M Q h=>?_) (λvs M Q h=>?_)
 ·obtain⟨k,rfl,_⟩:=h;rfl
 obtain⟨k,rfl,hk,q⟩:=h
 show wSs _ _ _ [some (.int k),none,none] M
 delta Z7m Z9K
 walk_at "s"
 delta Z9J
 walk_at "s"
 refine⟨by lia,by lia,λi σ M'=>M'=M/\∃v,σ=[some (.int k),some (.int (2^i)),v],⟨rfl,_,rfl⟩,λ_ _ _ _=>trivial,?_,?_⟩
 ·rintro i x σ M' hx ⟨rfl,v,rfl⟩
  obtain⟨hi,rfl⟩:=Z6V hx
  delta Z9I
  walk_at "s"
  exact⟨_,by rw[Int.pow_succ]⟩
 ·rintro σ M' ⟨rfl,v,rfl⟩
  delta Z9H
  walk_at "s"
  exact q
noncomputable def szs(ts:List Tm):Nat:=(ts.map Tm.size).sum
theorem ZcD(a b:List Tm):szs (a++b)=szs a+szs b:=by unfold szs;rw[Y11,List.sum_append]
theorem Zgt(a:Tm):szs [a]=a.size:=by simp[szs]
theorem ZcC{T:Tm}:∀{ts:List Tm},T∈ts->T.size≤szs ts
 |U::ts,h=>by
  have e:szs (U::ts)=U.size+szs ts:=by simp[szs]
  rcases Y0d.mp h with z|z
  ·subst z;lia
  ·have:=ZcC z;lia
noncomputable def Tm.kids:Tm->List Tm
 |.num _=>[]
 |.var _=>[]
 |.two _ a b=>[a,b]
 |.pick c a b=>[c,a,b]
theorem Tm.size_kids:∀T:Tm,T.size=1+szs T.kids
 |.num _=>rfl
 |.var _=>rfl
 |.two _ a b=>by simp[Tm.size,Tm.kids,szs]
 |.pick c a b=>by simp[Tm.size,Tm.kids,szs]
noncomputable def mxd(ts:List Tm):Nat:=ts.foldl (λa T=>max a T.depth) 0
theorem Zha(ts:List Tm)(T:Tm):mxd (ts++[T])=max (mxd ts) T.depth:=by unfold mxd;rw[Y2V];rfl
theorem Tm.depth_kids:∀T:Tm,T.depth=mxd T.kids+1
 |.num _=>rfl
 |.var _=>rfl
 |.two _ a b=>by simp[Tm.depth,Tm.kids,mxd];lia
 |.pick c a b=>by simp[Tm.depth,Tm.kids,mxd];lia
theorem Tm.kid_depth{T U:Tm}(h:U∈T.kids):U.depth<T.depth:=by
 cases T<;>simp[Tm.kids]at h
 ·rcases h with rfl|rfl<;>(simp only[Tm.depth];lia)
 ·rcases h with rfl|rfl|rfl<;>(simp only[Tm.depth];lia)
theorem Tm.kid_size{T U:Tm}(h:U∈T.kids):U.size<T.size:=by
 rw[T.size_kids]
 have:=ZcC h
 lia
noncomputable def rds(ts:List Tm):List Str:=(ts.map Tm.reads).flatten
theorem Zgz(ts:List Tm)(T:Tm):rds (ts++[T])=rds ts++T.reads:=by simp[rds]
theorem Tm.reads_kids:∀T:Tm,(∀x,T≠.var x)->T.reads=rds T.kids
 |.num _,_=>rfl
 |.var x,h=>absurd rfl (h x)
 |.two _ a b,_=>by simp[Tm.reads,Tm.kids,rds]
 |.pick c a b,_=>by simp[Tm.reads,Tm.kids,rds]
theorem Tm.reads_len:∀T:Tm,T.reads.length≤T.size
 |.num _=>by simp[Tm.reads]
 |.var _=>by simp[Tm.reads,Tm.size]
 |.two _ a b=>by
  have:=a.reads_len
  have:=b.reads_len
  simp[Tm.reads,Tm.size];lia
 |.pick c a b=>by
  have:=a.reads_len
  have:=b.reads_len
  have:=c.reads_len
  simp[Tm.reads,Tm.size];lia
theorem ZcS:∀ts:List Tm,(rds ts).length≤szs ts
 |[]=>Y07 _
 |T::ts=>by
  have:=ZcS ts
  have:=T.reads_len
  have e:szs (T::ts)=T.size+szs ts:=by simp[szs]
  have e2:rds (T::ts)=T.reads++rds ts:=by simp[rds]
  rw[e,e2,Y0t]
  lia
theorem Zev(ts:List Tm)(i:Nat):szs (ts.take i)≤szs ts:=by
 have e1:=ZcD (ts.take i) (ts.drop i)
 rw[List.take_append_drop]at e1
 lia
theorem Zk6(x:MV)(xs:List MV):cutM (x::xs) (some 1) none=xs:=by
 have:=Zcc (x::xs) 1
 simpa using this
noncomputable abbrev Z0w:SpM:=λvs M Q=>∃T:Tm,vs=[T.mv]/\∀p,M p=none->Q (.ref p) (updM M p (.lst (T.kids.map Tm.mv)))
theorem Z22:MonW Z0w:=by walk_at "m"
theorem Z3t(T:Txt K mg t):FnOk P w K mg base CX0 1 t.f_parts_within t.d_parts_within ["T"] (liSp K Z0w):=by
 refine T.q_parts_within.F.okM Z71 (Z0L (Φ:=[]) (Z0M T) (Z0i T) rfl (λ_ h=>nomatch h) (λ_ h=>nomatch h):Fts P w K mg base 0 Z4J []) Z2c Z7B (λvs M Q h=>?_) (λvs M Q h=>?_)
 ·obtain⟨T,rfl,_⟩:=h;rfl
 obtain⟨U,rfl,q⟩:=h
 show wSs _ _ _ [some U.mv] M
 delta Z2c Z3J
 cases U with
 |num m=>
  simp only[Tm.mv]
  walk_at "s"
  delta Z2g
  walk_at "s"
  exact q
 |var x=>
  simp only[Tm.mv]
  walk_at "s"
  delta Z2g
  walk_at "s"
  exact q
 |two f a b=>
  simp only[Tm.mv]
  walk_at "s"
  rw[if_neg (Zfd f),if_neg (Zbs f),Z2f]
  walk_at "s"
  rw[Zk6]
  exact q
 |pick c a b=>
  simp only[Tm.mv]
  walk_at "s"
  delta Z2f
  walk_at "s"
  rw[Zk6]
  exact q
noncomputable abbrev Z1l(n:Nat):SpM:=λvs M Q=>∃T:Tm,vs=[T.mv]/\T.depth≤n/\∀M',SameM M M'->Q (.tup [.int (T.size:Nat),.int (T.depth:Nat)]) M'
theorem Z4g(n:Nat):MonW (Z1l n):=by walk_at "m"
theorem Z8e(T:Txt K mg t):∀n:Nat,FnOk P w K mg base CX0 (n+8) t.f_size_of t.d_size_of ["T"] (liSp K (Z1l n))
 |0=>by
  have no:∀vs M Q,¬Z1l 0 vs M Q:=λvs M Q h=>by
   obtain⟨T,_,h0,_⟩:=h
   have:=T.depth_pos
   lia
  exact⟨λvs H Q E ⟨ms,M,r,rh,h⟩=>absurd h (no _ _ _),λA outer s H args us vs Q E _ _ _ _ ⟨ms,M,r,rh,h⟩=>absurd h (no _ _ _)⟩
 |n+1=>by
  have ih:=Z8e T n
  refine T.q_size_of.F.okM ZbP (Z0L (Φ:=[("parts_within",Z0w),("size_of",(Z1l n))]) (Z0M T) (Z0i T) rfl (fMc ⟨Z22,(fMc ⟨(Z4g _),(fun _ h=>nomatch h)⟩)⟩) (fMc ⟨⟨_,_,_,FnOk.mono (Z3t T) (by lia),T.q_parts_within.m,T.q_parts_within.F.kp,T.q_parts_within.b⟩,(fMc ⟨⟨_,_,_,ih,T.q_size_of.m,T.q_size_of.F.kp,T.q_size_of.b⟩,(fun _ h=>nomatch h)⟩)⟩):Fts P w K mg base (n+8) Zai [("parts_within",Z0w),("size_of",(Z1l n))]) Z61 Zcf (fun vs M Q h=>?_) (fun vs M Q h=>?_)
  ·obtain⟨T,rfl,_⟩:=h;rfl
  obtain⟨U,rfl,hn,q⟩:=h
  show wSs _ _ _ [some U.mv,none,none,none,none] M
  delta Z61 Z8n
  walk_at "s"
  delta Z8m
  walk_at "s"
  delta Z8l
  walk_at "s"
  refine⟨U,rfl,λpk hpk=>?_⟩
  have s1:=SameM.new hpk (.lst (U.kids.map Tm.mv))
  have h1:updM M pk (.lst (U.kids.map Tm.mv)) pk=some (.lst (U.kids.map Tm.mv)):=Z02
  generalize updM M pk (.lst (U.kids.map Tm.mv))=M1 at*
  repeat (first|walk_at "s"|simp only[h1])
  obtain⟨J,hJ⟩:∃J:Nat->Sm->MH->Prop,∀i σ M2,J i σ M2↔∃(v3 v4:Option MV),SameM M1 M2/\σ=[some U.mv,some (.int ((1+szs (U.kids.take i):Nat):Int)),some (.int ((mxd (U.kids.take i):Nat):Int)),v3,v4]:=⟨_,λ_ _ _=>Y1N⟩
  refine⟨J,(hJ _ _ _).2 ⟨_,_,SameM.refl _,rfl⟩,λi σ M2 hj=>?_,λi x σ M2 hx hj=>?_,λσ M2 hj=>?_⟩
  ·obtain⟨_,_,s2,_⟩:=(hJ _ _ _).1 hj
   exact s2 _ _ h1
  ·obtain⟨v3,v4,s2,rfl⟩:=(hJ _ _ _).1 hj
   obtain⟨hi,rfl⟩:=Z0F hx
   have hk:=U.kid_depth (Y0p hi)
   delta Z8k
   walk_at "s"
   refine⟨U.kids[i],rfl,by lia,λM3 s3=>?_⟩
   delta Z8j
   walk_at "s"
   delta Z8i
   walk_at "s"
   have et:U.kids.take (i+1)=U.kids.take i++[U.kids[i]]:=by rw[Y1h,Y01 hi];rfl
   have e1:((1+szs (U.kids.take i):Nat):Int)+(U.kids[i].size:Nat)=((1+szs (U.kids.take (i+1)):Nat):Int):=by rw[et,ZcD,Zgt];lia
   have e2:(if((U.kids[i].depth:Nat):Int)>(mxd (U.kids.take i):Nat)then((U.kids[i].depth:Nat):Int)else(mxd (U.kids.take i):Nat))=((mxd (U.kids.take (i+1)):Nat):Int):=by
    rw[et,Zha];split<;>lia
   rw[e1,e2]
   exact(hJ _ _ _).2 ⟨_,_,s2.trans s3,rfl⟩
  ·obtain⟨v3,v4,s2,rfl⟩:=(hJ _ _ _).1 hj
   have e:U.kids.take (Src.lst pk (U.kids.map Tm.mv)).len=U.kids:=by simp[Src.len]
   rw[e];delta Z8h
   walk_at "s"
   have:=q M2 (s1.trans s2)
   rw[U.size_kids,U.depth_kids]at this
   exact this
noncomputable abbrev Z0z(n:Nat):SpM:=λvs M Q=>∃T:Tm,vs=[T.mv]/\T.depth≤n/\T.size≤4000/\∀p M',SameM M M'->M p=none->M' p=some (.lst (T.reads.map MV.str))->Q (.ref p) M'
theorem Z2D(n:Nat):MonW (Z0z n):=by walk_at "m"
theorem Z5a(T:Txt K mg t):∀n:Nat,FnOk P w K mg base CX0 (n+8) t.f_names_read t.d_names_read ["T"] (liSp K (Z0z n))
 |0=>by
  have no:∀vs M Q,¬Z0z 0 vs M Q:=λvs M Q h=>by
   obtain⟨T,_,h0,_⟩:=h
   have:=T.depth_pos
   lia
  exact⟨λvs H Q E ⟨ms,M,r,rh,h⟩=>absurd h (no _ _ _),λA outer s H args us vs Q E _ _ _ _ ⟨ms,M,r,rh,h⟩=>absurd h (no _ _ _)⟩
 |n+1=>by
  have ih:=Z5a T n
  refine T.q_names_read.F.okM Z8K (Z0L (Φ:=[("names_read",(Z0z n)),("parts_within",Z0w)]) (Z0M T) (Z0i T) rfl (fMc ⟨(Z2D _),(fMc ⟨Z22,(fun _ h=>nomatch h)⟩)⟩) (fMc ⟨⟨_,_,_,ih,T.q_names_read.m,T.q_names_read.F.kp,T.q_names_read.b⟩,(fMc ⟨⟨_,_,_,FnOk.mono (Z3t T) (by lia),T.q_parts_within.m,T.q_parts_within.F.kp,T.q_parts_within.b⟩,(fun _ h=>nomatch h)⟩)⟩):Fts P w K mg base (n+8) Z6F [("names_read",(Z0z n)),("parts_within",Z0w)]) Z2W Z96 (fun vs M Q h=>?_) (fun vs M Q h=>?_)
  ·obtain⟨T,rfl,_⟩:=h;rfl
  obtain⟨U,rfl,hn,hz,q⟩:=h
  show wSs _ _ _ [some U.mv,none,none] M
  have rest:(∀x,U≠.var x)->wSs [("names_read",Z0z n),("parts_within",Z0w)] Z30 {nx:=fun x M'=>Q MV.non M',rt:=Q} [some U.mv,none,none] M:=by
   intro hv
   delta Z30
   walk_at "s"
   intro p0 hp0
   have s0:=SameM.new hp0 (.lst [])
   have h0:updM M p0 (.lst []) p0=some (.lst ([]:List MV)):=Z02
   generalize updM M p0 (.lst [])=M0 at*
   delta Z5k
   walk_at "s"
   refine⟨U,rfl,λpk hpk=>?_⟩
   have s1:=SameM.new hpk (.lst (U.kids.map Tm.mv))
   have h1:updM M0 pk (.lst (U.kids.map Tm.mv)) pk=some (.lst (U.kids.map Tm.mv)):=Z02
   have h01:=s1 _ _ h0
   have t1:=s0.trans s1
   have nk:M pk=none:=s0.free hpk
   generalize updM M0 pk (.lst (U.kids.map Tm.mv))=M1 at*
   repeat (first|walk_at "s"|simp only[h1])
   have ne:p0≠pk:=by
    intro e
    rw[e]at h0
    rw[h0]at hpk
    cases hpk
   obtain⟨J,hJ⟩:∃J:Nat->Sm->MH->Prop,∀i σ M2,J i σ M2↔∃(v2:Option MV),SameM M M2/\M2 pk=some (.lst (U.kids.map Tm.mv))/\M2 p0=some (.lst ((rds (U.kids.take i)).map MV.str))/\σ=[some U.mv,some (.ref p0),v2]:=⟨_,λ_ _ _=>Y1N⟩
   refine⟨J,(hJ _ _ _).2 ⟨_,t1,h1,h01,rfl⟩,λi σ M2 hj=>?_,λi x σ M2 hx hj=>?_,λσ M2 hj=>?_⟩
   ·obtain⟨_,_,g1,_⟩:=(hJ _ _ _).1 hj
    exact g1
   ·obtain⟨v2,s2,g1,g2,rfl⟩:=(hJ _ _ _).1 hj
    obtain⟨hi,rfl⟩:=Z0F hx
    have hk:=U.kid_depth (Y0p hi)
    have hk2:=U.kid_size (Y0p hi)
    delta Z5j
    walk_at "s"
    simp only[g2]
    walk_at "s"
    refine⟨⟨_,rfl⟩,?_⟩
    refine⟨U.kids[i],rfl,by lia,by lia,λp3 M3 s3 n3 g3=>?_⟩
    have g1':=s3 _ _ g1
    have g2':=s3 _ _ g2
    walk_at "s"
    have l1:=ZcS (U.kids.take i)
    have l2:=Zev U.kids i
    have l3:=U.size_kids
    have l4:=U.kids[i].reads_len
    refine⟨_,g2',_,g3,by simp only[Y03];lia,(hJ _ _ _).2 ⟨_,(s2.trans s3).upd hp0 _,by rw[Z0j ne.symm];exact g1',?_,rfl⟩⟩
    rw[Z02,Y1h,Y01 hi,Y2B,Zgz,Y11]
   ·obtain⟨v2,s2,g1,g2,rfl⟩:=(hJ _ _ _).1 hj
    have e:U.kids.take (Src.lst pk (U.kids.map Tm.mv)).len=U.kids:=by simp[Src.len]
    rw[e,<- U.reads_kids hv]at g2
    delta Z5i
    walk_at "s"
    exact q p0 M2 s2 hp0 g2
  delta Z2W Z5m
  cases U with
  |num m=>
   simp only[Tm.mv]
   walk_at "s"
   exact rest (λ_ e=>by cases e)
  |var x=>
   simp only[Tm.mv]
   walk_at "s"
   delta Z5l
   walk_at "s"
   exact λp hp=>q p _ (SameM.new hp _) hp Z02
  |two f a b=>
   simp only[Tm.mv]
   walk_at "s"
   rw[if_neg (Zbs f)]
   exact rest (λ_ e=>by cases e)
  |pick c a b=>
   simp only[Tm.mv]
   walk_at "s"
   exact rest (λ_ e=>by cases e)
noncomputable abbrev Z46:SpM:=λvs M Q=>∃(T:Tm) (N:List Str),vs=[T.mv]/\T.depth≤40/\T.size≤4000/\(∀x∈T.reads,x∈N)/\N.length<64/\
 ∀p M' (ys:List Str),SameM M M'->M p=none->M' p=some (.lst (ys.map MV.str))->ys.Nodup->(∀y,y∈ys↔y∈T.reads)->PyProof.Rows.sortedS ys=true->Q (.ref p) M'
theorem Z7S:MonW Z46:=by walk_at "m"
theorem ZbV(T:Txt K mg t):FnOk P w K mg base CX0 50 t.f_vars_in t.d_vars_in ["T"] (liSp K Z46):=by
 refine T.q_vars_in.F.okM ZbO (Z0L (Φ:=[("names_read",(Z0z 40))]) (Z0M T) (Z0i T) rfl (fMc ⟨(Z2D _),(fun _ h=>nomatch h)⟩) (fMc ⟨⟨_,_,_,FnOk.mono (Z5a T 40) (by decide),T.q_names_read.m,T.q_names_read.F.kp,T.q_names_read.b⟩,(fun _ h=>nomatch h)⟩):Fts P w K mg base 49 Zah [("names_read",(Z0z 40))]) Z60 Zce (fun vs M Q h=>?_) (fun vs M Q h=>?_)
 ·obtain⟨T,N,rfl,_⟩:=h;rfl
 obtain⟨U,N,rfl,hn,hz,hN,hl,q⟩:=h
 show wSs _ _ _ [some U.mv] M
 delta Z60 Z8g
 walk_at "s"
 refine⟨U,rfl,hn,hz,λp1 M1 s1 n1 h1=>?_⟩
 have hb:scanBound=4096:=rfl
 have:=U.reads_len
 exact⟨p1,U.reads,N,rfl,h1,by lia,hN,hl,λp ys hp a1 a2 a3=>q p _ ys (s1.trans (SameM.new hp _)) (s1.free hp) Z02 a1 a2 a3⟩
noncomputable abbrev ZcG:SpM:=λ_ _ _=>False
theorem Zhh:MonW ZcG:=λ_ h=>h.elim
theorem ZhK{P:Program}{w:World}{K:Y00}{mg:Str->Option Value}{base:Heap}{k:Nat}{f:Addr}{fd:FuncData}{ps:List Str}:FnOk P w K mg base CX0 k f fd ps (liSp K λ_ _ _=>False):=
 ⟨λ_ _ _ _ ⟨_,_,_,_,h⟩=>h.elim,λ_ _ _ _ _ _ _ _ _ _ _ _ _ ⟨_,_,_,_,h⟩=>h.elim⟩
noncomputable def Z7G(z:Str):Prop:=1≤z.length/\z.length≤8/\∀c∈z.cps.toList,97≤c/\c≤122
theorem ZfS{a b:Nat}:([a]:List Nat)<[b]↔a<b:=by
 rw[List.cons_lt_cons_iff]
 constructor
 ·rintro(h|⟨_,h⟩)
  ·exact h
  ·exact absurd h (by simp)
 ·exact .inl
theorem Zm3:(("a":Str)).cps.toList=[97]:=by decide+kernel
theorem Zm2:(("z":Str)).cps.toList=[122]:=by decide+kernel
theorem le_a{c:Nat}(h:97≤c):(!decide ((⟨#[c]⟩:Str).cps.toList<(("a":Str)).cps.toList))=true:=by
 rw[Zm3]
 have:¬((⟨#[c]⟩:Str).cps.toList<[97]):=λz=>by
  have z:([c]:List Nat)<[97]:=z
  rw[ZfS]at z
  lia
 simpa using this
theorem le_z{c:Nat}(h:c≤122):(!decide ((("z":Str)).cps.toList<(⟨#[c]⟩:Str).cps.toList))=true:=by
 rw[Zm2]
 have:¬([122]<(⟨#[c]⟩:Str).cps.toList):=λz=>by
  have z:([122]:List Nat)<[c]:=z
  rw[ZfS]at z
  lia
 simpa using this
noncomputable abbrev Z47:SpM:=λvs M Q=>∃z:Str,vs=[.str z]/\Z7G z/\∀M',SameM M M'->Q (.bl true) M'
theorem Z7T:MonW Z47:=by walk_at "m"
theorem ZbW(T:Txt K mg t):FnOk P w K mg base CX0 1 t.f_is_name t.d_is_name ["text"] (liSp K Z47):=by
 refine T.q_is_name.F.okM ZbQ (Z0L (Φ:=[]) (Z0M T) (Z0i T) rfl (λ_ h=>nomatch h) (λ_ h=>nomatch h):Fts P w K mg base 0 Zaj []) Z62 Zcg (λvs M Q h=>?_) (λvs M Q h=>?_)
 ·obtain⟨z,rfl,_⟩:=h;rfl
 obtain⟨z,rfl,⟨g1,g2,g3⟩,q⟩:=h
 show wSs _ _ _ [some (.str z)] M
 delta Z62 Z8r
 walk_at "s"
 refine⟨by lia,?_⟩
 rw[if_pos (by lia:(1:Int)≤(z.length:Int))]
 rw[if_pos (by lia:(z.length:Int)≤8)]
 refine Z1j z.cps.toList (λc=>.str ⟨#[c]⟩) (λ_=>.bl true) ?_ ?_ (λj f sp h=>by simp at h) λD hD=>?_
 ·walk_at "s"
  have:z.cps.toList.length=z.length:=Y0c
  exact⟨rfl,by lia,trivial⟩
 ·intro c hc M' s
  obtain⟨h1,h2⟩:=g3 c hc
  simp only[sCm,Y0b,Y0M,Y0r,Y0s,Y0B,Y0F]
  walk_at "s"
  rw[if_pos (by simpa using le_a h1)]
  simpa using le_z h2
 walk_at "s"
 refine⟨z.cps.toList.map λ_=>true,by rw[Y0R];rfl,?_⟩
 have e:((z.cps.toList.map λ_=>true).all id)=true:=by simp
 rw[e]
 exact q _ (SameM.new hD _)
theorem Zdv{z:Str}{zs:List Str}:inV (toV (.str z)) ((zs.map MV.str).map toV)=decide (z∈zs):=by
 unfold inV
 induction zs with
 |nil=>simp
 |cons a r ih=>
  rw[Y0b,Y0b,Y1o,ih]
  have e:eqV (toV (.str a)) (toV (.str z))=decide (a=z):=by
   show(a==z)=decide (a=z)
   by_cases h:a=z
   ·subst h;simp
   ·simp[h]
  rw[e]
  by_cases h:a=z
  ·simp[h]
  ·have h':¬z=a:=λw=>h w.symm
   simp[h,h']
theorem Z9N(zs:List Str):(zs.map MV.str).all Z2O=true:=by
 rw[Y2Y]
 intro v hv
 obtain⟨x,_,rfl⟩:=Y0o.mp hv
 rfl
noncomputable abbrev Z0t:SpM:=λvs M Q=>∃(z:Str) (e:Addr) (zs:List Str),vs=[.str z,.ref e]/\M e=some (.lst (zs.map MV.str))/\Z7G z/\z∉zs/\∀M',SameM M M'->Q .non M'
theorem Z1i:MonW Z0t:=by walk_at "m"
theorem Z2r(T:Txt K mg t):FnOk P w K mg base CX0 2 t.f_refuse_name t.d_refuse_name ["text","earlier"] (liSp K Z0t):=by
 refine T.q_refuse_name.F.okM Z7P (Z0L (Φ:=[("is_name",Z47)]) (Z0M T) (Z0i T) rfl (fMc ⟨Z7T,(fun _ h=>nomatch h)⟩) (fMc ⟨⟨_,_,_,(FnOk.mono (ZbW T) (by decide)),T.q_is_name.m,T.q_is_name.F.kp,T.q_is_name.b⟩,(fun _ h=>nomatch h)⟩):Fts P w K mg base 1 Z5R [("is_name",Z47)]) Z2v Z87 (fun vs M Q h=>?_) (fun vs M Q h=>?_)
 ·obtain⟨z,a,zs,rfl,_⟩:=h;rfl
 obtain⟨z,a,zs,rfl,h1,h2,h3,q⟩:=h
 show wSs _ _ _ [some (.str z),some (.ref a)] M
 delta Z2v Z4v
 walk_at "s"
 refine⟨z,rfl,h2,λM1 s1=>?_⟩
 walk_at "s"
 delta Z4u
 walk_at "s"
 refine .inl ⟨_,s1 _ _ h1,rfl,Z9N zs,?_⟩
 rw[Zdv,decide_eq_false h3]
 walk_at "s"
 exact q M1 s1
noncomputable def Leaf(v:MV):Prop:=(∃i,v=.int i)\/∃z,v=.str z
noncomputable def FroD:Nat->MH->MV->MV->Prop
 |0,_,v,v'=>Leaf v/\v'=v
 |n+1,M,v,v'=>(Leaf v/\v'=v)\/∃ps:List (MV×MV),(v=.tup (ps.map (·.1))\/∃a,v=.ref a/\M a=some (.lst (ps.map (·.1))))/\v'=.tup (ps.map (·.2))/\ps.length≤1000/\∀p∈ps,FroD n M p.1 p.2
theorem FroD.keep{M M':MH}(s:SameM M M'):∀{n:Nat} {v v':MV},FroD n M v v'->FroD n M' v v'
 |0,_,_,h=>h
 |n+1,v,v',h=>by
  rcases h with h|⟨ps,h1,h2,h3,h4⟩
  ·exact .inl h
  ·refine .inr ⟨ps,?_,h2,h3,λp hp=>(h4 p hp).keep s⟩
   rcases h1 with h1|⟨a,e,h1⟩
   ·exact .inl h1
   ·exact .inr ⟨a,e,s _ _ h1⟩
noncomputable abbrev Z0H(n:Nat):SpM:=λvs M Q=>∃v v',vs=[v]/\FroD n M v v'/\∀M',SameM M M'->Q v' M'
theorem Z1T(n:Nat):MonW (Z0H n):=by walk_at "m"
theorem ZaS{n:Nat}(hΦ:∀(j:Nat) f sp,([("frozen",Z0H n)]:List (Str×SpM))[j]?=some (f,sp)->MonW sp) {vs:List MV} {M:MH} {Q:QM} (h:Z0H (n+1) vs M Q):wSs [("frozen",Z0H n)] Z2L {nx:=fun _ M'=>Q .non M',rt:=Q} (Z54 1 vs) M:=by
 obtain⟨v,v',rfl,hf,q⟩:=h
 show wSs _ _ _ [some v] M
 delta Z2L Z7t
 rcases hf with⟨l,rfl⟩|⟨ps,h1,rfl,h3,h4⟩
 ·rcases l with⟨i,rfl⟩|⟨z,rfl⟩
  ·walk_at "s"
   simp only[decide_false,Y2m,Y0m,if_false,reduceCtorEq,ne_eq,not_false_eq_true,true_and]
   delta Z2M
   walk_at "s"
   exact q M (SameM.refl _)
  ·walk_at "s"
   simp only[decide_false,Y2m,Y0m,if_false,reduceCtorEq,ne_eq,not_false_eq_true,true_and]
   delta Z2M
   walk_at "s"
   exact q M (SameM.refl _)
 ·have go:wSs [("frozen",Z0H n)] Z7s {nx:=fun σ M=>wSs [("frozen",Z0H n)] Z2M {nx:=fun _ M'=>Q .non M',rt:=Q} σ M,rt:=Q} [some v] M:=by
   delta Z7s
   walk_at "s"
   refine Z9S ps (·.1) (·.2) ?_ ?_ hΦ λD M' hD s hd=>?_
   ·rcases h1 with rfl|⟨a,rfl,ha⟩
    ·walk_at "s"
     exact⟨rfl,by lia,trivial,λ_ _ h=>h⟩
    ·repeat (first|walk_at "s"|simp only[ha])
     exact⟨rfl,by lia,ha,λ_ _ h=>h⟩
   ·intro p hp M' s
    simp only[sCm,Y0b,Y0M,Y0r,Y0s,Y0B,Y0F]
    walk_at "s"
    exact⟨p.1,p.2,rfl,(h4 p hp).keep s,λM2 s2=>⟨rfl,s2⟩⟩
   repeat (first|walk_at "s"|simp only[hd])
   exact q M' s
  rcases h1 with rfl|⟨a,rfl,ha⟩
  ·walk_at "s"
   simp only[decide_true,Y1G,Y3c,if_true,reduceCtorEq,ne_eq,not_false_eq_true,true_and]
   exact go
  ·repeat (first|walk_at "s"|simp only[ha])
   simp only[decide_true,Y1G,Y3c,if_true,reduceCtorEq,ne_eq,not_false_eq_true,true_and]
   exact go
theorem Z9x(T:Txt K mg t):∀n:Nat,FnOk P w K mg base CX0 (n+8) t.f_frozen t.d_frozen ["value"] (liSp K (Z0H n))
 |0=>by
  refine T.q_frozen.F.okM Z9m (Z0L (Φ:=[("frozen",ZcG)]) (Z0M T) (Z0i T) rfl (fMc ⟨@Zhh,(fun _ h=>nomatch h)⟩) (fMc ⟨⟨_,_,_,ZhK,T.q_frozen.m,T.q_frozen.F.kp,T.q_frozen.b⟩,(fun _ h=>nomatch h)⟩):Fts P w K mg base 7 Z9e [("frozen",ZcG)]) Z2L Z9X (fun vs M Q h=>?_) (fun vs M Q h=>?_)
  ·obtain⟨v,v',rfl,_⟩:=h;rfl
  obtain⟨v,v',rfl,⟨l,rfl⟩,q⟩:=h
  show wSs _ _ _ [some v'] M
  delta Z2L Z7t
  rcases l with⟨i,rfl⟩|⟨z,rfl⟩
  ·walk_at "s"
   simp only[decide_false,Y2m,Y0m,if_false,reduceCtorEq,ne_eq,not_false_eq_true,true_and]
   delta Z2M
   walk_at "s"
   exact q M (SameM.refl _)
  ·walk_at "s"
   simp only[decide_false,Y2m,Y0m,if_false,reduceCtorEq,ne_eq,not_false_eq_true,true_and]
   delta Z2M
   walk_at "s"
   exact q M (SameM.refl _)
 |n+1=>by
  have ih:=Z9x T n
  refine T.q_frozen.F.okM Z9m (Z0L (Φ:=[("frozen",(Z0H n))]) (Z0M T) (Z0i T) rfl (fMc ⟨(Z1T _),(fun _ h=>nomatch h)⟩) (fMc ⟨⟨_,_,_,ih,T.q_frozen.m,T.q_frozen.F.kp,T.q_frozen.b⟩,(fun _ h=>nomatch h)⟩):Fts P w K mg base (n+8) Z9e [("frozen",(Z0H n))]) Z2L Z9X (fun vs M Q h=>?_) (fun vs M Q h=>?_)
  ·obtain⟨v,v',rfl,_⟩:=h;rfl
  exact ZaS (Z7U (fMc ⟨Z1T n,(λ_ h=>nomatch h)⟩)) h
structure Isl where
 name:Str
 prs:List (Str×Int)
 stps:List Stp
structure Fer where
 name:Str
 giver:Str
 taker:Str
 k:Nat
 st:Nat
structure Wld where
 w:Nat
 isl:List Isl
 fer:List Fer
noncomputable def prV(p:Str×Int):MV:=.tup [.str p.1,.int p.2]
noncomputable def Fer.mv(f:Fer):MV:=.tup [.str f.name,.str f.giver,.str f.taker,.int f.k,.int f.st]
noncomputable def Isl.mv(I:Isl):MV:=.tup [.str I.name,.tup (I.prs.map prV),.tup (I.stps.map Stp.mv)]
noncomputable def Wld.mv(W:Wld):MV:=.tup [.int W.w,.tup (W.isl.map Isl.mv),.tup (W.fer.map Fer.mv)]
noncomputable def Isl.vars(I:Isl):List Str:=I.prs.map (·.1)
noncomputable def Wld.fns(W:Wld):List Str:=W.fer.map (·.name)
noncomputable def Wld.ins(W:Wld):List Str:=W.isl.map (·.name)
noncomputable def TmIn(ns:List Str)(T:Tm):Prop:=T.depth≤8/\T.size≤30/\∀x∈T.reads,x∈ns
noncomputable def Z9d(fs:List Str)(ns:List Str)(n:Nat):Stp->Prop
 |.take f x=>f∈fs/\x∈ns
 |.give f T=>f∈fs/\TmIn ns T
 |.put x T=>x∈ns/\TmIn ns T
 |.jump T i=>TmIn ns T/\0≤i/\i≤(n:Int)
structure IslOk (w:Nat) (fs:List Str) (I:Isl):Prop where
 nv:I.prs.length≤6
 ns:I.stps.length≤12
 nd:I.vars.Nodup
 gd:∀x∈I.vars,Z7G x
 wd:∀p∈I.prs,0≤p.2/\p.2<2^w
 st:∀s∈I.stps,Z9d fs I.vars I.stps.length s
structure FerOk (is:List Str) (f:Fer):Prop where
 g:f.giver∈is
 t:f.taker∈is
 ne:f.giver≠f.taker
 k3:f.k≤3
 s1:1≤f.st
 s3:f.st≤3
noncomputable def Zcp(F:List Fer)(z:Str):Stp->Prop
 |.take f _=>∀x∈F,x.name=f->x.taker=z
 |.give f _=>∀x∈F,x.name=f->x.giver=z
 |_=>True
structure Wld.Good (W:Wld):Prop where
 w1:1≤W.w
 w2:W.w≤64
 i5:W.isl.length≤5
 f6:W.fer.length≤6
 fg:∀z∈W.fns,Z7G z
 ig:∀z∈W.ins,Z7G z
 nd:(W.fns++W.ins).Nodup
 io:∀I∈W.isl,IslOk W.w W.fns I
 fo:∀f∈W.fer,FerOk W.ins f
 en:∀I∈W.isl,∀s∈I.stps,Zcp W.fer I.name s
noncomputable def IslIn(M:MH)(I:Isl)(y:MV):Prop:=∃a b,y=.tup [.str I.name,.ref a,.ref b]/\M a=some (.lst (I.prs.map prV))/\M b=some (.lst (I.stps.map Stp.mv))
theorem IslIn.keep{M M':MH}(s:SameM M M'){I:Isl}{y:MV}(h:IslIn M I y):IslIn M' I y:=by
 obtain⟨a,b,e,h1,h2⟩:=h
 exact⟨a,b,e,s _ _ h1,s _ _ h2⟩
noncomputable def IslsIn(M:MH)(Is:List Isl)(ys:List MV):Prop:=ys.length=Is.length/\∀(i:Nat) (I:Isl) (y:MV),Is[i]?=some I->ys[i]?=some y->IslIn M I y
theorem IslsIn.keep{M M':MH}(s:SameM M M'){Is:List Isl}{ys:List MV}(h:IslsIn M Is ys):IslsIn M' Is ys:=⟨h.1,λi z y a b=>(h.2 i z y a b).keep s⟩
theorem IslsIn.mem{M:MH}{Is:List Isl}{ys:List MV}(h:IslsIn M Is ys){y:MV}(hy:y∈ys):∃I∈Is,IslIn M I y:=by
 obtain⟨i,hi,rfl⟩:=Y0U hy
 have hi2:i<Is.length:=by rw[<- h.1];exact hi
 exact⟨Is[i],Y0p hi2,h.2 i _ _ (Y01 hi2) (Y01 hi)⟩
theorem IslsIn.fst{M:MH}{Is:List Isl}{ys:List MV}(h:IslsIn M Is ys){f:MV->MV}(hf:∀z r,f (.tup (.str z::r))=.str z):ys.map f=(Is.map (·.name)).map MV.str:=by
 apply Y2i
 intro i
 rw[Y06,Y06,Y06]
 by_cases hi:i<ys.length
 ·have hi2:i<Is.length:=by rw[<- h.1];exact hi
  obtain⟨a,b,e,_⟩:=h.2 i _ _ (Y01 hi2) (Y01 hi)
  rw[Y01 hi2,Y01 hi,e]
  show some (f _)=_
  rw[hf];rfl
 ·have hi2:¬i<Is.length:=by rw[<- h.1];exact hi
  rw[Y0Q (by lia),Y0Q (by lia)];rfl
noncomputable abbrev Z1m:SpM:=λvs M Q=>∃i:Int,vs=[.int i]/\Q (.bl true) M
theorem Z3w:MonW Z1m:=by walk_at "m"
theorem Z7a(T:Txt K mg t):FnOk P w K mg base CX0 1 t.f_is_whole t.d_is_whole ["value"] (liSp K Z1m):=by
 refine T.q_is_whole.F.okM Zat (Z0L (Φ:=[]) (Z0M T) (Z0i T) rfl (λ_ h=>nomatch h) (λ_ h=>nomatch h):Fts P w K mg base 0 Z8A []) Z4W ZaY (λvs M Q h=>?_) (λvs M Q h=>?_)
 ·obtain⟨i,rfl,_⟩:=h;rfl
 obtain⟨i,rfl,q⟩:=h
 show wSs _ _ _ [some (.int i)] M
 delta Z4W Z7r
 walk_at "s"
 simpa using q
noncomputable abbrev Z1V:SpM:=λvs M Q=>∃i:Int,vs=[.int i]/\1≤i/\i≤64/\Q (.bl true) M
theorem Z3v:MonW Z1V:=by walk_at "m"
theorem Zaz(T:Txt K mg t):FnOk P w K mg base CX0 2 t.f_is_width t.d_is_width ["number"] (liSp K Z1V):=by
 refine T.q_is_width.F.okM Zas (Z0L (Φ:=[("is_whole",Z1m)]) (Z0M T) (Z0i T) rfl (fMc ⟨Z3w,(fun _ h=>nomatch h)⟩) (fMc ⟨⟨_,_,_,(FnOk.mono (Z7a T) (by decide)),T.q_is_whole.m,T.q_is_whole.F.kp,T.q_is_whole.b⟩,(fun _ h=>nomatch h)⟩):Fts P w K mg base 1 Z8z [("is_whole",Z1m)]) Z4V ZaX (fun vs M Q h=>?_) (fun vs M Q h=>?_)
 ·obtain⟨i,rfl,_⟩:=h;rfl
 obtain⟨i,rfl,h1,h2,q⟩:=h
 show wSs _ _ _ [some (.int i)] M
 delta Z4V Z7q
 walk_at "s"
 refine⟨i,rfl,?_⟩
 walk_at "s"
 rw[if_pos h1,decide_eq_true h2]
 exact q
noncomputable abbrev Z8G:SpM:=λvs M Q=>∃(k:Nat) (i:Int),vs=[.int k,.int i]/\k≤64/\0≤i/\i<2^k/\Q (.bl true) M
theorem ZaB:MonW Z8G:=by walk_at "m"
theorem Zh3(T:Txt K mg t):FnOk P w K mg base CX0 2 t.f_fits t.d_fits ["width","number"] (liSp K Z8G):=by
 refine T.q_fits.F.okM Zgx (Z0L (Φ:=[("is_whole",Z1m),("two_to",Z55)]) (Z0M T) (Z0i T) rfl (fMc ⟨Z3w,(fMc ⟨Z8Z,(fun _ h=>nomatch h)⟩)⟩) (fMc ⟨⟨_,_,_,(FnOk.mono (Z7a T) (by decide)),T.q_is_whole.m,T.q_is_whole.F.kp,T.q_is_whole.b⟩,(fMc ⟨⟨_,_,_,(FnOk.mono (Zd7 T) (by decide)),T.q_two_to.m,T.q_two_to.F.kp,T.q_two_to.b⟩,(fun _ h=>nomatch h)⟩)⟩):Fts P w K mg base 1 Zgm [("is_whole",Z1m),("two_to",Z55)]) ZaK ZhR (fun vs M Q h=>?_) (fun vs M Q h=>?_)
 ·obtain⟨k,i,rfl,_⟩:=h;rfl
 obtain⟨k,i,rfl,h1,h2,h3,q⟩:=h
 show wSs _ _ _ [some (.int k),some (.int i)] M
 delta ZaK ZdL
 walk_at "s"
 refine⟨i,rfl,?_⟩
 walk_at "s"
 rw[if_pos h2]
 refine⟨k,rfl,h1,?_⟩
 walk_at "s"
 rw[decide_eq_true h3]
 exact q
noncomputable abbrev Z08:SpM:=λvs M Q=>∃(z:Str) (e:Addr) (zs:List Str),vs=[.str z,.ref e]/\M e=some (.lst (zs.map MV.str))/\z∈zs/\Q .non M
theorem Z0l:MonW Z08:=by walk_at "m"
theorem Z0U(T:Txt K mg t):FnOk P w K mg base CX0 1 t.f_refuse_unknown t.d_refuse_unknown ["name","known"] (liSp K Z08):=by
 refine T.q_refuse_unknown.F.okM Z5U (Z0L (Φ:=[]) (Z0M T) (Z0i T) rfl (λ_ h=>nomatch h) (λ_ h=>nomatch h):Fts P w K mg base 0 Z3j []) Z1s Z65 (λvs M Q h=>?_) (λvs M Q h=>?_)
 ·obtain⟨z,a,zs,rfl,_⟩:=h;rfl
 obtain⟨z,a,zs,rfl,h1,h2,q⟩:=h
 show wSs _ _ _ [some (.str z),some (.ref a)] M
 delta Z1s Z2F
 walk_at "s"
 refine .inl ⟨_,h1,rfl,Z9N zs,?_⟩
 rw[Zdv,decide_eq_true h2]
 walk_at "s"
 exact q
theorem Z7e{α:Type} [DecidableEq α] {zs:List α}(nd:zs.Nodup){j:Nat}{z:α}(hz:zs[j]?=some z):z∉zs.take j:=λhm=>by
 obtain⟨hj,rfl⟩:=Y08.mp hz
 obtain⟨k,hk,e1⟩:=Y0U hm
 have hk2:k<j:=by rw[Y0A]at hk;lia
 rw[List.getElem_take]at e1
 have:=(List.getElem_inj nd).mp e1
 lia
theorem Z8D{α β:Type}{f:α->β}{zs:List α}{j:Nat}{z:α}(hz:zs[j]?=some z):(zs.take j).map f++[f z]=(zs.take (j+1)).map f:=by
 rw[Y1h,hz,Y11];rfl
noncomputable abbrev Z0k:SpM:=λvs M Q=>∃(f:Addr) (F:List Fer),vs=[.ref f]/\M f=some (.lst (F.map Fer.mv))/\F.length≤6/\(F.map (·.name)).Nodup/\(∀x∈F,Z7G x.name)/\∀M',SameM M M'->Q .non M'
theorem Z12:MonW Z0k:=by walk_at "m"
theorem Z3s(T:Txt K mg t):FnOk P w K mg base CX0 3 t.f_refuse_ferry_names t.d_refuse_ferry_names ["ferries"] (liSp K Z0k):=by
 refine T.q_refuse_ferry_names.F.okM Z3n (Z0L (Φ:=[("refuse_name",Z0t)]) (Z0M T) (Z0i T) rfl (fMc ⟨Z1i,(fun _ h=>nomatch h)⟩) (fMc ⟨⟨_,_,_,(FnOk.mono (Z2r T) (by decide)),T.q_refuse_name.m,T.q_refuse_name.F.kp,T.q_refuse_name.b⟩,(fun _ h=>nomatch h)⟩):Fts P w K mg base 2 Z1S [("refuse_name",Z0t)]) Z0R Z41 (fun vs M Q h=>?_) (fun vs M Q h=>?_)
 ·obtain⟨f,F,rfl,_⟩:=h;rfl
 obtain⟨f,F,rfl,hf,h6,nd,hg,q⟩:=h
 show wSs _ _ _ [some (.ref f),none,none] M
 delta Z0R Z1I
 walk_at "s"
 intro p hp
 have s1:=SameM.new hp (.lst [])
 have hf1:=s1 _ _ hf
 have hp1:updM M p (.lst []) p=some (.lst []):=Z02
 have old:∀a o,M a=some o->a≠p:=λa o h=>neM h hp
 generalize updM M p _=M1 at*
 delta Z1H
 repeat (first|walk_at "s"|simp only[hf1])
 obtain⟨J,hJ⟩:∃J:Nat->Sm->MH->Prop,∀j σ M',J j σ M'↔SameM M M'/\M' p=some (.lst (((F.map (·.name)).take j).map MV.str))/\∃v,σ=[some (.ref f),some (.ref p),v]:=⟨_,λ_ _ _=>Y1N⟩
 refine⟨J,(hJ _ _ _).mpr ⟨s1,by simpa using hp1,_,rfl⟩,λj σ M' h=>((hJ _ _ _).mp h).1 _ _ hf,?_,?_⟩
 ·rintro j y σ M' hy h
  obtain⟨s2,hp2,v,rfl⟩:=(hJ _ _ _).mp h
  obtain⟨hj,rfl⟩:=Z0F hy
  have hj:j<F.length:=hj
  have hz:(F.map (·.name))[j]?=some F[j].name:=by rw[Y06,Y01 hj];rfl
  delta Z1G
  repeat (first|walk_at "s"|simp only[Fer.mv])
  refine⟨F[j].name,p,(F.map (·.name)).take j,rfl,hp2,hg _ (Y0p hj),Z7e nd hz,λM3 s3=>?_⟩
  have hp3:=s3 _ _ hp2
  walk_at "s"
  delta Z1F
  repeat (first|walk_at "s"|simp only[Fer.mv,hp3,Y03,Y0A])
  refine⟨⟨_,rfl⟩,by lia,(hJ _ _ _).mpr ⟨λa o h=>by rw[Z0j (old a o h)];exact s3 _ _ (s2 _ _ h),?_,_,rfl⟩⟩
  rw[Z02,Z8D hz]
 ·rintro σ M' h
  obtain⟨s2,_⟩:=(hJ _ _ _).mp h
  exact q _ s2
noncomputable abbrev Z0v:SpM:=λvs M Q=>∃(k:Nat) (f:Addr) (ps:List (Str×Int)),vs=[.int k,.ref f]/\M f=some (.lst (ps.map prV))/\k≤64/\ps.length≤6/\(ps.map (·.1)).Nodup/\(∀x∈ps,Z7G x.1/\0≤x.2/\x.2<2^k)/\∀M',SameM M M'->Q .non M'
theorem Z1h:MonW Z0v:=by walk_at "m"
theorem Z4Q(T:Txt K mg t):FnOk P w K mg base CX0 3 t.f_refuse_variables t.d_refuse_variables ["width","pairs"] (liSp K Z0v):=by
 refine T.q_refuse_variables.F.okM Z4O (Z0L (Φ:=[("fits",Z8G),("refuse_name",Z0t)]) (Z0M T) (Z0i T) rfl (fMc ⟨ZaB,(fMc ⟨Z1i,(fun _ h=>nomatch h)⟩)⟩) (fMc ⟨⟨_,_,_,(FnOk.mono (Zh3 T) (by decide)),T.q_fits.m,T.q_fits.F.kp,T.q_fits.b⟩,(fMc ⟨⟨_,_,_,(FnOk.mono (Z2r T) (by decide)),T.q_refuse_name.m,T.q_refuse_name.F.kp,T.q_refuse_name.b⟩,(fun _ h=>nomatch h)⟩)⟩):Fts P w K mg base 2 Z2q [("fits",Z8G),("refuse_name",Z0t)]) Z18 Z50 (fun vs M Q h=>?_) (fun vs M Q h=>?_)
 ·obtain⟨k,f,F,rfl,_⟩:=h;rfl
 obtain⟨k,f,F,rfl,hf,hk,h6,nd,hg,q⟩:=h
 show wSs _ _ _ [some (.int k),some (.ref f),none,none,none] M
 delta Z18 Z2a
 walk_at "s"
 intro p hp
 have s1:=SameM.new hp (.lst [])
 have hf1:=s1 _ _ hf
 have hp1:updM M p (.lst []) p=some (.lst []):=Z02
 have old:∀a o,M a=some o->a≠p:=λa o h=>neM h hp
 generalize updM M p _=M1 at*
 delta Z29
 repeat (first|walk_at "s"|simp only[hf1])
 obtain⟨J,hJ⟩:∃J:Nat->Sm->MH->Prop,∀j σ M',J j σ M'↔SameM M M'/\M' p=some (.lst (((F.map (·.1)).take j).map MV.str))/\∃v v',σ=[some (.int k),some (.ref f),some (.ref p),v,v']:=⟨_,λ_ _ _=>Y1N⟩
 refine⟨J,(hJ _ _ _).mpr ⟨s1,by simpa using hp1,_,_,rfl⟩,λj σ M' h=>((hJ _ _ _).mp h).1 _ _ hf,?_,?_⟩
 ·rintro j y σ M' hy h
  obtain⟨s2,hp2,v,v',rfl⟩:=(hJ _ _ _).mp h
  obtain⟨hj,rfl⟩:=Z0F hy
  have hj:j<F.length:=hj
  have hz:(F.map (·.1))[j]?=some F[j].1:=by rw[Y06,Y01 hj];rfl
  obtain⟨g1,g2,g3⟩:=hg _ (Y0p hj)
  delta Z28
  repeat (first|walk_at "s"|simp only[prV])
  delta Z27
  walk_at "s"
  refine⟨F[j].1,p,(F.map (·.1)).take j,rfl,hp2,g1,Z7e nd hz,λM3 s3=>?_⟩
  have hp3:=s3 _ _ hp2
  walk_at "s"
  delta Z26
  repeat (first|walk_at "s"|simp only[hp3,Y03,Y0A])
  refine⟨⟨_,rfl⟩,by lia,?_⟩
  delta Z25
  repeat (first|walk_at "s"|simp only[prV])
  refine⟨k,F[j].2,rfl,hk,g2,g3,?_⟩
  walk_at "s"
  refine(hJ _ _ _).mpr ⟨λa o h=>by rw[Z0j (old a o h)];exact s3 _ _ (s2 _ _ h),?_,_,_,rfl⟩
  rw[Z02,Z8D hz]
 ·rintro σ M' h
  obtain⟨s2,_⟩:=(hJ _ _ _).mp h
  exact q _ s2
noncomputable abbrev Z1v:SpM:=λvs M Q=>∃(U:Tm) (e:Addr) (ns:List Str),vs=[U.mv,.ref e]/\M e=some (.lst (ns.map MV.str))/\ns.length≤6/\TmIn ns U/\∀M',SameM M M'->Q .non M'
theorem Z5b:MonW Z1v:=by walk_at "m"
theorem Z7Q(T:Txt K mg t):FnOk P w K mg base CX0 51 t.f_refuse_term t.d_refuse_term ["T","known"] (liSp K Z1v):=by
 refine T.q_refuse_term.F.okM Z7N (Z0L (Φ:=[("refuse_unknown",Z08),("size_of",(Z1l 8)),("vars_in",Z46)]) (Z0M T) (Z0i T) rfl (fMc ⟨Z0l,(fMc ⟨(Z4g _),(fMc ⟨Z7S,(fun _ h=>nomatch h)⟩)⟩)⟩) (fMc ⟨⟨_,_,_,FnOk.mono (Z0U T) (by decide),T.q_refuse_unknown.m,T.q_refuse_unknown.F.kp,T.q_refuse_unknown.b⟩,(fMc ⟨⟨_,_,_,FnOk.mono (Z8e T 8) (by decide),T.q_size_of.m,T.q_size_of.F.kp,T.q_size_of.b⟩,(fMc ⟨⟨_,_,_,FnOk.mono (ZbV T) (by decide),T.q_vars_in.m,T.q_vars_in.F.kp,T.q_vars_in.b⟩,(fun _ h=>nomatch h)⟩)⟩)⟩):Fts P w K mg base 50 Z5P [("refuse_unknown",Z08),("size_of",(Z1l 8)),("vars_in",Z46)]) Z2t Z85 (fun vs M Q h=>?_) (fun vs M Q h=>?_)
 ·obtain⟨U,a,ns,rfl,_⟩:=h;rfl
 obtain⟨U,a,ns,rfl,ha,h6,⟨hd,hs,hr⟩,q⟩:=h
 show wSs _ _ _ [some U.mv,some (.ref a),none,none] M
 delta Z2t Z4l
 walk_at "s"
 refine⟨U,rfl,hd,λM1 s1=>?_⟩
 walk_at "s"
 delta Z4k
 walk_at "s"
 rw[if_neg (by lia:¬((U.size:Nat):Int)>30)]
 rw[if_neg (by lia:¬((U.depth:Nat):Int)>8)]
 delta Z4j
 walk_at "s"
 refine⟨U,ns,rfl,by lia,by lia,hr,by lia,λp M2 ys s2 hp hp2 nd hm _=>?_⟩
 repeat (first|walk_at "s"|simp only[hp2])
 obtain⟨J,hJ⟩:∃J:Nat->Sm->MH->Prop,∀j σ M',J j σ M'↔M'=M2/\∃v v',σ=[some U.mv,some (.ref a),v,v']:=⟨_,λ_ _ _=>Y1N⟩
 refine⟨J,(hJ _ _ _).mpr ⟨rfl,_,_,rfl⟩,λj σ M' h=>by rw[((hJ _ _ _).mp h).1];exact hp2,?_,?_⟩
 ·rintro j y σ M' hy h
  obtain⟨rfl,v,v',rfl⟩:=(hJ _ _ _).mp h
  obtain⟨hj,rfl⟩:=Z0F hy
  delta Z4i
  walk_at "s"
  refine⟨ys[j],a,ns,rfl,s2 _ _ (s1 _ _ ha),hr _ ((hm _).mp (Y0p hj)),?_⟩
  walk_at "s"
  exact(hJ _ _ _).mpr ⟨rfl,_,_,rfl⟩
 ·rintro σ M' h
  obtain⟨rfl,_⟩:=(hJ _ _ _).mp h
  exact q _ (s1.trans s2)
theorem Zao{f x:Str}:(Stp.take f x).mv=.tup [.str "take",.str f,.str x]:=rfl
theorem Zaq{f:Str}{U:Tm}:(Stp.give f U).mv=.tup [.str "give",.str f,U.mv]:=rfl
theorem ZcF{f:Str}{U:Tm}:(Stp.put f U).mv=.tup [.str "put",.str f,U.mv]:=rfl
theorem Zap{i:Int}{U:Tm}:(Stp.jump U i).mv=.tup [.str "jump",U.mv,.int i]:=rfl
noncomputable abbrev Z0W:SpM:=λvs M Q=>∃(S:Stp) (a b:Addr) (ns fs:List Str) (n:Nat),vs=[S.mv,.ref a,.int n,.ref b]/\M a=some (.lst (ns.map MV.str))/\M b=some (.lst (fs.map MV.str))/\ns.length≤6/\Z9d fs ns n S/\∀M',SameM M M'->Q .non M'
theorem Z2m:MonW Z0W:=by walk_at "m"
theorem Z7R(T:Txt K mg t):FnOk P w K mg base CX0 52 t.f_refuse_step t.d_refuse_step ["step","known","count","ferry_names"] (liSp K Z0W):=by
 refine T.q_refuse_step.F.okM Z7O (Z0L (Φ:=[("refuse_term",Z1v),("refuse_unknown",Z08)]) (Z0M T) (Z0i T) rfl (fMc ⟨Z5b,(fMc ⟨Z0l,(fun _ h=>nomatch h)⟩)⟩) (fMc ⟨⟨_,_,_,(FnOk.mono (Z7Q T) (by decide)),T.q_refuse_term.m,T.q_refuse_term.F.kp,T.q_refuse_term.b⟩,(fMc ⟨⟨_,_,_,(FnOk.mono (Z0U T) (by decide)),T.q_refuse_unknown.m,T.q_refuse_unknown.F.kp,T.q_refuse_unknown.b⟩,(fun _ h=>nomatch h)⟩)⟩):Fts P w K mg base 51 Z5Q [("refuse_term",Z1v),("refuse_unknown",Z08)]) Z2u Z86 (fun vs M Q h=>?_) (fun vs M Q h=>?_)
 ·obtain⟨S,a,b,ns,fs,n,rfl,_⟩:=h;rfl
 obtain⟨S,a,b,ns,fs,n,rfl,ha,hb,h6,hS,q⟩:=h
 show wSs _ _ _ [some S.mv,some (.ref a),some (.int n),some (.ref b)] M
 delta Z2u Z4t
 cases S with
 |take f x=>
  obtain⟨h1,h2⟩:=hS
  repeat (first|walk_at "s"|simp only[Zao])
  delta Z4s
  walk_at "s"
  refine⟨f,b,fs,rfl,hb,h1,?_⟩
  walk_at "s"
  delta Z4r
  walk_at "s"
  refine⟨x,a,ns,rfl,ha,h2,?_⟩
  walk_at "s"
  exact q _ (SameM.refl _)
 |give f U=>
  obtain⟨h1,h2⟩:=hS
  repeat (first|walk_at "s"|simp only[Zaq])
  delta Z1w
  walk_at "s"
  delta Z4q
  walk_at "s"
  refine⟨f,b,fs,rfl,hb,h1,?_⟩
  walk_at "s"
  delta Z4p
  walk_at "s"
  refine⟨U,a,ns,rfl,ha,h6,h2,λM1 s1=>?_⟩
  walk_at "s"
  exact q _ s1
 |put f U=>
  obtain⟨h1,h2⟩:=hS
  repeat (first|walk_at "s"|simp only[ZcF])
  delta Z1w
  walk_at "s"
  delta Z2s
  walk_at "s"
  delta Z4o
  walk_at "s"
  refine⟨f,a,ns,rfl,ha,h1,?_⟩
  walk_at "s"
  delta Z4n
  walk_at "s"
  refine⟨U,a,ns,rfl,ha,h6,h2,λM1 s1=>?_⟩
  walk_at "s"
  exact q _ s1
 |jump U i=>
  obtain⟨h1,h2,h3⟩:=hS
  repeat (first|walk_at "s"|simp only[Zap])
  delta Z1w
  walk_at "s"
  delta Z2s
  walk_at "s"
  delta Z4m
  walk_at "s"
  refine⟨U,a,ns,rfl,ha,h6,h1,λM1 s1=>?_⟩
  walk_at "s"
  delta Z3y
  walk_at "s"
  rw[if_pos h2]
  rw[if_neg (by lia:¬¬i≤(n:Int))]
  exact q _ s1
noncomputable abbrev Z14:SpM:=λvs M Q=>∃(k:Nat) (I:Isl) (y:MV) (b:Addr) (fs:List Str),vs=[.int k,y,.ref b]/\k≤64/\IslIn M I y/\M b=some (.lst (fs.map MV.str))/\IslOk k fs I/\∀M',SameM M M'->Q .non M'
theorem Z4d:MonW Z14:=by walk_at "m"
theorem Z6K(T:Txt K mg t):FnOk P w K mg base CX0 53 t.f_refuse_island t.d_refuse_island ["width","island","ferry_names"] (liSp K Z14):=by
 refine T.q_refuse_island.F.okM Z6J (Z0L (Φ:=[("refuse_step",Z0W),("refuse_variables",Z0v)]) (Z0M T) (Z0i T) rfl (fMc ⟨Z2m,(fMc ⟨Z1h,(fun _ h=>nomatch h)⟩)⟩) (fMc ⟨⟨_,_,_,(FnOk.mono (Z7R T) (by decide)),T.q_refuse_step.m,T.q_refuse_step.F.kp,T.q_refuse_step.b⟩,(fMc ⟨⟨_,_,_,(FnOk.mono (Z4Q T) (by decide)),T.q_refuse_variables.m,T.q_refuse_variables.F.kp,T.q_refuse_variables.b⟩,(fun _ h=>nomatch h)⟩)⟩):Fts P w K mg base 52 Z44 [("refuse_step",Z0W),("refuse_variables",Z0v)]) Z1M Z6O (fun vs M Q h=>?_) (fun vs M Q h=>?_)
 ·obtain⟨k,I,y,b,fs,rfl,_⟩:=h;rfl
 obtain⟨k,I,y,fa,fs,rfl,hk,⟨a,b,rfl,ha,hb⟩,hfa,ok,q⟩:=h
 show wSs _ _ _ [some (.int k),some (.tup [.str I.name,.ref a,.ref b]),some (.ref fa),none,none] M
 have l1:=ok.nv
 have l2:=ok.ns
 delta Z1M Z3h
 repeat (first|walk_at "s"|simp only[ha,Y03])
 refine Z2j (λz=>by lia) (λ_=>?_)
 delta Z3g
 repeat (first|walk_at "s"|simp only[hb,Y03])
 refine Z2j (λz=>by lia) (λ_=>?_)
 delta Z3f
 walk_at "s"
 refine⟨k,a,I.prs,rfl,ha,hk,l1,ok.nd,λx hx=>⟨ok.gd _ (Y0o.mpr ⟨x,hx,rfl⟩),ok.wd _ hx⟩,λM1 s1=>?_⟩
 walk_at "s"
 have ha1:=s1 _ _ ha
 delta Z3e
 walk_at "s"
 refine Z1j I.prs prV (fun p=>.str p.1) ?_ ?_ (Z7U (Φ:=[("refuse_step",Z0W),("refuse_variables",Z0v)]) (fMc ⟨Z2m,(fMc ⟨Z1h,(fun _ h=>nomatch h)⟩)⟩)) fun D hD=>?_
 ·repeat (first|walk_at "s"|simp only[ha1])
  exact⟨rfl,by lia,ha1⟩
 ·intro p hp M' s
  simp only[sCm,Y0b,Y0M,Y0r,Y0s,Y0B,Y0F]
  repeat (first|walk_at "s"|simp only[prV])
  try exact⟨rfl,rfl⟩
 have eV:(I.prs.map λp=>MV.str p.1)=I.vars.map MV.str:=by unfold Isl.vars;rw[Y0R];rfl
 rw[eV]
 have s2:=s1.trans (SameM.new hD (.lst (I.vars.map MV.str)))
 have hD2:updM M1 D (.lst (I.vars.map MV.str)) D=some (.lst (I.vars.map MV.str)):=Z02
 generalize updM M1 D _=M2 at*
 have hb2:=s2 _ _ hb
 delta Z3d
 repeat (first|walk_at "s"|simp only[hb2])
 obtain⟨J,hJ⟩:∃J:Nat->Sm->MH->Prop,∀j σ M',J j σ M'↔SameM M2 M'/\∃v,σ=[some (.int k),some (.tup [.str I.name,.ref a,.ref b]),some (.ref fa),some (.ref D),v]:=⟨_,λ_ _ _=>Y1N⟩
 refine⟨J,(hJ _ _ _).mpr ⟨SameM.refl _,_,rfl⟩,λj σ M' h=>((hJ _ _ _).mp h).1 _ _ hb2,?_,?_⟩
 ·rintro j y σ M' hy h
  obtain⟨s3,v,rfl⟩:=(hJ _ _ _).mp h
  obtain⟨hj,rfl⟩:=Z0F hy
  have hj:j<I.stps.length:=hj
  have hb3:=s3 _ _ hb2
  delta Z3c
  repeat (first|walk_at "s"|simp only[hb3,Y03])
  refine⟨I.stps[j],D,fa,I.vars,fs,I.stps.length,rfl,s3 _ _ hD2,s3 _ _ (s2 _ _ hfa),by unfold Isl.vars;rw[Y03];exact l1,ok.st _ (Y0p hj),λM4 s4=>?_⟩
  walk_at "s"
  exact(hJ _ _ _).mpr ⟨s3.trans s4,_,rfl⟩
 ·rintro σ M' h
  obtain⟨s3,_⟩:=(hJ _ _ _).mp h
  exact q _ (s2.trans s3)
noncomputable abbrev Z0G:SpM:=λvs M Q=>∃(k:Nat) (p b:Addr) (Is:List Isl) (ys:List MV) (fs:List Str),vs=[.int k,.ref p,.ref b]/\k≤64/\M p=some (.lst ys)/\IslsIn M Is ys/\Is.length≤5/\fs.length≤6/\M b=some (.lst (fs.map MV.str))/\(fs++Is.map (·.name)).Nodup/\(∀I∈Is,Z7G I.name)/\(∀I∈Is,IslOk k fs I)/\∀M',SameM M M'->Q .non M'
theorem Z1E:MonW Z0G:=by walk_at "m"
theorem Z5W(T:Txt K mg t):FnOk P w K mg base CX0 54 t.f_refuse_islands t.d_refuse_islands ["width","islands","ferry_names"] (liSp K Z0G):=by
 refine T.q_refuse_islands.F.okM Z5V (Z0L (Φ:=[("refuse_island",Z14),("refuse_name",Z0t)]) (Z0M T) (Z0i T) rfl (fMc ⟨Z4d,(fMc ⟨Z1i,(fun _ h=>nomatch h)⟩)⟩) (fMc ⟨⟨_,_,_,(FnOk.mono (Z6K T) (by decide)),T.q_refuse_island.m,T.q_refuse_island.F.kp,T.q_refuse_island.b⟩,(fMc ⟨⟨_,_,_,(FnOk.mono (Z2r T) (by decide)),T.q_refuse_name.m,T.q_refuse_name.F.kp,T.q_refuse_name.b⟩,(fun _ h=>nomatch h)⟩)⟩):Fts P w K mg base 53 Z3k [("refuse_island",Z14),("refuse_name",Z0t)]) Z1t Z66 (fun vs M Q h=>?_) (fun vs M Q h=>?_)
 ·obtain⟨k,p,b,Is,ys,fs,rfl,_⟩:=h;rfl
 obtain⟨k,p,f,Is,ys,fs,rfl,hk,hp,hI,h5,hf6,hf,nd,hg,ok,q⟩:=h
 show wSs _ _ _ [some (.int k),some (.ref p),some (.ref f),none,none] M
 delta Z1t Z2K
 repeat (first|walk_at "s"|simp only[hf])
 intro e he
 have s1:=SameM.new he (.lst (fs.map MV.str))
 have he1:updM M e (.lst (fs.map MV.str)) e=some (.lst (fs.map MV.str)):=Z02
 have hp1:=s1 _ _ hp
 have old:∀a o,M a=some o->a≠e:=λa o h=>neM h he
 generalize updM M e _=M1 at*
 delta Z2J
 repeat (first|walk_at "s"|simp only[hp1])
 obtain⟨J,hJ⟩:∃J:Nat->Sm->MH->Prop,∀j σ M',J j σ M'↔SameM M M'/\M' e=some (.lst ((fs++(Is.map (·.name)).take j).map MV.str))/\∃v,σ=[some (.int k),some (.ref p),some (.ref f),some (.ref e),v]:=⟨_,λ_ _ _=>Y1N⟩
 refine⟨J,(hJ _ _ _).mpr ⟨s1,by simpa using he1,_,rfl⟩,λj σ M' h=>((hJ _ _ _).mp h).1 _ _ hp,?_,?_⟩
 ·rintro j y σ M' hy h
  obtain⟨s2,he2,v,rfl⟩:=(hJ _ _ _).mp h
  have hy:ys[j]?=some y:=hy
  have hj:j<Is.length:=by rw[<- hI.1];exact(Y08.mp hy).1
  have hi:Is[j]?=some Is[j]:=Y01 hj
  have hz:(Is.map (·.name))[j]?=some Is[j].name:=by rw[Y06,hi];rfl
  have hm:=Y0p hj
  obtain⟨a,b,rfl,_⟩:=(hI.keep s2).2 j Is[j] y hi hy
  have nin:Is[j].name∉fs++(Is.map (·.name)).take j:=by
   rw[Y1g]at nd
   intro z
   rcases Y1a.mp z with z|z
   ·exact nd.2.2 _ z _ (Y0o.mpr ⟨_,hm,rfl⟩) rfl
   ·exact Z7e nd.2.1 hz z
  delta Z2I
  walk_at "s"
  refine⟨Is[j].name,e,fs++(Is.map (·.name)).take j,rfl,he2,hg _ hm,nin,λM3 s3=>?_⟩
  have he3:=s3 _ _ he2
  walk_at "s"
  delta Z2H
  repeat (first|walk_at "s"|simp only[he3,Y03,Y0t,Y0A])
  refine⟨⟨_,rfl⟩,by lia,?_⟩
  have s4:SameM M (updM M3 e (.lst ((fs++(Is.map (·.name)).take j).map MV.str++[.str Is[j].name]))):=λa o h=>by rw[Z0j (old a o h)];exact s3 _ _ (s2 _ _ h)
  have he4:updM M3 e (.lst ((fs++(Is.map (·.name)).take j).map MV.str++[.str Is[j].name])) e=some (.lst ((fs++(Is.map (·.name)).take (j+1)).map MV.str)):=by
   rw[Z02,Y11,Y11,Y1U,Z8D hz]
  generalize updM M3 e _=M4 at*
  delta Z2G
  walk_at "s"
  refine⟨k,Is[j],_,f,fs,rfl,hk,(hI.keep s4).2 j _ _ hi hy,s4 _ _ hf,ok _ hm,λM5 s5=>?_⟩
  walk_at "s"
  exact(hJ _ _ _).mpr ⟨s4.trans s5,s5 _ _ he4,_,rfl⟩
 ·rintro σ M' h
  obtain⟨s2,_⟩:=(hJ _ _ _).mp h
  exact q _ s2
noncomputable abbrev Z0N:SpM:=λvs M Q=>∃(x:Fer) (e:Addr) (zs:List Str),vs=[x.mv,.ref e]/\M e=some (.lst (zs.map MV.str))/\FerOk zs x/\Q .non M
theorem Z21:MonW Z0N:=by walk_at "m"
theorem Z79(T:Txt K mg t):FnOk P w K mg base CX0 2 t.f_refuse_ferry t.d_refuse_ferry ["ferry","island_names"] (liSp K Z0N):=by
 refine T.q_refuse_ferry.F.okM Z70 (Z0L (Φ:=[("refuse_unknown",Z08)]) (Z0M T) (Z0i T) rfl (fMc ⟨Z0l,(fun _ h=>nomatch h)⟩) (fMc ⟨⟨_,_,_,(FnOk.mono (Z0U T) (by decide)),T.q_refuse_unknown.m,T.q_refuse_unknown.F.kp,T.q_refuse_unknown.b⟩,(fun _ h=>nomatch h)⟩):Fts P w K mg base 1 Z4I [("refuse_unknown",Z08)]) Z2b Z7A (fun vs M Q h=>?_) (fun vs M Q h=>?_)
 ·obtain⟨x,a,zs,rfl,_⟩:=h;rfl
 obtain⟨x,a,zs,rfl,ha,ok,q⟩:=h
 show wSs _ _ _ [some (.tup [.str x.name,.str x.giver,.str x.taker,.int x.k,.int x.st]),some (.ref a)] M
 have k3:=ok.k3
 have t1:=ok.s1
 have t3:=ok.s3
 delta Z2b Z3D
 walk_at "s"
 refine⟨_,a,zs,rfl,ha,ok.g,?_⟩
 walk_at "s"
 delta Z3C
 walk_at "s"
 refine⟨_,a,zs,rfl,ha,ok.t,?_⟩
 walk_at "s"
 delta Z3B
 walk_at "s"
 rw[if_neg ok.ne]
 delta Z3A
 walk_at "s"
 rw[if_pos (by lia:(0:Int)≤(x.k:Int))]
 rw[if_neg (by lia:¬¬(x.k:Int)≤3)]
 delta Z3z
 walk_at "s"
 rw[if_pos (by lia:(1:Int)≤(x.st:Int))]
 rw[if_neg (by lia:¬¬(x.st:Int)≤3)]
 exact q
theorem ZbS{F:List Fer}{g:Fer->Str}:∀{c:List (Key×MV)},(F.map (·.name)).Nodup->(∀x∈F,valM c (Y1w x.name)=none)->∀x∈F,valM ((F.map λy=>((Y1w y.name:Key),MV.str (g y))).foldl (λc z=>putM c z.1 z.2) c) (Y1w x.name)=some (.str (g x)):=by
 have stay:∀(F:List Fer) (c:List (Key×MV)) (z:Str),(∀y∈F,y.name≠z)->valM ((F.map λy=>((Y1w y.name:Key),MV.str (g y))).foldl (λc z=>putM c z.1 z.2) c) (Y1w z)=valM c (Y1w z):=by
  intro F
  induction F with
  |nil=>intro c z _;rfl
  |cons y r ih=>
   intro c z h
   rw[Y0b,Y2c,ih _ _ (λy hy=>h y (Y0g _ hy)),Z51,if_neg (λe=>h y (Y0l ..) (Y3O e).symm)]
 induction F with
 |nil=>intro c _ _ x hx;cases hx
 |cons y r ih=>
  intro c nd h x hx
  rw[Y0b,Y1j]at nd
  rw[Y0b,Y2c]
  rcases Y0d.mp hx with rfl|hx
  ·rw[stay _ _ _ (λz hz e=>nd.1 (Y0o.mpr ⟨z,hz,e⟩)),Z51,if_pos rfl]
  ·refine ih nd.2 (λz hz=>?_) x hx
   rw[Z51,if_neg (λe=>nd.1 (Y0o.mpr ⟨z,hz,Y3O e⟩))]
   exact h z (Y0g _ hz)
noncomputable def dirK(F:List Fer)(g:Fer->Str):List (Key×MV):=Z75 (F.map λy=>((Y1w y.name:Key),MV.str (g y)))
theorem Zbw{F:List Fer}{g:Fer->Str}(nd:(F.map (·.name)).Nodup){x:Fer}(hx:x∈F):valM (dirK F g) (Y1w x.name)=some (.str (g x)):=ZbS nd (λ_ _=>rfl) x hx
noncomputable abbrev Z0u:SpM:=λvs M Q=>∃(z:Str) (S:Stp) (a b:Addr) (F:List Fer),vs=[.str z,S.mv,.ref a,.ref b]/\M a=some (.dic (dirK F (·.giver)))/\M b=some (.dic (dirK F (·.taker)))/\(F.map (·.name)).Nodup/\Zcp F z S/\(∀f,(∃x,S=.take f x)\/(∃U,S=.give f U)->f∈F.map (·.name))/\Q .non M
theorem Z1g:MonW Z0u:=by walk_at "m"
theorem Z4P(T:Txt K mg t):FnOk P w K mg base CX0 1 t.f_refuse_wrong_end t.d_refuse_wrong_end ["name","step","givers","takers"] (liSp K Z0u):=by
 refine T.q_refuse_wrong_end.F.okM Z4N (Z0L (Φ:=[]) (Z0M T) (Z0i T) rfl (λ_ h=>nomatch h) (λ_ h=>nomatch h):Fts P w K mg base 0 Z2p []) Z17 Z4Z (λvs M Q h=>?_) (λvs M Q h=>?_)
 ·obtain⟨z,S,a,b,F,rfl,_⟩:=h;rfl
 obtain⟨z,S,a,b,F,rfl,ha,hb,nd,hE,hF,q⟩:=h
 show wSs _ _ _ [some (.str z),some S.mv,some (.ref a),some (.ref b)] M
 delta Z17 Z24
 cases S with
 |take f x=>
  obtain⟨y,hy,rfl⟩:=Y0o.mp (hF f (.inl ⟨x,rfl⟩))
  have v:=Zbw (g:=(·.taker)) nd hy
  have e:=hE y hy rfl
  repeat (first|walk_at "s"|simp only[Zao,hb,v,e])
  delta Z0y
  repeat (first|walk_at "s"|simp only[Zao])
  exact q
 |give f U=>
  obtain⟨y,hy,rfl⟩:=Y0o.mp (hF f (.inr ⟨U,rfl⟩))
  have v:=Zbw (g:=(·.giver)) nd hy
  have e:=hE y hy rfl
  repeat (first|walk_at "s"|simp only[Zaq])
  delta Z0y
  repeat (first|walk_at "s"|simp only[Zaq,ha,v,e])
  exact q
 |put f U=>
  repeat (first|walk_at "s"|simp only[ZcF])
  delta Z0y
  repeat (first|walk_at "s"|simp only[ZcF])
  exact q
 |jump U i=>
  repeat (first|walk_at "s"|simp only[Zap])
  delta Z0y
  repeat (first|walk_at "s"|simp only[Zap])
  exact q
theorem Z8Y{fs ns:List Str}{n:Nat}{S:Stp}(h:Z9d fs ns n S):∀f,(∃x,S=.take f x)\/(∃U,S=.give f U)->f∈fs:=by
 rintro f (⟨x,rfl⟩|⟨U,rfl⟩)
 ·exact h.1
 ·exact h.1
noncomputable abbrev Z0m:SpM:=λvs M Q=>∃(p f:Addr) (ys:List MV) (Is:List Isl) (F:List Fer),vs=[.ref p,.ref f]/\M p=some (.lst ys)/\IslsIn M Is ys/\Is.length≤5/\M f=some (.lst (F.map Fer.mv))/\F.length≤6/\(F.map (·.name)).Nodup/\
 (∀I∈Is,I.stps.length≤12/\∀s∈I.stps,Zcp F I.name s/\∃ns n,Z9d (F.map (·.name)) ns n s)/\∀M',SameM M M'->Q .non M'
theorem Z19:MonW Z0m:=by walk_at "m"
theorem Z9O(F:List Fer)(g:Fer->Str):(F.map λx=>MV.tup [.str x.name,.str (g x)])=(F.map λy=>((Y1w y.name:Key),MV.str (g y))).map prM:=by rw[Y0R];rfl
theorem Z4c(T:Txt K mg t):FnOk P w K mg base CX0 2 t.f_refuse_wrong_ends t.d_refuse_wrong_ends ["islands","ferries"] (liSp K Z0m):=by
 refine T.q_refuse_wrong_ends.F.okM Z4b (Z0L (Φ:=[("refuse_wrong_end",Z0u)]) (Z0M T) (Z0i T) rfl (fMc ⟨Z1g,(fun _ h=>nomatch h)⟩) (fMc ⟨⟨_,_,_,(FnOk.mono (Z4P T) (by decide)),T.q_refuse_wrong_end.m,T.q_refuse_wrong_end.F.kp,T.q_refuse_wrong_end.b⟩,(fun _ h=>nomatch h)⟩):Fts P w K mg base 1 Z2i [("refuse_wrong_end",Z0u)]) Z0V Z4e (fun vs M Q h=>?_) (fun vs M Q h=>?_)
 ·obtain⟨p,f,ys,Is,F,rfl,_⟩:=h;rfl
 obtain⟨p,f,ys,Is,F,rfl,hp,hI,h5,hf,h6,nd,hE,q⟩:=h
 show wSs _ _ _ [some (.ref p),some (.ref f),none,none,none,none] M
 have hΦ:=(Z7U (Φ:=[("refuse_wrong_end",Z0u)]) (fMc ⟨Z1g,(fun _ h=>nomatch h)⟩))
 delta Z0V Z1R
 walk_at "s"
 refine Z1j F Fer.mv (λx=>.tup [.str x.name,.str x.giver]) ?_ ?_ hΦ λD hD=>?_
 ·repeat (first|walk_at "s"|simp only[hf])
  exact⟨rfl,by lia,hf⟩
 ·intro x hx M' s
  simp only[sCm,Y0b,Y0M,Y0r,Y0s,Y0B,Y0F]
  repeat (first|walk_at "s"|simp only[Fer.mv])
  try exact⟨rfl,rfl⟩
 rw[Z9O F (·.giver)]
 have s1:=SameM.new hD (.lst ((F.map λy=>((Y1w y.name:Key),MV.str y.giver)).map prM))
 have d1:updM M D (.lst ((F.map λy=>((Y1w y.name:Key),MV.str y.giver)).map prM)) D=some (.lst ((F.map λy=>((Y1w y.name:Key),MV.str y.giver)).map prM)):=Z02
 generalize updM M D _=M1 at*
 walk_at "s"
 refine⟨_,d1,λa ha=>?_⟩
 have s2:=s1.trans (SameM.new ha (.dic (dirK F (·.giver))))
 have ha2:updM M1 a (.dic (dirK F (·.giver))) a=some (.dic (dirK F (·.giver))):=Z02
 change wSs _ _ _ _ (updM M1 a (.dic (dirK F (·.giver))))
 generalize updM M1 a _=M2 at*
 have hf2:=s2 _ _ hf
 delta Z1Q
 walk_at "s"
 refine Z1j F Fer.mv (λx=>.tup [.str x.name,.str x.taker]) ?_ ?_ hΦ λD2 hD2=>?_
 ·repeat (first|walk_at "s"|simp only[hf2])
  exact⟨rfl,by lia,hf2⟩
 ·intro x hx M' s
  simp only[sCm,Y0b,Y0M,Y0r,Y0s,Y0B,Y0F]
  repeat (first|walk_at "s"|simp only[Fer.mv])
  try exact⟨rfl,rfl⟩
 rw[Z9O F (·.taker)]
 have s3:=SameM.new hD2 (.lst ((F.map λy=>((Y1w y.name:Key),MV.str y.taker)).map prM))
 have d3:updM M2 D2 (.lst ((F.map λy=>((Y1w y.name:Key),MV.str y.taker)).map prM)) D2=some (.lst ((F.map λy=>((Y1w y.name:Key),MV.str y.taker)).map prM)):=Z02
 generalize updM M2 D2 _=M3 at*
 walk_at "s"
 refine⟨_,d3,λb hb=>?_⟩
 have s4:=s3.trans (SameM.new hb (.dic (dirK F (·.taker))))
 have hb4:updM M3 b (.dic (dirK F (·.taker))) b=some (.dic (dirK F (·.taker))):=Z02
 change wSs _ _ _ _ (updM M3 b (.dic (dirK F (·.taker))))
 generalize updM M3 b _=M4 at*
 have ha4:=s4 _ _ ha2
 have s5:=s2.trans s4
 have hp4:=s5 _ _ hp
 have hI4:=hI.keep s5
 delta Z1P
 repeat (first|walk_at "s"|simp only[hp4])
 obtain⟨J,hJ⟩:∃J:Nat->Sm->MH->Prop,∀j σ M',J j σ M'↔M'=M4/\∃v v',σ=[some (.ref p),some (.ref f),some (.ref a),some (.ref b),v,v']:=⟨_,λ_ _ _=>Y1N⟩
 refine⟨J,(hJ _ _ _).mpr ⟨rfl,_,_,rfl⟩,λj σ M' h=>by rw[((hJ _ _ _).mp h).1];exact hp4,?_,?_⟩
 ·rintro j y σ M' hy h
  obtain⟨rfl,v,v',rfl⟩:=(hJ _ _ _).mp h
  obtain⟨I,hm,c,d,rfl,hc,hd⟩:=hI4.mem (Y0i hy)
  obtain⟨l12,hS⟩:=hE I hm
  delta Z1O
  repeat (first|walk_at "s"|simp only[hd])
  obtain⟨J2,hJ2⟩:∃J2:Nat->Sm->MH->Prop,∀j σ M,J2 j σ M↔M=M'/\∃v',σ=[some (.ref p),some (.ref f),some (.ref a),some (.ref b),some (.tup [.str I.name,.ref c,.ref d]),v']:=⟨_,λ_ _ _=>Y1N⟩
  refine⟨J2,(hJ2 _ _ _).mpr ⟨rfl,_,rfl⟩,λj σ M h=>by rw[((hJ2 _ _ _).mp h).1];exact hd,?_,?_⟩
  ·rintro i x σ M'' hx h2
   obtain⟨rfl,v',rfl⟩:=(hJ2 _ _ _).mp h2
   obtain⟨hi,rfl⟩:=Z0F hx
   have hi:i<I.stps.length:=hi
   obtain⟨e1,ns,n,e2⟩:=hS _ (Y0p hi)
   delta Z1N
   walk_at "s"
   refine⟨I.name,I.stps[i],a,b,F,rfl,ha4,hb4,nd,e1,Z8Y e2,?_⟩
   walk_at "s"
   exact(hJ2 _ _ _).mpr ⟨rfl,_,rfl⟩
  ·rintro σ M'' h2
   obtain⟨rfl,v',rfl⟩:=(hJ2 _ _ _).mp h2
   try walk_at "s"
   exact(hJ _ _ _).mpr ⟨rfl,_,_,rfl⟩
 ·rintro σ M' h
  obtain⟨rfl,_⟩:=(hJ _ _ _).mp h
  exact q _ s5
theorem FroD.up{M:MH}:∀{n:Nat} {v v':MV},FroD n M v v'->FroD (n+1) M v v'
 |0,_,_,h=>.inl h
 |n+1,v,v',h=>by
  rcases h with h|⟨ps,h1,h2,h3,h4⟩
  ·exact .inl h
  ·exact .inr ⟨ps,h1,h2,h3,λp hp=>(h4 p hp).up⟩
theorem FroD.to{M:MH}{n m:Nat}{v v':MV}(h:FroD n M v v')(l:n≤m):FroD m M v v':=by
 obtain⟨d,rfl⟩:∃d,m=n+d:=⟨m - n,by lia⟩
 clear l
 induction d with
 |zero=>exact h
 |succ d ih=>exact ih.up
theorem fro_str{M:MH}{z:Str}:FroD 0 M (.str z) (.str z):=⟨.inr ⟨z,rfl⟩,rfl⟩
theorem fro_int{M:MH}{i:Int}:FroD 0 M (.int i) (.int i):=⟨.inl ⟨i,rfl⟩,rfl⟩
theorem Z2w{M:MH}{n:Nat}{xs:List MV}(l:xs.length≤1000)(h:∀x∈xs,FroD n M x x):FroD (n+1) M (.tup xs) (.tup xs):=by
 have e1:(xs.map λx=>(x,x)).map (·.1)=xs:=by rw[Y0R];exact Y3n xs
 have e2:(xs.map λx=>(x,x)).map (·.2)=xs:=by rw[Y0R];exact Y3n xs
 refine .inr ⟨xs.map λx=>(x,x),.inl (by rw[e1]),by rw[e2],by rw[Y03];exact l,λp hp=>?_⟩
 obtain⟨x,hx,rfl⟩:=Y0o.mp hp
 exact h x hx
theorem ZaT{M:MH}{n:Nat}{a:Addr}{xs:List MV}(e:M a=some (.lst xs))(l:xs.length≤1000)(h:∀x∈xs,FroD n M x x):FroD (n+1) M (.ref a) (.tup xs):=by
 have e1:(xs.map λx=>(x,x)).map (·.1)=xs:=by rw[Y0R];exact Y3n xs
 have e2:(xs.map λx=>(x,x)).map (·.2)=xs:=by rw[Y0R];exact Y3n xs
 refine .inr ⟨xs.map λx=>(x,x),.inr ⟨a,rfl,by rw[e1];exact e⟩,by rw[e2],by rw[Y03];exact l,λp hp=>?_⟩
 obtain⟨x,hx,rfl⟩:=Y0o.mp hp
 exact h x hx
theorem Z6a{M:MH}:∀U:Tm,FroD U.depth M U.mv U.mv
 |.num n=>Z2w (xs:=[.str "num",.int n]) (by simp) (by
   intro x hx
   simp only[Y0d,Y0q,or_false]at hx
   rcases hx with rfl|rfl
   ·exact fro_str
   ·exact fro_int)
 |.var z=>Z2w (xs:=[.str "var",.str z]) (by simp) (by
   intro x hx
   simp only[Y0d,Y0q,or_false]at hx
   rcases hx with rfl|rfl
   ·exact fro_str
   ·exact fro_str)
 |.two f a b=>by
  have ha:=Z6a (M:=M) a
  have hb:=Z6a (M:=M) b
  show FroD (1+max a.depth b.depth) M (.tup [.str f.str,a.mv,b.mv]) (.tup [.str f.str,a.mv,b.mv])
  rw[Nat.add_comm]
  refine Z2w (by simp) λx hx=>?_
  simp only[Y0d,Y0q,or_false]at hx
  rcases hx with rfl|rfl|rfl
  ·exact fro_str.to (Y1t _)
  ·exact ha.to (by lia)
  ·exact hb.to (by lia)
 |.pick c a b=>by
  have hc:=Z6a (M:=M) c
  have ha:=Z6a (M:=M) a
  have hb:=Z6a (M:=M) b
  show FroD (1+max c.depth (max a.depth b.depth)) M (.tup [.str "pick",c.mv,a.mv,b.mv]) (.tup [.str "pick",c.mv,a.mv,b.mv])
  rw[Nat.add_comm]
  refine Z2w (by simp) λx hx=>?_
  simp only[Y0d,Y0q,or_false]at hx
  rcases hx with rfl|rfl|rfl|rfl
  ·exact fro_str.to (Y1t _)
  ·exact hc.to (by lia)
  ·exact ha.to (by lia)
  ·exact hb.to (by lia)
theorem Zgu{M:MH}{fs ns:List Str}{n:Nat}{S:Stp}(h:Z9d fs ns n S):FroD 9 M S.mv S.mv:=by
 cases S with
 |take f x=>
  refine Z2w (xs:=[.str "take",.str f,.str x]) (by simp) fun v hv=>?_
  simp only[Y0d,Y0q,or_false]at hv
  rcases hv with rfl|rfl|rfl<;>exact fro_str.to (by decide)
 |give f U=>
  refine Z2w (xs:=[.str "give",.str f,U.mv]) (by simp) fun v hv=>?_
  simp only[Y0d,Y0q,or_false]at hv
  rcases hv with rfl|rfl|rfl
  ·exact fro_str.to (by decide)
  ·exact fro_str.to (by decide)
  ·exact(Z6a U).to h.2.1
 |put f U=>
  refine Z2w (xs:=[.str "put",.str f,U.mv]) (by simp) fun v hv=>?_
  simp only[Y0d,Y0q,or_false]at hv
  rcases hv with rfl|rfl|rfl
  ·exact fro_str.to (by decide)
  ·exact fro_str.to (by decide)
  ·exact(Z6a U).to h.2.1
 |jump U i=>
  refine Z2w (xs:=[.str "jump",U.mv,.int i]) (by simp) fun v hv=>?_
  simp only[Y0d,Y0q,or_false]at hv
  rcases hv with rfl|rfl|rfl
  ·exact fro_str.to (by decide)
  ·exact(Z6a U).to h.1.1
  ·exact fro_int.to (by decide)
theorem Zhq{M:MH}{k:Nat}{fs:List Str}{I:Isl}{y:MV}(ok:IslOk k fs I)(h:IslIn M I y):FroD 11 M y I.mv:=by
 obtain⟨a,b,rfl,ha,hb⟩:=h
 have l1:=ok.nv
 have l2:=ok.ns
 refine .inr ⟨[(.str I.name,.str I.name),(.ref a,.tup (I.prs.map prV)),(.ref b,.tup (I.stps.map Stp.mv))],.inl rfl,rfl,by simp,λp hp=>?_⟩
 simp only[Y0d,Y0q,or_false]at hp
 rcases hp with rfl|rfl|rfl
 ·exact fro_str.to (by decide)
 ·refine ZaT ha (by rw[Y03];lia) λx hx=>?_
  obtain⟨q,_,rfl⟩:=Y0o.mp hx
  refine(Z2w (n:=0) (xs:=[.str q.1,.int q.2]) (by simp) λv hv=>?_).to (by decide)
  simp only[Y0d,Y0q,or_false]at hv
  rcases hv with rfl|rfl
  ·exact fro_str
  ·exact fro_int
 ·refine ZaT hb (by rw[Y03];lia) λx hx=>?_
  obtain⟨S,hS,rfl⟩:=Y0o.mp hx
  exact Zgu (ok.st S hS)
theorem ZhL{M:MH}(f:Fer):FroD 1 M f.mv f.mv:=by
 refine Z2w (xs:=[.str f.name,.str f.giver,.str f.taker,.int f.k,.int f.st]) (by simp) λv hv=>?_
 simp only[Y0d,Y0q,or_false]at hv
 rcases hv with rfl|rfl|rfl|rfl|rfl
 ·exact fro_str
 ·exact fro_str
 ·exact fro_str
 ·exact fro_int
 ·exact fro_int
theorem Zf2{M:MH}{k:Nat}{fs:List Str}{Is:List Isl}{ys:List MV}{p:Addr}(hp:M p=some (.lst ys))(h:IslsIn M Is ys)(l:Is.length≤5)(ok:∀I∈Is,IslOk k fs I):FroD 12 M (.ref p) (.tup (Is.map Isl.mv)):=by
 have hl:=h.1
 have e1:(ys.zip (Is.map Isl.mv)).map (·.1)=ys:=List.map_fst_zip (by rw[Y03];lia)
 have e2:(ys.zip (Is.map Isl.mv)).map (·.2)=Is.map Isl.mv:=List.map_snd_zip (by rw[Y03];lia)
 refine .inr ⟨ys.zip (Is.map Isl.mv),.inr ⟨p,rfl,by rw[e1];exact hp⟩,by rw[e2],by rw[Y3o,Y03];lia,λq hq=>?_⟩
 obtain⟨i,hi,rfl⟩:=Y0U hq
 rw[Y3o,Y03]at hi
 have hi1:i<ys.length:=by lia
 have hi2:i<Is.length:=by lia
 rw[List.getElem_zip,Y31]
 exact Zhq (ok _ (Y0p hi2)) (h.2 i _ _ (Y01 hi2) (Y01 hi1))
noncomputable def fstM:MV->MV
 |.tup (x::_)=>x
 |v=>v
noncomputable abbrev Z2T:SpM:=λvs M Q=>∃(p f:Addr) (ys:List MV) (W:Wld),vs=[.int W.w,.ref p,.ref f]/\M p=some (.lst ys)/\IslsIn M W.isl ys/\M f=some (.lst (W.fer.map Fer.mv))/\W.Good/\∀M',SameM M M'->Q W.mv M'
theorem Z4R:MonW Z2T:=by walk_at "m"
theorem Zh2(T:Txt K mg t):FnOk P w K mg base CX0 56 t.f_made t.d_made ["width","islands","ferries"] (liSp K Z2T):=by
 refine T.q_made.F.okM Zgw (Z0L (Φ:=[("frozen",(Z0H 13)),("is_width",Z1V),("refuse_ferry",Z0N),("refuse_ferry_names",Z0k),("refuse_islands",Z0G),("refuse_wrong_ends",Z0m)]) (Z0M T) (Z0i T) rfl (fMc ⟨(Z1T _),(fMc ⟨Z3v,(fMc ⟨Z21,(fMc ⟨Z12,(fMc ⟨Z1E,(fMc ⟨Z19,(fun _ h=>nomatch h)⟩)⟩)⟩)⟩)⟩)⟩) (fMc ⟨⟨_,_,_,FnOk.mono (Z9x T 13) (by decide),T.q_frozen.m,T.q_frozen.F.kp,T.q_frozen.b⟩,(fMc ⟨⟨_,_,_,FnOk.mono (Zaz T) (by decide),T.q_is_width.m,T.q_is_width.F.kp,T.q_is_width.b⟩,(fMc ⟨⟨_,_,_,FnOk.mono (Z79 T) (by decide),T.q_refuse_ferry.m,T.q_refuse_ferry.F.kp,T.q_refuse_ferry.b⟩,(fMc ⟨⟨_,_,_,FnOk.mono (Z3s T) (by decide),T.q_refuse_ferry_names.m,T.q_refuse_ferry_names.F.kp,T.q_refuse_ferry_names.b⟩,(fMc ⟨⟨_,_,_,FnOk.mono (Z5W T) (by decide),T.q_refuse_islands.m,T.q_refuse_islands.F.kp,T.q_refuse_islands.b⟩,(fMc ⟨⟨_,_,_,FnOk.mono (Z4c T) (by decide),T.q_refuse_wrong_ends.m,T.q_refuse_wrong_ends.F.kp,T.q_refuse_wrong_ends.b⟩,(fun _ h=>nomatch h)⟩)⟩)⟩)⟩)⟩)⟩):Fts P w K mg base 55 Zgl [("frozen",(Z0H 13)),("is_width",Z1V),("refuse_ferry",Z0N),("refuse_ferry_names",Z0k),("refuse_islands",Z0G),("refuse_wrong_ends",Z0m)]) ZaJ ZhQ (fun vs M Q h=>?_) (fun vs M Q h=>?_)
 ·obtain⟨p,f,ys,W,rfl,_⟩:=h;rfl
 obtain⟨p,f,ys,W,rfl,hp,hI,hf,G,q⟩:=h
 have hΦ:=Z7U (Φ:=[("frozen",Z0H 13),("is_width",Z1V),("refuse_ferry",Z0N),("refuse_ferry_names",Z0k),("refuse_islands",Z0G),("refuse_wrong_ends",Z0m)]) (fMc ⟨Z1T 13,fMc ⟨Z3v,fMc ⟨Z21,fMc ⟨Z12,fMc ⟨Z1E,fMc ⟨Z19,fun _ h=>nomatch h⟩⟩⟩⟩⟩⟩)
 show wSs _ _ _ [some (.int W.w),some (.ref p),some (.ref f),none,none] M
 have w1:=G.w1
 have w2:=G.w2
 have i5:=G.i5
 have f6:=G.f6
 have hl:=hI.1
 have nd:=Y1g.mp G.nd
 delta ZaJ ZdC
 walk_at "s"
 refine⟨W.w,rfl,by lia,by lia,?_⟩
 walk_at "s"
 delta ZdB
 repeat (first|walk_at "s"|simp only[hp])
 refine Z2j (λz=>by lia) (λ_=>?_)
 delta ZdA
 repeat (first|walk_at "s"|simp only[hf,Y03])
 refine Z2j (λz=>by lia) (λ_=>?_)
 delta Zdz
 walk_at "s"
 refine⟨f,W.fer,rfl,hf,f6,nd.1,λx hx=>G.fg _ (Y0o.mpr ⟨x,hx,rfl⟩),λM1 s1=>?_⟩
 walk_at "s"
 have hf1:=s1 _ _ hf
 delta Zdy
 walk_at "s"
 refine Z1j W.fer Fer.mv (λx=>.str x.name) ?_ ?_ hΦ λD hD=>?_
 ·repeat (first|walk_at "s"|simp only[hf1])
  exact⟨rfl,by lia,hf1⟩
 ·intro x hx M' s
  simp only[sCm,Y0b,Y0M,Y0r,Y0s,Y0B,Y0F]
  repeat (first|walk_at "s"|simp only[Fer.mv])
  try exact⟨rfl,rfl⟩
 have eF:(W.fer.map λx=>MV.str x.name)=W.fns.map MV.str:=by unfold Wld.fns;rw[Y0R];rfl
 rw[eF]
 have s2:=s1.trans (SameM.new hD (.lst (W.fns.map MV.str)))
 have hD2:updM M1 D (.lst (W.fns.map MV.str)) D=some (.lst (W.fns.map MV.str)):=Z02
 generalize updM M1 D _=M2 at*
 try walk_at "s"
 refine⟨W.w,p,D,W.isl,ys,W.fns,rfl,w2,s2 _ _ hp,hI.keep s2,i5,by unfold Wld.fns;rw[Y03];exact f6,hD2,G.nd,λI hi=>G.ig _ (Y0o.mpr ⟨I,hi,rfl⟩),G.io,λM3 s3=>?_⟩
 have s4:=s2.trans s3
 have hp3:=s4 _ _ hp
 have hf3:=s4 _ _ hf
 have hI3:=hI.keep s4
 walk_at "s"
 delta Zdx
 walk_at "s"
 refine Z1j ys (λy=>y) fstM ?_ ?_ hΦ λD hD=>?_
 ·repeat (first|walk_at "s"|simp only[hp3])
  exact⟨by simp[Src.items],by lia,hp3⟩
 ·intro y hy M' s
  obtain⟨I,_,a,b,rfl,_⟩:=hI3.mem hy
  simp only[sCm,Y0b,Y0M,Y0r,Y0s,Y0B,Y0F]
  walk_at "s"
  rfl
 have eI:ys.map fstM=W.ins.map MV.str:=hI.fst λz r=>rfl
 rw[eI]
 have s5:=s4.trans (SameM.new hD (.lst (W.ins.map MV.str)))
 have hD5:updM M3 D (.lst (W.ins.map MV.str)) D=some (.lst (W.ins.map MV.str)):=Z02
 generalize updM M3 D _=M5 at*
 have hf5:=s5 _ _ hf
 delta Zdw
 repeat (first|walk_at "s"|simp only[hf5])
 obtain⟨J,hJ⟩:∃J:Nat->Sm->MH->Prop,∀j σ M',J j σ M'↔M'=M5/\∃v,σ=[some (.int W.w),some (.ref p),some (.ref f),some (.ref D),v]:=⟨_,λ_ _ _=>Y1N⟩
 refine⟨J,(hJ _ _ _).mpr ⟨rfl,_,rfl⟩,λj σ M' h=>by rw[((hJ _ _ _).mp h).1];exact hf5,?_,?_⟩
 ·rintro j y σ M' hy h
  obtain⟨rfl,v,rfl⟩:=(hJ _ _ _).mp h
  obtain⟨hj,rfl⟩:=Z0F hy
  have hj:j<W.fer.length:=hj
  delta Zbp
  walk_at "s"
  refine⟨W.fer[j],D,W.ins,rfl,hD5,G.fo _ (Y0p hj),?_⟩
  walk_at "s"
  exact(hJ _ _ _).mpr ⟨rfl,_,rfl⟩
 ·rintro σ M' h
  obtain⟨rfl,v,rfl⟩:=(hJ _ _ _).mp h
  delta Zbo
  walk_at "s"
  refine⟨p,f,ys,W.isl,W.fer,rfl,s5 _ _ hp,hI.keep s5,i5,hf5,f6,nd.1,λI hi=>⟨(G.io I hi).ns,λS hS=>⟨G.en I hi S hS,_,_,(G.io I hi).st S hS⟩⟩,λM6 s6=>?_⟩
  have s7:=s5.trans s6
  walk_at "s"
  delta Zbn
  walk_at "s"
  refine⟨_,W.mv,rfl,?_,λM' s'=>q M' (s7.trans s')⟩
  refine .inr ⟨[(.int W.w,.int W.w),(.ref p,.tup (W.isl.map Isl.mv)),(.ref f,.tup (W.fer.map Fer.mv))],.inl rfl,rfl,by simp,λz hz=>?_⟩
  simp only[Y0d,Y0q,or_false]at hz
  rcases hz with rfl|rfl|rfl
  ·exact fro_int.to (by decide)
  ·exact Zf2 (s7 _ _ hp) (hI.keep s7) i5 G.io
  ·refine(ZaT (n:=1) (s7 _ _ hf) (by rw[Y03];lia) λx hx=>?_).to (by decide)
   obtain⟨y,_,rfl⟩:=Y0o.mp hx
   exact ZhL y
noncomputable def SrcFrom(S:Src)(M M1:MH):Prop:=(S.okF M1/\M1=M)\/∃a o kvs,S=.dic a o kvs/\M a=some (.dic kvs)/\M1=updM M a (.fdic o kvs)
theorem SrcFrom.free{S:Src}{M M1:MH}(h:SrcFrom S M M1){p:Addr}(hp:M1 p=none):M p=none:=by
 rcases h with⟨_,rfl⟩|⟨a,o,kvs,_,h1,rfl⟩
 ·exact hp
 ·by_cases e:p=a
  ·subst e;rw[Z02]at hp;cases hp
  ·rwa [Z0j e]at hp
theorem SrcFrom.ok{S:Src}{M M1 M2:MH}(h:SrcFrom S M M1)(s:SameM M1 M2):S.ok M2:=by
 rcases h with⟨h1,rfl⟩|⟨a,o,kvs,rfl,h1,rfl⟩
 ·cases S with
  |tup _=>trivial
  |rng _ _=>trivial
  |rst _ _ _=>trivial
  |dic _ _ _=>exact h1.elim
  |str _=>trivial
  |lst a zs=>exact s _ _ h1
 ·exact s _ _ Z02
theorem Z3Y{Φ:List (Str×SpM)}{own:List Str}{fr:List Nat}{src:ISr}{tg:ITg}{test elt:IE}{σ:Sm}{M:MH}{Q:QM}{α:Type}(xs:List α)(f g:α->MV)(b:α->Bool)
  (hs:wSr Φ src σ M λS M1=>S.items=xs.map f/\xs.length<sizeLine/\S.okF M1/\M1=M)
  (ht:∀x∈xs,∀M',SameM M M'->wTg tg (f x) (sCm own fr σ) λσ2=>wE Φ test σ2 M' λv M2=>v=.bl (b x)/\M2=M'/\(b x=true->wE Φ elt σ2 M' λy M2=>y=g x/\M2=M'))
  (hΦ:∀(j:Nat) f sp,Φ[j]?=some (f,sp)->MonW sp) (q:∀D,M D=none->Q (.ref D) (updM M D (.lst ((xs.filter b).map g)))):wE Φ (.comp own fr src tg (.some test) elt) σ M Q:=by
 rw[Zbv]
 refine mon_sr hΦ src (λS M1 ⟨h1,h2,h3,h4⟩=>?_) hs
 subst h4
 have hl:S.len=xs.length:=by rw[<- S.items_len,h1,Y03]
 refine⟨by rw[hl];exact h2,λD hD=>⟨λi ys M2=>M2=updM M1 D (.lst ys)/\ys=((xs.take i).filter b).map g,⟨rfl,by simp⟩,?_,?_,?_⟩⟩
 ·rintro i ys M2 ⟨rfl,rfl⟩
  refine⟨Z02,?_,?_⟩
  ·rw[Y03]
   have h1:=List.length_filter_le b (xs.take i)
   rw[Y0A]at h1
   lia
  cases S with
  |tup _=>trivial
  |rng _ _=>trivial
  |rst _ _ _=>trivial
  |dic _ _ _=>exact h3.elim
  |str _=>trivial
  |lst a zs=>exact SameM.new hD _ _ _ h3
 ·rintro i x ys M2 hx ⟨rfl,rfl⟩
  rw[h1]at hx
  obtain⟨hi,rfl⟩:=Z0F hx
  refine Z7f tg (λσ2 h=>?_) (ht xs[i] (Y0p hi) _ (SameM.new hD (.lst (((xs.take i).filter b).map g))))
  rw[wI]
  refine Z04 hΦ test (λv M2 ⟨e1,e2,e3⟩=>?_) h
  subst e1 e2
  have et:xs.take (i+1)=xs.take i++[xs[i]]:=by rw[Y1h,Y01 hi];rfl
  refine⟨b xs[i],rfl,?_⟩
  by_cases hb:b xs[i]=true
  ·rw[if_pos hb]
   refine Z04 hΦ elt (λy M2 ⟨e1,e2⟩=>?_) (e3 hb)
   subst e1 e2
   refine⟨Z02,Z9h,?_⟩
   rw[et,List.filter_append,Y11,List.filter_cons_of_pos hb]
   rfl
  ·rw[if_neg hb]
   refine⟨rfl,?_⟩
   rw[et,List.filter_append,Y11,List.filter_cons_of_neg hb]
   simp
 ·rintro ys M2 ⟨rfl,rfl⟩
  rw[hl,Y0X (Y07 _),Zb8 h3]
  exact q D hD
theorem Wld.Good.in_nd{W:Wld}(G:W.Good):W.ins.Nodup:=(Y1g.mp G.nd).2.1
theorem Wld.Good.fn_nd{W:Wld}(G:W.Good):W.fns.Nodup:=(Y1g.mp G.nd).1
theorem Wld.Good.no_isl{W:Wld}(G:W.Good){z:Str}(h:z∈W.fns):z∉W.ins:=λh'=>(Y1g.mp G.nd).2.2 z h z h' rfl
theorem Wld.Good.no_fer{W:Wld}(G:W.Good){z:Str}(h:z∈W.ins):z∉W.fns:=λh'=>(Y1g.mp G.nd).2.2 z h' z h rfl
theorem Zbm{W:Wld}{i:Nat}{I:Isl}(h:W.isl[i]?=some I):W.ins[i]?=some I.name:=by unfold Wld.ins;rw[Y06,h];rfl
theorem Zbu{W:Wld}{i:Nat}{f:Fer}(h:W.fer[i]?=some f):W.fns[i]?=some f.name:=by unfold Wld.fns;rw[Y06,h];rfl
noncomputable abbrev Z0T:SpX:=λvs M Q X=>∃(ns:List Str) (ys:List MV) (z:Str),vs=[.tup ys,.str z]/\ShortT z/\(∀(j:Nat) u,ys[j]?=some u->∃x r,u=.tup (.str x::r)/\ns[j]?=some x)/\ns.Nodup/\ns.length=ys.length/\
 (∀(i:Nat) y,ns[i]?=some z->ys[i]?=some y->Q y M)/\(z∉ns->X "Unknown" M)
theorem Z2C:MonX Z0T:=by
 rintro vs M Q Q' X X' hq hx ⟨ns,ys,z,e,a,b,c,d,f,g⟩
 exact⟨ns,ys,z,e,a,b,c,d,λi y h1 h2=>hq _ _ (f i y h1 h2),λh=>hx _ _ (g h)⟩
theorem Z59(T:Txt K mg t):FnOk P w K mg base (CX1 P w) 1 t.f_one_called t.d_one_called ["row","name"] (Z7V K Z0T):=by
 refine T.q_one_called.F.okX (G:=Z6D) Z8J (Z0L (Φ:=[]) (Z0M T) (Z0i T) rfl (λ_ h=>nomatch h) (λ_ h=>nomatch h):Fts P w K mg base 0 Z6E []) (ZeV (Ψ:=[]) rfl (λ_ h=>nomatch h) (λ_ h=>nomatch h):FtX P w K mg base 0 [] []) T.ex Z2V Z95 (λvs M Q X h=>?_) (λvs M Q X h=>?_)
 ·obtain⟨_,_,_,rfl,_⟩:=h;rfl
 obtain⟨ns,ys,z,rfl,sz,ha,nd,hl,q1,q2⟩:=h
 show wXs _ _ _ _ _ [some (.tup ys),some (.str z),none] M
 delta Z2V Z5h
 walk_at "s"
 obtain⟨J,hJ⟩:∃J:Nat->Sm->MH->Prop,∀j σ M',J j σ M'↔M'=M/\(∀i,i<j->ns[i]?≠some z)/\∃v,σ=[some (.tup ys),some (.str z),v]:=⟨_,λ_ _ _=>Y1N⟩
 refine⟨J,(hJ _ _ _).mpr ⟨rfl,λi h=>absurd h (Y3e _),_,rfl⟩,λj σ M' h=>trivial,?_,?_⟩
 ·rintro j u σ M' hu h
  obtain⟨rfl,hj,v,rfl⟩:=(hJ _ _ _).mp h
  have hu:ys[j]?=some u:=hu
  obtain⟨x,r,rfl,hx⟩:=ha j u hu
  delta Z5g
  walk_at "s"
  refine Z2j (λe=>?_) (λe=>?_)
  ·subst e
   delta Z5f
   walk_at "s"
   exact q1 j _ hx hu
  ·refine(hJ _ _ _).mpr ⟨rfl,λi hi=>?_,_,rfl⟩
   rcases Nat.lt_succ_iff_lt_or_eq.mp hi with l|l
   ·exact hj i l
   ·subst l
    rw[hx]
    exact λe'=>e (Y0C e')
 ·rintro σ M' h
  obtain⟨rfl,hj,v,rfl⟩:=(hJ _ _ _).mp h
  delta Z5e
  walk_at "s"
  refine⟨sz,q2 λhz=>?_⟩
  obtain⟨i,hi,e⟩:=Y0U hz
  exact hj i (by show i<ys.length;omega) (by rw[Y01 hi,e])
noncomputable abbrev Z2l:SpX:=fun vs M Q X=>∃(W:Wld) (z:Str),vs=[W.mv,.str z]/\W.Good/\ShortT z/\(∀(i:Nat) I,W.isl[i]?=some I->I.name=z->Q I.mv M)/\(z∉W.ins->X "Unknown" M)
theorem Z6L:MonX Z2l:=by
 rintro vs M Q Q' X X' hq hx ⟨W,z,e,a,b,f,g⟩
 exact⟨W,z,e,a,b,λi y h1 h2=>hq _ _ (f i y h1 h2),λh=>hx _ _ (g h)⟩
theorem Z6d(T:Txt K mg t):FnOk P w K mg base (CX1 P w) 2 t.f_island_of t.d_island_of ["world","name"] (Z7V K Z2l):=by
 refine T.q_island_of.F.okX (G:=Z7F) Z9l (Z0L (Φ:=[]) (Z0M T) (Z0i T) rfl (fun _ h=>nomatch h) (fun _ h=>nomatch h):Fts P w K mg base 1 Z7H []) (ZeV (Ψ:=[("one_called",Z0T)]) rfl (fMc ⟨Z2C,(fun _ h=>nomatch h)⟩) (fMc ⟨⟨_,_,_,(FnOk.mono (Z59 T) (by decide)),T.q_one_called.m,T.q_one_called.F.kp,T.q_one_called.b⟩,(fun _ h=>nomatch h)⟩):FtX P w K mg base 1 ["one_called"] [("one_called",Z0T)]) T.ex Z3E Z9W (fun vs M Q X h=>?_) (fun vs M Q X h=>?_)
 ·obtain⟨_,_,rfl,_⟩:=h;rfl
 obtain⟨W,z,rfl,G,sz,q1,q2⟩:=h
 show wXs _ _ _ _ _ [some W.mv,some (.str z)] M
 delta Z3E Z6h;rw[Wld.mv]
 walk_at "s"
 refine⟨W.ins,W.isl.map Isl.mv,z,rfl,sz,λj u hu=>?_,G.in_nd,by unfold Wld.ins;rw[Y03,Y03],λi y h1 h2=>?_,q2⟩
 ·obtain⟨hj,rfl⟩:=Z0F hu
  exact⟨_,_,rfl,Zbm (Y01 hj)⟩
 ·obtain⟨hj,rfl⟩:=Z0F h2
  have e:=Y01 hj
  rw[Zbm e]at h1
  exact q1 i _ e (Y0C h1)
noncomputable abbrev Z2U:SpX:=fun vs M Q X=>∃(W:Wld) (z:Str),vs=[W.mv,.str z]/\W.Good/\ShortT z/\(∀(i:Nat) f,W.fer[i]?=some f->f.name=z->Q f.mv M)/\(z∉W.fns->X "Unknown" M)
theorem Z7g:MonX Z2U:=by
 rintro vs M Q Q' X X' hq hx ⟨W,z,e,a,b,f,g⟩
 exact⟨W,z,e,a,b,λi y h1 h2=>hq _ _ (f i y h1 h2),λh=>hx _ _ (g h)⟩
theorem Z7b(T:Txt K mg t):FnOk P w K mg base (CX1 P w) 2 t.f_ferry_of t.d_ferry_of ["world","name"] (Z7V K Z2U):=by
 refine T.q_ferry_of.F.okX (G:=Z8y) Zau (Z0L (Φ:=[]) (Z0M T) (Z0i T) rfl (fun _ h=>nomatch h) (fun _ h=>nomatch h):Fts P w K mg base 1 Z8B []) (ZeV (Ψ:=[("one_called",Z0T)]) rfl (fMc ⟨Z2C,(fun _ h=>nomatch h)⟩) (fMc ⟨⟨_,_,_,(FnOk.mono (Z59 T) (by decide)),T.q_one_called.m,T.q_one_called.F.kp,T.q_one_called.b⟩,(fun _ h=>nomatch h)⟩):FtX P w K mg base 1 ["one_called"] [("one_called",Z0T)]) T.ex Z4X ZaZ (fun vs M Q X h=>?_) (fun vs M Q X h=>?_)
 ·obtain⟨_,_,rfl,_⟩:=h;rfl
 obtain⟨W,z,rfl,G,sz,q1,q2⟩:=h
 show wXs _ _ _ _ _ [some W.mv,some (.str z)] M
 delta Z4X Z7u;rw[Wld.mv]
 walk_at "s"
 refine⟨W.fns,W.fer.map Fer.mv,z,rfl,sz,λj u hu=>?_,G.fn_nd,by unfold Wld.fns;rw[Y03,Y03],λi y h1 h2=>?_,q2⟩
 ·obtain⟨hj,rfl⟩:=Z0F hu
  exact⟨_,_,rfl,Zbu (Y01 hj)⟩
 ·obtain⟨hj,rfl⟩:=Z0F h2
  have e:=Y01 hj
  rw[Zbu e]at h1
  exact q1 i _ e (Y0C h1)
noncomputable abbrev Z0q:SpM:=λvs M Q=>∃(W:Wld) (i:Nat) (I:Isl),vs=[W.mv,.str I.name]/\W.Good/\ShortT I.name/\W.isl[i]?=some I/\Q I.mv M
theorem Z1r:MonW Z0q:=by walk_at "m"
theorem Zgk{α:Type}{f:α->Str}{xs:List α}(nd:(xs.map f).Nodup){i j:Nat}{a b:α}(h:xs[i]?=some a) (h':xs[j]?=some b) (e:f b=f a):b=a:=by
 have h1:(xs.map f)[i]?=some (f a):=by rw[Y06,h];rfl
 have h2:(xs.map f)[j]?=some (f a):=by rw[Y06,h',<- e];rfl
 have:=(Y1W (Y08.mp h1).1 nd).mp (h1.trans h2.symm)
 subst this
 rw[h]at h'
 exact(Y0C h').symm
theorem Z8W(T:Txt K mg t):FnOk P w K mg base CX0 2 t.f_island_of t.d_island_of ["world","name"] (liSp K Z0q):=by
 refine Zbh (Z6d T) λvs M Q X ⟨W,i,I,e,G,sz,hI,q⟩=>⟨W,I.name,e,G,sz,λj J hJ en=>?_,λh=>absurd (Y0i (Zbm hI)) h⟩
 have:J=I:=Zgk (f:=Isl.name) G.in_nd hI hJ en
 subst this
 exact q
noncomputable abbrev Z0B:SpM:=λvs M Q=>∃(W:Wld) (i:Nat) (f:Fer),vs=[W.mv,.str f.name]/\W.Good/\ShortT f.name/\W.fer[i]?=some f/\Q f.mv M
theorem Z1L:MonW Z0B:=by walk_at "m"
theorem Z9A(T:Txt K mg t):FnOk P w K mg base CX0 2 t.f_ferry_of t.d_ferry_of ["world","name"] (liSp K Z0B):=by
 refine Zbh (Z7b T) λvs M Q X ⟨W,i,I,e,G,sz,hI,q⟩=>⟨W,I.name,e,G,sz,λj J hJ en=>?_,λh=>absurd (Y0i (Zbu hI)) h⟩
 have:J=I:=Zgk (f:=Fer.name) G.fn_nd hI hJ en
 subst this
 exact q
noncomputable abbrev Z0d:SpM:=λvs M Q=>∃(W:Wld) (x y:Str),vs=[W.mv,.str x,.str y]/\W.Good/\ShortT x/\ShortT y/\x∈W.ins/\y∈W.fns/\Q (.bl true) M
theorem Z15:MonW Z0d:=by walk_at "m"
theorem Z7c(T:Txt K mg t):FnOk P w K mg base CX0 3 t.f__law_refused t.d__law_refused ["world","island","ferry"] (liSp K Z0d):=by
 refine T.q__law_refused.F.okT (G:=Z4H) Z72 (Z0L (Φ:=[]) (Z0M T) (Z0i T) rfl (fun _ h=>nomatch h) (fun _ h=>nomatch h):Fts P w K mg base 2 Z4K []) (ZeV (Ψ:=[("ferry_of",Z2U),("island_of",Z2l)]) rfl (fMc ⟨Z7g,(fMc ⟨Z6L,(fun _ h=>nomatch h)⟩)⟩) (fMc ⟨⟨_,_,_,(FnOk.mono (Z7b T) (by decide)),T.q_ferry_of.m,T.q_ferry_of.F.kp,T.q_ferry_of.b⟩,(fMc ⟨⟨_,_,_,(FnOk.mono (Z6d T) (by decide)),T.q_island_of.m,T.q_island_of.F.kp,T.q_island_of.b⟩,(fun _ h=>nomatch h)⟩)⟩):FtX P w K mg base 2 ["ferry_of","island_of"] [("ferry_of",Z2U),("island_of",Z2l)]) T.ex (by decide+kernel) Z2d Z7C (fun vs M Q h=>?_) (fun vs M Q h=>?_)
 ·obtain⟨_,_,_,rfl,_⟩:=h;rfl
 obtain⟨W,x,y,rfl,G,sx,sy,hx,hy,q⟩:=h
 show wTs _ _ _ _ _ [some W.mv,some (.str x),some (.str y),none,none,none] M
 delta Z2d
 walk_at "s"
 have ki:∀(i:Nat) I,W.isl[i]?=some I->I.name=y->False:=λi I hI e=>G.no_isl hy (e▸Y0i (Zbm hI))
 have kf:∀(i:Nat) f,W.fer[i]?=some f->f.name=x->False:=λi f hf e=>G.no_fer hx (e▸Y0i (Zbu hf))
 refine⟨W,y,rfl,G,sy,λi I hI e=>(ki i I hI e).elim,λ_=>⟨by decide+kernel,λc0 e=>e.symm,W,x,rfl,G,sx,λi f hf e=>(kf i f hf e).elim,λ_=>⟨by decide+kernel,λ_ z=>z.elim,?_⟩⟩⟩
 simpa [Zim]using q
noncomputable def Z88(z:Str)(f:Fer):Bool:=decide (f.giver=z)||decide (f.taker=z)
noncomputable abbrev Z0o:SpM:=λvs M Q=>∃(W:Wld) (z:Str),vs=[W.mv,.str z]/\W.Good/\z∈W.ins/\∀p M',SameM M M'->M p=none->M' p=some (.lst ((W.fer.filter (Z88 z)).map λf=>.str f.name))->Q (.ref p) M'
theorem Z1p:MonW Z0o:=by walk_at "m"
theorem Z8T(T:Txt K mg t):FnOk P w K mg base CX0 2 t.f_ferries_at t.d_ferries_at ["world","name"] (liSp K Z0o):=by
 refine T.q_ferries_at.F.okM Z8L (Z0L (Φ:=[("refuse_unknown",Z08)]) (Z0M T) (Z0i T) rfl (fMc ⟨Z0l,(fun _ h=>nomatch h)⟩) (fMc ⟨⟨_,_,_,(FnOk.mono (Z0U T) (by decide)),T.q_refuse_unknown.m,T.q_refuse_unknown.F.kp,T.q_refuse_unknown.b⟩,(fun _ h=>nomatch h)⟩):Fts P w K mg base 1 Z6G [("refuse_unknown",Z08)]) Z2X Z97 (fun vs M Q h=>?_) (fun vs M Q h=>?_)
 ·obtain⟨_,_,rfl,_⟩:=h;rfl
 obtain⟨W,z,rfl,G,hz,q⟩:=h
 have hΦ:=(Z7U (Φ:=[("refuse_unknown",Z08)]) (fMc ⟨Z0l,(fun _ h=>nomatch h)⟩))
 show wSs _ _ _ [some W.mv,some (.str z)] M
 delta Z2X Z5o
 walk_at "s"
 have i5:=G.i5
 have f6:=G.f6
 refine Z1j W.isl Isl.mv (λx=>.str x.name) ?_ ?_ hΦ λD hD=>?_
 ·repeat (first|walk_at "s"|simp only[Wld.mv])
  exact⟨rfl,by lia,trivial⟩
 ·intro x hx M' s
  simp only[sCm,Y0b,Y0M,Y0r,Y0s,Y0B,Y0F]
  repeat (first|walk_at "s"|simp only[Isl.mv])
  try exact⟨rfl,rfl⟩
 have eF:(W.isl.map λx=>MV.str x.name)=W.ins.map MV.str:=by unfold Wld.ins;rw[Y0R];rfl
 rw[eF]
 have s2:=SameM.new hD (.lst (W.ins.map MV.str))
 have hD2:updM M D (.lst (W.ins.map MV.str)) D=some (.lst (W.ins.map MV.str)):=Z02
 generalize updM M D _=M2 at*
 refine⟨z,D,W.ins,rfl,hD2,hz,?_⟩
 try walk_at "s"
 delta Z5n
 walk_at "s"
 refine Z3Y W.fer Fer.mv (λf=>.str f.name) (Z88 z) ?_ ?_ hΦ λD2 hD2=>?_
 ·repeat (first|walk_at "s"|simp only[Wld.mv])
  exact⟨rfl,by lia,trivial⟩
 ·intro x hx M' s
  simp only[sCm,Y0b,Y0M,Y0r,Y0s,Y0B,Y0F]
  repeat (first|walk_at "s"|simp only[Fer.mv])
  refine⟨rfl,rfl,?_,λ_=>trivial⟩
  unfold Z88
  have e:inV (toV (.str z)) ([MV.str x.giver,MV.str x.taker].map toV)=(eqV (.str x.giver) (.str z)||(eqV (.str x.taker) (.str z)||false)):=rfl
  rw[e,Y3G]
  have ev:∀a b:Str,eqV (.str a) (.str b)=decide (a=b):=λa b=>by
   show(a==b)=_
   by_cases h:a=b
   ·subst h;simp
   ·simp[h]
  rw[ev,ev]
 exact q D2 _ (s2.trans (SameM.new hD2 _)) (s2.free hD2) Z02
noncomputable def deep:Nat->MV->Bool
 |0,x=>Z2O x
 |n+1,.tup xs=>xs.all (deep n)
 |_+1,x=>Z2O x
theorem Z2P{x:MV}(n:Nat)(h:Z2O x=true):deep n x=true:=by
 cases n with
 |zero=>exact h
 |succ n=>cases x<;>first|exact h|cases h
theorem Z1u{M:MH}:∀(n:Nat) (x:MV),deep n x=true->Alike M n x x
 |0,x,h=>⟨h,rfl⟩
 |n+1,x,h=>by
  cases x with
  |tup xs=>
   have h:xs.all (deep n)=true:=h
   refine Alike.tup rfl λi u v e e'=>?_
   rw[e]at e'
   cases e'
   exact Z1u n u (List.all_eq_true.mp h u (Y0i e))
  |_=>exact .flat (n+1) h
theorem Z3X:∀(T:Tm) (n:Nat),T.depth≤n->deep n T.mv=true
 |.num k,n,h=>by
  cases n with
  |zero=>simp[Tm.depth]at h
  |succ n=>show [MV.str _,.int k].all (deep n)=true;simp[Z2P n (x:=.str "num") rfl,Z2P n (x:=.int k) rfl]
 |.var x,n,h=>by
  cases n with
  |zero=>simp[Tm.depth]at h
  |succ n=>show [MV.str _,.str x].all (deep n)=true;simp[Z2P n (x:=.str "var") rfl,Z2P n (x:=.str x) rfl]
 |.two f a b,n,h=>by
  cases n with
  |zero=>simp[Tm.depth]at h
  |succ n=>
   simp only[Tm.depth]at h
   show [MV.str _,a.mv,b.mv].all (deep n)=true
   simp only[Y13,List.all_nil,Y1X,Y04]
   exact⟨Z2P n rfl,Z3X a n (by omega),Z3X b n (by omega)⟩
 |.pick c a b,n,h=>by
  cases n with
  |zero=>simp[Tm.depth]at h
  |succ n=>
   simp only[Tm.depth]at h
   show [MV.str _,c.mv,a.mv,b.mv].all (deep n)=true
   simp only[Y13,List.all_nil,Y1X,Y04]
   exact⟨Z2P n rfl,Z3X c n (by omega),Z3X a n (by omega),Z3X b n (by omega)⟩
theorem Zbx{fs ns:List Str}{k:Nat}{s:Stp}(h:Z9d fs ns k s):deep 9 s.mv=true:=by
 cases s with
 |take f x=>rfl
 |give f T=>show([MV.str _,.str f,T.mv].all (deep 8))=true;simp only[Y13,List.all_nil,Y1X,Y04];exact⟨rfl,rfl,Z3X T 8 h.2.1⟩
 |put x T=>show([MV.str _,.str x,T.mv].all (deep 8))=true;simp only[Y13,List.all_nil,Y1X,Y04];exact⟨rfl,rfl,Z3X T 8 h.2.1⟩
 |jump T i=>show([MV.str _,T.mv,.int i].all (deep 8))=true;simp only[Y13,List.all_nil,Y1X,Y04];exact⟨rfl,Z3X T 8 h.1.1,rfl⟩
theorem all_map{α:Type}{f:α->MV}{p:MV->Bool}{xs:List α}(h:∀x∈xs,p (f x)=true):(xs.map f).all p=true:=by
 rw[Y2Y]
 intro y hy
 obtain⟨x,hx,rfl⟩:=Y0o.mp hy
 exact h x hx
theorem Zby{W:Wld}(G:W.Good){I:Isl}(hI:I∈W.isl):deep 11 I.mv=true:=by
 show([MV.str I.name,.tup (I.prs.map prV),.tup (I.stps.map Stp.mv)].all (deep 10))=true
 simp only[Y13,List.all_nil,Y1X,Y04]
 exact⟨rfl,all_map λx hx=>rfl,all_map λs hs=>Zbx ((G.io I hI).st s hs)⟩
theorem Zfh{W:Wld}(G:W.Good):deep 13 W.mv=true:=by
 show([MV.int W.w,.tup (W.isl.map Isl.mv),.tup (W.fer.map Fer.mv)].all (deep 12))=true
 simp only[Y13,List.all_nil,Y1X,Y04]
 exact⟨rfl,all_map λI hI=>Zby G hI,all_map λf hf=>rfl⟩
theorem Zcn{W:Wld}(G:W.Good){M:MH}{ys:List MV}(h:IslsIn M W.isl ys):∀y∈ys,Alike M 11 y y:=by
 intro y hy
 obtain⟨I,hI,a,b,rfl,ha,hb⟩:=h.mem hy
 refine Alike.tup rfl λi u v e e'=>?_
 match i with
 |0=>cases e;cases e';exact .flat 10 rfl
 |1=>
  cases e;cases e'
  refine Alike.lst (.inr ⟨_,rfl,ha⟩) (.inr ⟨_,rfl,ha⟩) rfl λi u v e e'=>?_
  rw[e]at e'
  cases e'
  obtain⟨x,_,rfl⟩:=Y0o.mp (Y0i e)
  exact Z1u 9 _ rfl
 |2=>
  cases e;cases e'
  refine Alike.lst (.inr ⟨_,rfl,hb⟩) (.inr ⟨_,rfl,hb⟩) rfl λi u v e e'=>?_
  rw[e]at e'
  cases e'
  obtain⟨x,hx,rfl⟩:=Y0o.mp (Y0i e)
  exact Z1u 9 _ (Zbx ((G.io I hI).st x hx))
 |i+3=>cases e
theorem Zbc{z:Str}(h:Z7G z):ShortT z:=⟨Y0N h.2.1 (by decide),λc hc=>Nat.lt_of_le_of_lt (h.2.2 c hc).2 (by decide)⟩
noncomputable abbrev Z1y:SpM:=λvs M Q=>∃(ns:List Int) (k:Nat),vs=[.frl (ns.map .int),.int k]/\k≤1000/\∀v:Int,Q (.int v) M
theorem Z3a:MonW Z1y:=by walk_at "m"
theorem Z9z(T:Txt K mg t):FnOk P w K mg base CX0 1 t.f__law_cell t.d__law_cell ["script","k"] (liSp K Z1y):=by
 refine T.q__law_cell.F.okM Z9q (Z0L (Φ:=[]) (Z0M T) (Z0i T) rfl (λ_ h=>nomatch h) (λ_ h=>nomatch h):Fts P w K mg base 0 Z7L []) Z3I Za1 (λvs M Q h=>?_) (λvs M Q h=>?_)
 ·obtain⟨_,_,rfl,_⟩:=h;rfl
 obtain⟨ns,k,rfl,hk1,q⟩:=h
 show wSs _ _ _ [some (.frl (ns.map .int)),some (.int k)] M
 delta Z3I Z6B
 walk_at "s"
 rw[Y03]
 refine Z2j (λc=>?_) (λc=>?_)
 ·delta Z6A
  walk_at "s"
  have hk:k<ns.length:=by omega
  refine⟨.int ns[k],Z0c (by rw[Y06,Y01 hk];rfl),?_⟩
  walk_at "s"
  exact q _
 ·delta Z6z
  walk_at "s"
  exact⟨.inl ⟨by omega,by omega⟩,q _⟩
noncomputable def Z1a(n s:Int):Int:=(n*69621+s*16807+1013)%2147483647*((n*69621+s*16807+1013)%2147483647)%2147483629
theorem Z7h(n s:Int):0≤Z1a n s/\Z1a n s<2147483629:=⟨Y0z _ (by decide),Y0u _ (by decide)⟩
noncomputable abbrev Z06:SpM:=λvs M Q=>∃n s:Int,vs=[.int n,.int s]/\Q (.int (Z1a n s)) M
theorem Z0e:MonW Z06:=by walk_at "m"
theorem Z1n(T:Txt K mg t):FnOk P w K mg base CX0 1 t.f__law_mix t.d__law_mix ["number","salt"] (liSp K Z06):=by
 refine T.q__law_mix.F.okM Zav (Z0L (Φ:=[]) (Z0M T) (Z0i T) rfl (λ_ h=>nomatch h) (λ_ h=>nomatch h):Fts P w K mg base 0 Z8C []) Z4Y Zb0 (λvs M Q h=>?_) (λvs M Q h=>?_)
 ·obtain⟨n,s,rfl,_⟩:=h;rfl
 obtain⟨n,s,rfl,q⟩:=h
 show wSs _ _ _ [some (.int n),some (.int s),none] M
 delta Z4Y Z7w
 walk_at "s"
 delta Z7v
 walk_at "s"
 refine⟨.inl ⟨by omega,by omega⟩,?_⟩
 exact q
noncomputable def Zg4(n:Int):Int:=(Z1a n 7*2147483629+Z1a n 8)*8+n%8
noncomputable def Z2n(n:Int)(w:Nat):Int:=(if n/8%4=0\/n/8%4=1 then Zg4 n else if n/8%4=2 then 0 else 2^w - 1)%2^w
theorem ZaF(n:Int)(w:Nat):0≤Z2n n w/\Z2n n w<2^w:=Zjz _ _
noncomputable abbrev Z0A:SpM:=λvs M Q=>∃(n:Int) (w:Nat),vs=[.int n,.int w]/\w≤64/\∀M',SameM M M'->Q (.int (Z2n n w)) M'
theorem Z1J:MonW Z0A:=by walk_at "m"
theorem Z6e(T:Txt K mg t):FnOk P w K mg base CX0 2 t.f__law_word t.d__law_word ["number","width"] (liSp K Z0A):=by
 refine T.q__law_word.F.okM Z9n (Z0L (Φ:=[("_law_mix",Z06)]) (Z0M T) (Z0i T) rfl (fMc ⟨Z0e,(fun _ h=>nomatch h)⟩) (fMc ⟨⟨_,_,_,(FnOk.mono (Z1n T) (by decide)),T.q__law_mix.m,T.q__law_mix.F.kp,T.q__law_mix.b⟩,(fun _ h=>nomatch h)⟩):Fts P w K mg base 1 Z7I [("_law_mix",Z06)]) Z3F Z9Y (fun vs M Q h=>?_) (fun vs M Q h=>?_)
 ·obtain⟨_,_,rfl,_⟩:=h;rfl
 obtain⟨n,w,rfl,hw,q⟩:=h
 show wSs _ _ _ [some (.int n),some (.int w),none] M
 delta Z3F Z6j
 walk_at "s"
 refine⟨n,7,rfl,?_⟩
 walk_at "s"
 refine⟨n,8,rfl,?_⟩
 walk_at "s"
 delta Z6i
 walk_at "s"
 have ew:(1:Int)*2^((w:Nat):Int).toNat=2^w:=by rw[Y1e,Int.one_mul]
 rw[ew]
 refine⟨⟨by omega,by omega⟩,λp hp=>?_⟩
 have s:=λo=>q _ (SameM.new hp o)
 have pp:=Z8P w
 have dm:∀(v:Int) (M':MH),Q (.int (v%2^w)) M'->wBin Operator.Mod (.int v) (.int (2^w)) M' Q:=λv M' h=>by
  rw[ZiR]
  exact⟨pp,h⟩
 rcases(show n/8%4=0\/n/8%4=1\/n/8%4=2\/n/8%4=3 by omega)with e|e|e|e<;>simp only[Z2n,Zg4,e]at s<;>rw[e]
 ·exact⟨_,at0,⟨by omega,by omega⟩,dm _ _ (s _)⟩
 ·exact⟨_,at1,⟨by omega,by omega⟩,dm _ _ (s _)⟩
 ·exact⟨_,at2,⟨by omega,by omega⟩,dm _ _ (s _)⟩
 ·exact⟨_,at3,⟨by omega,by omega⟩,dm _ _ (s _)⟩
noncomputable def alph:Str:="abcdefghijklmnopqrstuvwxyz"
theorem Zem:alph.length≤16777216:=by decide+kernel
theorem Zi7:alph.cps.toList=(Y0E 26).map (97+·):=by decide+kernel
theorem Zb6{i:Int}(h0:0≤i)(h1:i<26):atI alph.cps.toList i=some (97+i.toNat):=by
 have hk:i.toNat<26:=by omega
 have:=Z0c (xs:=alph.cps.toList) (j:=i.toNat) (v:=97+i.toNat) (by rw[Zi7,Y06,List.getElem?_range hk];rfl)
 rwa [Y19 h0]at this
theorem Z8S(c:Nat):(⟨#[c]⟩:Str).length=1:=rfl
theorem Zi6(a b:Str):(a++b).length=a.length+b.length:=by
 show(a.cps++b.cps).size=_
 rw[Array.size_append]
 rfl
theorem ZaW(a b:Str):(a++b).cps.toList=a.cps.toList++b.cps.toList:=by
 show(a.cps++b.cps).toList=_
 rw[Y22]
theorem Zbt(c:Nat):∀(k:Nat) (acc:Array Nat),((Y1K k #[c]).foldl (·++·) acc).toList=acc.toList++Y1K k c
 |0,acc=>by simp
 |k+1,acc=>by
  rw[List.replicate_succ,Y2c,Zbt c k,Y22,Y1U,List.replicate_succ];rfl
theorem mul_one(c:Nat)(i:Int):(Txt.mul (⟨#[c]⟩:Str) i).cps.toList=Y1K i.toNat c:=by
 unfold Txt.mul
 by_cases h:i<1
 ·rw[if_pos h]
  have:i.toNat=0:=by omega
  rw[this];rfl
 rw[if_neg h]
 by_cases h2:(i==1||(⟨#[c]⟩:Str).length==0)=true
 ·rw[if_pos h2]
  rcases(Y2u _ _).mp h2 with e|e
  ·have:i=1:=by simpa using e
   subst this;rfl
  ·have:(⟨#[c]⟩:Str).length=0:=by simpa using e
   cases this
 ·rw[if_neg h2]
  show((Y1K i.toNat #[c]).foldl (·++·) #[]).toList=_
  rw[Zbt];rfl
theorem Z6C(z:Str):z.length=z.cps.toList.length:=Y0c.symm
noncomputable def one(c:Nat):Str:=⟨#[c]⟩
theorem Z9M:∀(cs:List Nat) (acc:Array Nat),((cs.map one).foldl (fun acc p=>acc++(Y0w "").cps++p.cps) acc).toList=acc.toList++cs
 |[],acc=>by simp
 |c::cs,acc=>by
  rw[Y0b,Y2c,Z9M cs]
  have:(acc++(Y0w "").cps++(one c).cps).toList=acc.toList++[c]:=by
   rw[Y22,Y22,show(Y0w "").cps.toList=[]from by decide+kernel,Y1i];rfl
  rw[this,Y1U];rfl
theorem ZdO(cs:List Nat):(Y14 (Y0w "") (cs.map one)).cps.toList=cs:=by
 cases cs with
 |nil=>decide+kernel
 |cons c cs=>
  show(((cs.map one)).foldl (fun acc p=>acc++(Y0w "").cps++p.cps) (one c).cps).toList=_
  rw[Z9M];rfl
theorem Zbq:∀(cs:List Nat) (a:Nat),(cs.map one).foldl (fun n z=>n+z.length+(Y0w "").length) a=a+cs.length
 |[],a=>rfl
 |c::cs,a=>by
  rw[Y0b,Y2c,Zbq cs]
  have:(one c).length=1:=rfl
  have h2:(Y0w "").length=0:=by decide+kernel
  rw[this,h2,Y0I];omega
theorem Z9Q(z:Str)(k:Nat):(cutS z none (some (k:Int))).cps.toList=z.cps.toList.take k:=by
 unfold cutS
 simp only[HT.sIx_none,HT.sIx_nat]
 rw[Y3w,Nat.sub_zero]
 show List.take (min k z.cps.toList.length) _=_
 by_cases h:k≤z.cps.toList.length
 ·rw[Y3m h]
 ·rw[Y30 (by omega),Y0X (Y07 _),Y0X (by omega)]
theorem Z9R(z:Str)(k:Nat):(cutS z (some (k:Int)) none).cps.toList=z.cps.toList.drop k:=by
 unfold cutS
 simp only[HT.sIx_none,HT.sIx_nat]
 show List.take _ (List.drop (min k _) _)=_
 by_cases h:k≤z.cps.toList.length
 ·rw[Y3m h,Y0X (by rw[Y1l];exact Y07 _)]
 ·rw[Y30 (by omega),Y1M (Y07 _),Y1M (by omega)]
  simp
theorem Zex{i:Int}(h0:0≤i)(h1:i<8):∃st:Int,atI [MV.int 1,.int 3,.int 5,.int 7,.int 9,.int 11,.int 15,.int 17] i=some (.int st)/\(st=1\/st=3\/st=5\/st=7\/st=9\/st=11\/st=15\/st=17):=by
 rcases(show i=0\/i=1\/i=2\/i=3\/i=4\/i=5\/i=6\/i=7 by omega)with rfl|rfl|rfl|rfl|rfl|rfl|rfl|rfl
 ·exact⟨1,Z0c (j:=0) rfl,by omega⟩
 ·exact⟨3,Z0c (j:=1) rfl,by omega⟩
 ·exact⟨5,Z0c (j:=2) rfl,by omega⟩
 ·exact⟨7,Z0c (j:=3) rfl,by omega⟩
 ·exact⟨9,Z0c (j:=4) rfl,by omega⟩
 ·exact⟨11,Z0c (j:=5) rfl,by omega⟩
 ·exact⟨15,Z0c (j:=6) rfl,by omega⟩
 ·exact⟨17,Z0c (j:=7) rfl,by omega⟩
theorem Zey{f st:Int}(hs:st=1\/st=3\/st=5\/st=7\/st=9\/st=11\/st=15\/st=17){k k':Nat}(h:k<17)(h':k'<17)(e:(f+k*st)%26=(f+k'*st)%26):k=k':=by
 rcases hs with rfl|rfl|rfl|rfl|rfl|rfl|rfl|rfl<;>omega
noncomputable def nmA(b:Bool)(cs:List Nat)(at':Nat)(f st:Int)(k:Nat):List Nat:=if b then cs.take at'++(97+((f+k*st)%26).toNat)::cs.drop (at'+1)else Y1K (k%4) (97+f.toNat)++[97+((f+k*st)%26).toNat]
theorem Zh9{b:Bool}{cs:List Nat}{at':Nat}{f st:Int}(hs:st=1\/st=3\/st=5\/st=7\/st=9\/st=11\/st=15\/st=17){k k':Nat}(h:k<17)(h':k'<17)(e:nmA b cs at' f st k=nmA b cs at' f st k'):k=k':=by
 have key:97+((f+k*st)%26).toNat=97+((f+k'*st)%26).toNat:=by
  unfold nmA at e
  cases b with
  |true=>
   rw[if_pos rfl,if_pos rfl]at e
   exact(List.cons.inj (List.append_cancel_left e)).1
  |false=>
   rw[if_neg (by simp),if_neg (by simp)]at e
   have:=congrArg List.getLast? e
   simpa using this
 have a:=Y0z (f+k*st) (show(26:Int)≠0 by decide)
 have a':=Y0z (f+k'*st) (show(26:Int)≠0 by decide)
 exact Zey (f:=f) hs h h' (by omega)
theorem ZeQ{b:Bool}{cs:List Nat}{at':Nat}{f st:Int}{k:Nat}(hcs:cs.length≤8)(hat:at'<cs.length)(hc:∀c∈cs,97≤c/\c≤122)(hf:0≤f/\f<26){z:Str}(hz:z.cps.toList=nmA b cs at' f st k):Z7G z:=by
 have a:=Y0z (f+k*st) (show(26:Int)≠0 by decide)
 have a2:=Y0u (f+k*st) (show(0:Int)<26 by decide)
 unfold nmA at hz
 cases b with
 |true=>
  rw[if_pos rfl]at hz
  refine⟨?_,?_,λc hcm=>?_⟩
  ·rw[Z6C,hz,Y0t,Y0I];omega
  ·rw[Z6C,hz,Y0t,Y0I,Y0A,Y1l];omega
  ·rw[hz]at hcm
   rcases Y1a.mp hcm with hm|hm
   ·exact hc c (Y2n hm)
   ·rcases Y0d.mp hm with rfl|hm
    ·omega
    ·exact hc c (List.mem_of_mem_drop hm)
 |false=>
  rw[if_neg (by simp)]at hz
  refine⟨?_,?_,λc hcm=>?_⟩
  ·rw[Z6C,hz,Y0t,Y1x];omega
  ·rw[Z6C,hz,Y0t,Y1x,Y2j];omega
  ·rw[hz]at hcm
   rcases Y1a.mp hcm with hm|hm
   ·rw[List.eq_of_mem_replicate hm];omega
   ·rw[Y1c]at hm;omega
theorem Z8H{α:Type}{xs:List α}{x y:α}{j:Nat}(h:(xs++[x])[j]?=some y):(j<xs.length/\xs[j]?=some y)\/(j=xs.length/\y=x):=by
 by_cases l:j<xs.length
 ·rw[Y0H l]at h
  exact .inl ⟨l,h⟩
 ·rw[Y0S (by omega)]at h
  cases e:j - xs.length with
  |zero=>rw[e]at h;exact .inr ⟨by omega,(Y0C h).symm⟩
  |succ m=>rw[e]at h;simp at h
noncomputable abbrev Z1c:SpM:=λvs M Q=>∃(n:Int) (m:Nat),vs=[.int n,.int m]/\m≤17/\∀(p:Addr) (zs:List Str) M',SameM M M'->M p=none->M' p=some (.lst (zs.map MV.str))->zs.length=m->zs.Nodup->(∀z∈zs,Z7G z)->Q (.ref p) M'
theorem Z2E:MonW Z1c:=by walk_at "m"
theorem Z8V(T:Txt K mg t):FnOk P w K mg base CX0 2 t.f__law_names t.d__law_names ["number","many"] (liSp K Z1c):=by
 refine T.q__law_names.F.okM Z8N (Z0L (Φ:=[("_law_mix",Z06)]) (Z0M T) (Z0i T) rfl (fMc ⟨Z0e,(fun _ h=>nomatch h)⟩) (fMc ⟨⟨_,_,_,(FnOk.mono (Z1n T) (by decide)),T.q__law_mix.m,T.q__law_mix.F.kp,T.q__law_mix.b⟩,(fun _ h=>nomatch h)⟩):Fts P w K mg base 1 Z6I [("_law_mix",Z06)]) Z2Z Z99 (fun vs M Q h=>?_) (fun vs M Q h=>?_)
 ·obtain⟨_,_,rfl,_⟩:=h;rfl
 obtain⟨n,m,rfl,hm,q⟩:=h
 show wSs _ _ _ [some (.int n),some (.int m),none,none,none,none,none,none,none,none,none] M
 have hΦ:=(Z7U (Φ:=[("_law_mix",Z06)]) (fMc ⟨Z0e,(fun _ h=>nomatch h)⟩))
 have al:=Zem
 delta Z2Z Z5K
 walk_at "s"
 delta Z5J
 walk_at "s"
 delta Z5I
 walk_at "s"
 intro p0 hp0
 obtain⟨st,hst1,hst⟩:=Zex (i:=n/26%8) (by omega) (by omega)
 refine⟨_,hst1,?_⟩
 have s0:=SameM.new hp0 (.lst [.int 1,.int 3,.int 5,.int 7,.int 9,.int 11,.int 15,.int 17])
 generalize updM M p0 _=M0 at*
 delta Z5H
 walk_at "s"
 delta Z5G
 walk_at "s"
 obtain⟨sz,hsz,hsz1,hsz2⟩:∃sz:Nat,1+n/208%8=(sz:Int)/\1≤sz/\sz≤8:=⟨(1+n/208%8).toNat,by omega,by omega,by omega⟩
 rw[hsz]
 refine⟨by omega,?_⟩
 have am0:0≤n/1664%(sz:Int):=Y0z _ (by omega)
 have am1:n/1664%(sz:Int)<(sz:Int):=Y0u _ (by omega)
 obtain⟨a,ha⟩:∃a:Nat,n/1664%(sz:Int)=(a:Int):=⟨_,(Y19 am0).symm⟩
 rw[ha]at am1 ⊢
 have f0:0≤n%26:=Y0z _ (by decide)
 have f1:n%26<26:=Y0u _ (by decide)
 delta Z5F
 walk_at "s"
 obtain⟨cs,hcs⟩:∃cs:List Nat,(Y0E sz).map (λi:Nat=>97+(Z1a n (20+(0+(i:Nat)))%26).toNat)=cs:=⟨_,rfl⟩
 have cl:cs.length=sz:=by rw[<- hcs,Y03,Y15]
 have cin:∀c∈cs,97≤c/\c≤122:=λc hc=>by
  rw[<- hcs]at hc
  obtain⟨i,_,rfl⟩:=Y0o.mp hc
  have:=Y0z (Z1a n (20+(0+(i:Nat)))) (show(26:Int)≠0 by decide)
  have:=Y0u (Z1a n (20+(0+(i:Nat)))) (show(0:Int)<26 by decide)
  omega
 refine Z1j (Y0E sz) (λi=>.int (0+(i:Nat))) (λi=>.str (one (97+(Z1a n (20+(0+(i:Nat)))%26).toNat))) ?_ ?_ hΦ λD hD=>?_
 ·walk_at "s"
  refine⟨by omega,by omega,rfl,by rw[Y15];omega,trivial⟩
 ·intro i hi M' s
  have e0:=Y0z (Z1a n (20+(0+(i:Nat)))) (show(26:Int)≠0 by decide)
  have e1:=Y0u (Z1a n (20+(0+(i:Nat)))) (show(0:Int)<26 by decide)
  simp only[sCm,Y0b,Y0M,Y0r,Y0s,Y0B,Y0F]
  walk_at "s"
  refine⟨n,20+(0+(i:Nat)),rfl,?_⟩
  walk_at "s"
  exact⟨al,_,Zb6 e0 e1,rfl⟩
 have hl1:(Y0E sz).map (λi:Nat=>MV.str (one (97+(Z1a n (20+(0+(i:Nat)))%26).toNat)))=(cs.map one).map MV.str:=by
  rw[<- hcs,Y0R,Y0R];rfl
 rw[hl1]
 have s1:=SameM.new hD (.lst ((cs.map one).map MV.str))
 have hd1:updM M0 D (.lst ((cs.map one).map MV.str)) D=some (.lst ((cs.map one).map MV.str)):=Z02
 generalize updM M0 D _=M1 at*
 walk_at "s"
 have gl:=ZdO cs
 have gll:(Y14 (Y0w "") (cs.map one)).length=cs.length:=by rw[Z6C,gl]
 refine⟨_,hd1,?_,by rw[gll];omega,?_⟩
 ·rw[List.foldl_toArray' _ _ _ rfl]
  exact Y0N (Y26 (Zbq cs 0)) (by omega)
 generalize Y14 (Y0w "") (cs.map one)=sm at*
 delta Z5E
 walk_at "s"
 intro p hp
 have s2:=SameM.new hp (.lst [])
 have hd2:updM M1 p (.lst []) p=some (.lst []):=Z02
 generalize updM M1 p _=M2 at*
 delta Z5D
 walk_at "s"
 obtain⟨J,hJ⟩:∃J:Nat->Sm->MH->Prop,∀j σ M',J j σ M'↔∃v9 v10,SameM M1 M'/\(∃zs:List Str,M' p=some (.lst (zs.map MV.str))/\zs.length=j/\∀(i:Nat) z,zs[i]?=some z->z.cps.toList=nmA (decide (n/13312%2=0)) cs a (n%26) st i)/\
  σ=[some (.int n),some (.int m),some (.str alph),some (.int (n%26)),some (.int st),some (.int sz),some (.int a),some (.str sm),some (.ref p),v9,v10]:=⟨_,λ_ _ _=>Y1N⟩
 refine⟨by omega,by omega,J,(hJ 0 _ _).mpr ⟨_,_,s2,⟨[],hd2,rfl,λi z h=>by simp at h⟩,rfl⟩,λj σ M' h=>trivial,?_,?_⟩
 ·rintro k u σ M' hu h
  obtain⟨v9,v10,s,⟨zs,hd,zl,zv⟩,rfl⟩:=(hJ _ _ _).mp h
  obtain⟨hk,rfl⟩:=Z6V hu
  have g0:=Y0z (n%26+(0+(k:Nat))*st) (show(26:Int)≠0 by decide)
  have g1:=Y0u (n%26+(0+(k:Nat))*st) (show(0:Int)<26 by decide)
  have done:∀z:Str,z.cps.toList=nmA (decide (n/13312%2=0)) cs a (n%26) st k->∀v9 v10,J (k+1) [some (.int n),some (.int m),some (.str alph),some (.int (n%26)),some (.int st),some (.int sz),some (.int a),some (.str sm),some (.ref p),v9,v10] (updM M' p (.lst (zs.map MV.str++[.str z]))):=λz hz v9 v10=>by
   refine(hJ _ _ _).mpr ⟨_,_,s.upd hp _,⟨zs++[z],by rw[Z02,Y11];rfl,by rw[Y0t,zl];rfl,λi y hy=>?_⟩,rfl⟩
   rcases Z8H hy with⟨_,hy⟩|⟨rfl,rfl⟩
   ·exact zv i y hy
   ·rw[zl];exact hz
  delta Z5C
  walk_at "s"
  refine⟨?_,al,_,Zb6 g0 g1,?_⟩
  ·exact .inl ⟨by omega,by omega⟩
  have ek:((0:Int)+(k:Nat))=(k:Nat):=by omega
  rw[ek]at g0 g1 ⊢
  delta Z5B
  walk_at "s"
  by_cases hb:n/13312%2=0
  ·rw[if_pos hb];delta Z4F
   repeat (first|walk_at "s"|simp only[hd])
   have e1:((a:Int)+1)=((a+1:Nat):Int):=by omega
   rw[e1]
   have l1:(cutS sm none (some (a:Int))).length≤8:=by rw[Z6C,Z9Q,gl,Y0A];omega
   have l2:(cutS sm (some ((a+1:Nat):Int)) none).length≤8:=by rw[Z6C,Z9R,gl,Y1l];omega
   refine⟨⟨_,rfl⟩,by omega,by rw[Z8S];omega,by omega,by rw[Zi6,Z8S];omega,by rw[Y03];omega,?_⟩
   refine done _ ?_ _ _
   rw[ZaW,ZaW,Z9Q,Z9R,gl]
   unfold nmA
   rw[decide_eq_true hb,if_pos rfl,Y1U];rfl
  ·rw[if_neg hb];delta Z4E
   repeat (first|walk_at "s"|simp only[hd])
   have l1:(Txt.mul ⟨#[97+(n%26).toNat]⟩ ((k:Int)%4)).length≤8:=by rw[Z6C,mul_one,Y2j];omega
   refine⟨⟨_,rfl⟩,al,_,Zb6 f0 f1,by rw[Z8S];omega,by omega,by omega,by rw[Z8S];omega,by rw[Y03];omega,?_⟩
   refine done _ ?_ _ _
   rw[ZaW,mul_one]
   unfold nmA
   rw[decide_eq_false hb,if_neg (by simp)]
   have e4:((k:Int)%4).toNat=k%4:=by omega
   rw[e4]
 ·rintro σ M' h
  obtain⟨v9,v10,s,⟨zs,hd,zl,zv⟩,rfl⟩:=(hJ _ _ _).mp h
  delta Z4D
  walk_at "s"
  have zl:zs.length=m:=zl.trans (Y1e m)
  refine q p zs M' ((s0.trans s1).trans s) ((s0.trans s1).free hp) hd zl ?_ λz hz=>?_
  ·refine Y2K.mpr λi j hi hj hij e=>?_
   have e1:=zv i _ (Y01 hi)
   have e2:=zv j _ (Y01 hj)
   rw[e]at e1
   have:=Zh9 hst (by omega) (by omega) (e1.symm.trans e2)
   omega
  ·obtain⟨i,hi,rfl⟩:=Y0U hz
   exact ZeQ (by omega) (by omega) cin ⟨f0,f1⟩ (zv i _ (Y01 hi))
noncomputable abbrev Z0b(N:Nat):SpM:=λvs M Q=>∃(n:Int) (a:Addr) (zs:List Str) (k:Nat),vs=[.int n,.ref a,.int k]/\k<N/\k≤2/\M a=some (.lst (zs.map MV.str))/\zs.length≤6/\
 ∀(U:Tm) M',SameM M M'->U.depth≤k+1->2*U.size+1≤3^(k+1)->(∀x∈U.reads,x∈zs)->Q U.mv M'
theorem Z1K(n:Nat):MonW (Z0b n):=by walk_at "m"
theorem Zef{zs:List Str}{i:Int}(h0:0≤i)(h1:i<zs.length):∃z∈zs,atI (zs.map MV.str) i=some (.str z):=by
 have hk:i.toNat<zs.length:=by lia
 refine⟨zs[i.toNat],Y0p hk,?_⟩
 have:=Z0c (xs:=zs.map MV.str) (j:=i.toNat) (v:=.str zs[i.toNat]) (by rw[Y06,Y01 hk];rfl)
 rwa [Y19 h0]at this
theorem ZhX{a b c d i:Int}(h0:0≤i)(h1:i<4):∃v:Int,atI [MV.int a,.int b,.int c,.int d] i=some (.int v):=by
 rcases(show i=0\/i=1\/i=2\/i=3 by lia)with rfl|rfl|rfl|rfl
 ·exact⟨_,at0⟩
 ·exact⟨_,at1⟩
 ·exact⟨_,at2⟩
 ·exact⟨_,at3⟩
theorem Zka{i:Int}(h0:0≤i)(h1:i<6):∃f:Form,atI [MV.str "plus",.str "minus",.str "times",.str "less",.str "same",.str "minus"] i=some (.str f.str):=by
 rcases(show i=0\/i=1\/i=2\/i=3\/i=4\/i=5 by lia)with rfl|rfl|rfl|rfl|rfl|rfl
 ·exact⟨.plus,Z0c (j:=0) rfl⟩
 ·exact⟨.minus,Z0c (j:=1) rfl⟩
 ·exact⟨.times,Z0c (j:=2) rfl⟩
 ·exact⟨.less,Z0c (j:=3) rfl⟩
 ·exact⟨.same,Z0c (j:=4) rfl⟩
 ·exact⟨.minus,Z0c (j:=5) rfl⟩
theorem Z6f(T:Txt K mg t):∀N:Nat,FnOk P w K mg base CX0 (N+8) t.f__law_term t.d__law_term ["number","own","deep"] (liSp K (Z0b N))
 |0=>by
  have no:∀vs M Q,¬Z0b 0 vs M Q:=λvs M Q h=>by
   obtain⟨_,_,_,k,_,h0,_⟩:=h
   lia
  exact⟨λvs H Q E ⟨ms,M,r,rh,h⟩=>absurd h (no _ _ _),λA outer s H args us vs Q E _ _ _ _ ⟨ms,M,r,rh,h⟩=>absurd h (no _ _ _)⟩
 |N+1=>by
  have ih:=Z6f T N
  refine T.q__law_term.F.okM Z9o (Z0L (Φ:=[("_law_mix",Z06),("_law_term",(Z0b N)),("_law_word",Z0A)]) (Z0M T) (Z0i T) rfl (fMc ⟨Z0e,(fMc ⟨(Z1K _),(fMc ⟨Z1J,(fun _ h=>nomatch h)⟩)⟩)⟩) (fMc ⟨⟨_,_,_,FnOk.mono (Z1n T) (by lia),T.q__law_mix.m,T.q__law_mix.F.kp,T.q__law_mix.b⟩,(fMc ⟨⟨_,_,_,ih,T.q__law_term.m,T.q__law_term.F.kp,T.q__law_term.b⟩,(fMc ⟨⟨_,_,_,FnOk.mono (Z6e T) (by lia),T.q__law_word.m,T.q__law_word.F.kp,T.q__law_word.b⟩,(fun _ h=>nomatch h)⟩)⟩)⟩):Fts P w K mg base (N+8) Z7J [("_law_mix",Z06),("_law_term",(Z0b N)),("_law_word",Z0A)]) Z3G Z9Z (fun vs M Q h=>?_) (fun vs M Q h=>?_)
  ·obtain⟨_,_,_,_,rfl,_⟩:=h;rfl
  obtain⟨n,a,zs,k,rfl,hk,k2,ha,zl,q⟩:=h
  show wSs _ _ _ [some (.int n),some (.ref a),some (.int k),none,none,none,none,none] M
  delta Z3G Z6r
  walk_at "s"
  delta Z6q
  walk_at "s"
  refine⟨n,1,rfl,?_⟩
  obtain⟨mr,hmr⟩:∃mr,Z1a n 1=mr:=⟨_,rfl⟩
  rw[hmr]
  have p3:1≤3^k:=Nat.one_le_pow _ _ (by decide)
  have p4:3^(k+1)=3*3^k:=by rw[Nat.pow_succ,Nat.mul_comm]
  have leaf:∀D:EndM,D.rt=Q->wSs [("_law_mix",Z06),("_law_term",Z0b N),("_law_word",Z0A)] Z3L D [some (.int n),some (.ref a),some (.int k),some (.int (n%9)),some (.int mr),none,none,none] M:=by
   rintro D hD
   delta Z3L
   walk_at "s"
   intro p hp
   refine Z7x (SameM.new hp _ _ _ ha) Z02 ?_
   have s1:=SameM.new hp (.lst [])
   generalize updM M p _=M1 at*
   have ha1:=s1 _ _ ha
   have num:wSs [("_law_mix",Z06),("_law_term",Z0b N),("_law_word",Z0A)] Z3K D [some (.int n),some (.ref a),some (.int k),some (.int (n%9)),some (.int mr),none,none,none] M1:=by
    delta Z3K
    walk_at "s"
    refine⟨mr,64,rfl,by decide,λM2 s2=>?_⟩
    delta Z6n
    walk_at "s"
    intro p3 hp3
    obtain⟨v,hv⟩:=ZhX (a:=mr/8%9 - 4) (b:=Z2n mr 64) (c:=0 - Z2n mr 64) (d:=mr/8%2) (i:=mr/128%4) (by lia) (by lia)
    refine⟨_,hv,?_⟩
    try walk_at "s"
    rw[hD]
    exact q (.num v) _ ((s1.trans s2).trans (SameM.new hp3 _)) (by simp[Tm.depth]) (by simp only[Tm.size];lia) (λx hx=>by simp[Tm.reads]at hx)
   refine Z2j (λc1=>Z2j (λc2=>?_) λ_=>num) λ_=>num
   have z0:0<zs.length:=by
    cases zs with
    |nil=>simp at c1
    |cons _ _=>simp
   delta Z6o
   repeat (first|walk_at "s"|simp only[ha1])
   rw[Y03]
   have e0:=Y0z (mr/3) (show(zs.length:Int)≠0 by lia)
   have e1:=Y0u (mr/3) (show(0:Int)<zs.length by lia)
   obtain⟨z,hz,az⟩:=Zef e0 e1
   refine⟨by lia,_,az,?_⟩
   try walk_at "s"
   rw[hD]
   exact q (.var z) _ s1 (by simp[Tm.depth]) (by simp only[Tm.size];lia) (λx hx=>by simp[Tm.reads]at hx;rw[hx];exact hz)
  delta Z6p
  walk_at "s"
  refine Z2j (λ_=>leaf _ rfl) λc1=>Z2j (λ_=>leaf _ rfl) λc2=>?_
  have k1:1≤k:=by lia
  obtain⟨k',rfl⟩:∃k',k=k'+1:=⟨k - 1,by lia⟩
  have ek:((k'+1:Nat):Int) - 1=(k':Nat):=by lia
  have n9:0≤n%9/\n%9<9:=⟨Y0z _ (by decide),Y0u _ (by decide)⟩
  delta Z6m
  walk_at "s"
  refine⟨n,2,rfl,?_⟩
  walk_at "s"
  rw[ek]
  refine⟨_,a,zs,k',rfl,by lia,by lia,ha,zl,λU1 M1 s1 d1 z1 r1=>?_⟩
  delta Z6l
  walk_at "s"
  refine⟨n,3,rfl,?_⟩
  walk_at "s"
  rw[ek]
  refine⟨_,a,zs,k',rfl,by lia,by lia,s1 _ _ ha,zl,λU2 M2 s2 d2 z2 r2=>?_⟩
  have s12:=s1.trans s2
  delta Z6k
  walk_at "s"
  refine Z2j (λc8=>?_) λc8=>?_
  ·delta Z5A
   walk_at "s"
   refine⟨n,4,rfl,?_⟩
   walk_at "s"
   rw[ek]
   refine⟨_,a,zs,k',rfl,by lia,by lia,s12 _ _ ha,zl,λU3 M3 s3 d3 z3 r3=>?_⟩
   try walk_at "s"
   exact q (.pick U3 U1 U2) _ (s12.trans s3) (by simp only[Tm.depth];lia) (by simp only[Tm.size];lia) (λx hx=>by
    simp only[Tm.reads,Y1a]at hx
    exact hx.elim (r3 x) (·.elim (r1 x) (r2 x)))
  ·delta Z5z
   walk_at "s"
   intro p3 hp3
   obtain⟨f,hf⟩:=Zka (i:=n%9 - 2) (by lia) (by lia)
   refine⟨_,hf,?_⟩
   try walk_at "s"
   exact q (.two f U1 U2) _ (s12.trans (SameM.new hp3 _)) (by simp only[Tm.depth];lia) (by simp only[Tm.size];lia) (λx hx=>by
    simp only[Tm.reads,Y1a]at hx
    exact hx.elim (r1 x) (r2 x))
theorem ZcY{F:List Fer}{b:Fer->Bool}{i:Int}(h:0<(F.filter b).length):∃v,v∈F/\b v=true/\atI ((F.filter b).map λv=>MV.str v.name) (i%((F.filter b).length:Int))=some (.str v.name):=by
 have e0:=Y0z i (show((F.filter b).length:Int)≠0 by lia)
 have e1:=Y0u i (show(0:Int)<(F.filter b).length by lia)
 obtain⟨j,hj⟩:∃j:Nat,i%((F.filter b).length:Int)=j:=⟨_,(Y19 e0).symm⟩
 have hl:j<(F.filter b).length:=by lia
 have hm:=Y39.mp (Y0p hl)
 refine⟨(F.filter b)[j],hm.1,hm.2,?_⟩
 rw[hj]
 exact Z0c (by rw[Y06,Y01 hl];rfl)
theorem Z9w{F:List Fer}(nd:(F.map (·.name)).Nodup){v x:Fer}(hv:v∈F)(hx:x∈F)(e:x.name=v.name):x=v:=by
 obtain⟨i,hi,rfl⟩:=Y0U hv
 obtain⟨j,hj,rfl⟩:=Y0U hx
 have:=(Y1W (l:=F.map (·.name)) (i:=j) (j:=i) (by rw[Y03];exact hj) nd).mp (by
  rw[Y06,Y06,Y01 hj,Y01 hi];exact congrArg some e)
 subst this;rfl
noncomputable abbrev Z1x:SpM:=λvs M Q=>∃(n:Int) (z:Str) (f a:Addr) (F:List Fer) (zs:List Str) (m:Nat),vs=[.int n,.str z,.ref f,.ref a,.int m]/\M f=some (.lst (F.map Fer.mv))/\F.length≤6/\(F.map (·.name)).Nodup/\M a=some (.lst (zs.map MV.str))/\zs.length≤6/\m≤12/\
 ∀(S:Stp) M',SameM M M'->Z9d (F.map (·.name)) zs m S->Zcp F z S->Q S.mv M'
theorem Z39:MonW Z1x:=by walk_at "m"
theorem Z9y(T:Txt K mg t):FnOk P w K mg base CX0 12 t.f__law_step t.d__law_step ["number","name","ferries","own","many"] (liSp K Z1x):=by
 refine T.q__law_step.F.okM Z9p (Z0L (Φ:=[("_law_mix",Z06),("_law_term",(Z0b 3))]) (Z0M T) (Z0i T) rfl (fMc ⟨Z0e,(fMc ⟨(Z1K _),(fun _ h=>nomatch h)⟩)⟩) (fMc ⟨⟨_,_,_,FnOk.mono (Z1n T) (by decide),T.q__law_mix.m,T.q__law_mix.F.kp,T.q__law_mix.b⟩,(fMc ⟨⟨_,_,_,FnOk.mono (Z6f T 3) (by decide),T.q__law_term.m,T.q__law_term.F.kp,T.q__law_term.b⟩,(fun _ h=>nomatch h)⟩)⟩):Fts P w K mg base 11 Z7K [("_law_mix",Z06),("_law_term",(Z0b 3))]) Z3H Za0 (fun vs M Q h=>?_) (fun vs M Q h=>?_)
 ·obtain⟨_,_,_,_,_,_,_,rfl,_⟩:=h;rfl
 obtain⟨n,z,f,a,F,zs,m,rfl,hf,f6,nd,ha,zl,m12,q⟩:=h
 show wSs _ _ _ [some (.int n),some (.str z),some (.ref f),some (.ref a),some (.int m),none,none,none,none,none] M
 have hΦ:=Z7U (Φ:=[("_law_mix",Z06),("_law_term",Z0b 3)]) (fMc ⟨Z0e,fMc ⟨Z1K 3,(fun _ h=>nomatch h)⟩⟩)
 delta Z3H Z6y
 walk_at "s"
 refine Z3Y F Fer.mv (λv=>.str v.name) (λv=>decide (v.taker=z)) ?_ ?_ hΦ λD1 hD1=>?_
 ·repeat (first|walk_at "s"|simp only[hf])
  exact⟨rfl,by lia,hf⟩
 ·intro v hv M' s
  simp only[sCm,Y0b,Y0M,Y0r,Y0s,Y0B,Y0F]
  repeat (first|walk_at "s"|simp only[Fer.mv])
  try simp
 have s1:=SameM.new hD1 (.lst ((F.filter λv=>decide (v.taker=z)).map λv=>MV.str v.name))
 have d1:updM M D1 (.lst ((F.filter λv=>decide (v.taker=z)).map λv=>MV.str v.name)) D1=some (.lst ((F.filter λv=>decide (v.taker=z)).map λv=>MV.str v.name)):=Z02
 generalize updM M D1 _=M1 at*
 have hf1:=s1 _ _ hf
 delta Z6x
 walk_at "s"
 refine Z3Y F Fer.mv (λv=>.str v.name) (λv=>decide (v.giver=z)) ?_ ?_ hΦ λD2 hD2=>?_
 ·repeat (first|walk_at "s"|simp only[hf1])
  exact⟨rfl,by lia,hf1⟩
 ·intro v hv M' s
  simp only[sCm,Y0b,Y0M,Y0r,Y0s,Y0B,Y0F]
  repeat (first|walk_at "s"|simp only[Fer.mv])
  try simp
 have s2:=SameM.new hD2 (.lst ((F.filter λv=>decide (v.giver=z)).map λv=>MV.str v.name))
 have d2:updM M1 D2 (.lst ((F.filter λv=>decide (v.giver=z)).map λv=>MV.str v.name)) D2=some (.lst ((F.filter λv=>decide (v.giver=z)).map λv=>MV.str v.name)):=Z02
 generalize updM M1 D2 _=M2 at*
 have d12:=s2 _ _ d1
 have ss:=s1.trans s2
 have ha2:=ss _ _ ha
 delta Z6w
 walk_at "s"
 delta Z6v
 walk_at "s"
 refine⟨n,5,rfl,?_⟩
 obtain⟨mr,hmr⟩:∃mr,Z1a n 5=mr:=⟨_,rfl⟩
 rw[hmr]
 have n8:0≤n%8/\n%8<8:=⟨Y0z _ (by decide),Y0u _ (by decide)⟩
 have rest:∀M3,SameM M2 M3->wSs [("_law_mix",Z06),("_law_term",Z0b 3)] Z3O {nx:=fun _ M'=>Q .non M',rt:=Q} [some (.int n),some (.str z),some (.ref f),some (.ref a),some (.int m),some (.ref D1),some (.ref D2),some (.int (n%8)),some (.int mr),none] M3:=by
  intro M3 s3
  delta Z3O
  walk_at "s"
  refine⟨n,6,rfl,?_⟩
  walk_at "s"
  obtain⟨k,hk,hk2⟩:∃k:Nat,mr/64%3=(k:Int)/\k≤2:=⟨(mr/64%3).toNat,by lia,by lia⟩
  rw[hk]
  refine⟨_,a,zs,k,rfl,by lia,hk2,s3 _ _ ha2,zl,λU M4 s4 u1 u2 u3=>?_⟩
  have hU:TmIn zs U:=⟨by lia,by
   have:3^(k+1)≤3^3:=Nat.pow_le_pow_right (by decide) (by lia)
   lia,u3⟩
  have s34:=s3.trans s4
  have rest2:∀M5,SameM M2 M5->wSs [("_law_mix",Z06),("_law_term",Z0b 3)] Z3M {nx:=fun _ M'=>Q .non M',rt:=Q} [some (.int n),some (.str z),some (.ref f),some (.ref a),some (.int m),some (.ref D1),some (.ref D2),some (.int (n%8)),some (.int mr),some U.mv] M5:=by
   intro M5 s5
   have jmp:∀M6,SameM M2 M6->wSs [("_law_mix",Z06),("_law_term",Z0b 3)] Z32 {nx:=fun σ M=>wSs [("_law_mix",Z06),("_law_term",Z0b 3)] Z31 {nx:=fun _ M'=>Q .non M',rt:=Q} σ M,rt:=Q} [some (.int n),some (.str z),some (.ref f),some (.ref a),some (.int m),some (.ref D1),some (.ref D2),some (.int (n%8)),some (.int mr),some U.mv] M6:=by
    intro M6 s6
    have e0:=Y0z (mr/512) (show((m:Int)+1)≠0 by lia)
    have e1:=Y0u (mr/512) (show(0:Int)<(m:Int)+1 by lia)
    delta Z32
    walk_at "s"
    refine⟨by lia,?_⟩
    exact q (.jump U (mr/512%((m:Int)+1))) _ (ss.trans s6) ⟨hU,e0,by lia⟩ trivial
   delta Z3M
   walk_at "s"
   refine Z2j (λ_=>jmp M5 s5) λc7=>?_
   intro p hp
   refine Z7x (SameM.new hp _ _ _ (s5 _ _ ha2)) Z02 ?_
   have s6:=s5.trans (SameM.new hp (.lst []))
   generalize updM M5 p _=M6 at*
   refine Z2j (λ_=>jmp M6 s6) λc1=>?_
   have z0:0<zs.length:=by
    cases zs with
    |nil=>simp at c1
    |cons _ _=>simp
   delta Z31
   repeat (first|walk_at "s"|simp only[s6 _ _ ha2])
   rw[Y03]
   have e0:=Y0z (mr/8) (show(zs.length:Int)≠0 by lia)
   have e1:=Y0u (mr/8) (show(0:Int)<zs.length by lia)
   obtain⟨x,hx,ax⟩:=Zef e0 e1
   refine⟨by lia,_,ax,?_⟩
   try walk_at "s"
   exact q (.put x U) _ (ss.trans s6) ⟨hx,hU⟩ trivial
  show wSs _ Z3N _ _ _
  delta Z3N
  walk_at "s"
  refine Z2j (λc6=>?_) λ_=>rest2 M4 s34
  intro p hp
  refine Z7x (SameM.new hp _ _ _ (s34 _ _ d2)) Z02 ?_
  have s5:=s34.trans (SameM.new hp (.lst []))
  generalize updM M4 p _=M5 at*
  refine Z2j (λc1=>?_) λ_=>rest2 M5 s5
  have g0:0<(F.filter λv=>decide (v.giver=z)).length:=by
   cases hF:F.filter λv=>decide (v.giver=z)with
   |nil=>rw[hF]at c1;simp at c1
   |cons _ _=>simp
  delta Z6s
  repeat (first|walk_at "s"|simp only[s5 _ _ d2])
  rw[Y03]
  obtain⟨v,hv,bv,av⟩:=ZcY (i:=mr) g0
  refine⟨by lia,_,av,?_⟩
  try walk_at "s"
  exact q (.give v.name U) _ (ss.trans s5) ⟨Y0o.mpr ⟨v,hv,rfl⟩,hU⟩ (λx hx e=>by rw[Z9w nd hv hx e];exact of_decide_eq_true bv)
 delta Z6u
 walk_at "s"
 refine Z2j (λc3=>?_) λ_=>rest M2 (SameM.refl _)
 intro p hp
 refine Z7x (SameM.new hp _ _ _ d12) Z02 ?_
 have s3:=SameM.new hp (.lst [])
 generalize updM M2 p _=M3 at*
 refine Z2j (λc1=>?_) λ_=>rest M3 s3
 try walk_at "s"
 intro p2 hp2
 refine Z7x (SameM.new hp2 _ _ _ (s3 _ _ ha2)) Z02 ?_
 have s4:=s3.trans (SameM.new hp2 (.lst []))
 generalize updM M3 p2 _=M4 at*
 refine Z2j (λc2=>?_) λ_=>rest M4 s4
 have g0:0<(F.filter λv=>decide (v.taker=z)).length:=by
  cases hF:F.filter λv=>decide (v.taker=z)with
  |nil=>rw[hF]at c1;simp at c1
  |cons _ _=>simp
 have z0:0<zs.length:=by
  cases zs with
  |nil=>simp at c2
  |cons _ _=>simp
 delta Z6t
 repeat (first|walk_at "s"|simp only[s4 _ _ d12,s4 _ _ ha2])
 obtain⟨v,hv,bv,av⟩:=ZcY (i:=mr) g0
 have e0:=Y0z (mr/8) (show(zs.length:Int)≠0 by lia)
 have e1:=Y0u (mr/8) (show(0:Int)<zs.length by lia)
 obtain⟨x,hx,ax⟩:=Zef e0 e1
 rw[Y03]
 refine⟨by lia,_,av,?_⟩
 rw[Y03]
 refine⟨by lia,_,ax,?_⟩
 try walk_at "s"
 exact q (.take v.name x) _ (ss.trans s4) ⟨Y0o.mpr ⟨v,hv,rfl⟩,hx⟩ (λy hy e=>by rw[Z9w nd hv hy e];exact of_decide_eq_true bv)
theorem Zgq{g e m:Int}(h0:0≤g)(h1:g<m)(e1:1≤e)(e2:e≤m - 1):(g+e)%m≠g:=by
 by_cases h:g+e<m
 ·rw[Int.emod_eq_of_lt (by lia) h];lia
 ·have:(g+e)%m=g+e - m:=by
   rw[show g+e=(g+e - m)+m by lia,Int.add_emod_right,Int.emod_eq_of_lt (by lia) (by lia)];lia
  rw[this];lia
theorem Z8w{zs:List Str}{i:Int}{k:Nat}(e:i=k){z:Str}(h:zs[k]?=some z):atI (zs.map MV.str) i=some (.str z):=by
 rw[e];exact Z0c (by rw[Y06,h];rfl)
noncomputable abbrev Z0O:SpM:=λvs M Q=>∃(n:Int) (p:Addr) (zs:List Str) (m:Nat),vs=[.int n,.ref p,.int m]/\M p=some (.lst (zs.map MV.str))/\15≤zs.length/\zs.Nodup/\m≤5/\
 ∀(F:List Fer) (pf:Addr) M',SameM M M'->M pf=none->M' pf=some (.lst (F.map Fer.mv))->F.length≤6->(∀(i:Nat) f,F[i]?=some f->zs[5+i]?=some f.name)->(∀f∈F,FerOk (zs.take m) f)->Q (.ref pf) M'
theorem Z23:MonW Z0O:=by walk_at "m"
theorem Z7d(T:Txt K mg t):FnOk P w K mg base CX0 2 t.f__law_ferries t.d__law_ferries ["number","names","many"] (liSp K Z0O):=by
 refine T.q__law_ferries.F.okM Z73 (Z0L (Φ:=[("_law_mix",Z06)]) (Z0M T) (Z0i T) rfl (fMc ⟨Z0e,(fun _ h=>nomatch h)⟩) (fMc ⟨⟨_,_,_,(FnOk.mono (Z1n T) (by decide)),T.q__law_mix.m,T.q__law_mix.F.kp,T.q__law_mix.b⟩,(fun _ h=>nomatch h)⟩):Fts P w K mg base 1 Z4L [("_law_mix",Z06)]) Z2e Z7D (fun vs M Q h=>?_) (fun vs M Q h=>?_)
 ·obtain⟨_,_,_,_,rfl,_⟩:=h;rfl
 obtain⟨n,p,zs,m,rfl,hp,zl,nd,m5,q⟩:=h
 show wSs _ _ _ [some (.int n),some (.ref p),some (.int m),none,none,none,none,none,none] M
 delta Z2e Z3W
 walk_at "s"
 intro pf hpf
 have s1:=SameM.new hpf (.lst [])
 have hd1:updM M pf (.lst []) pf=some (.lst []):=Z02
 generalize updM M pf _=M1 at*
 delta Z3V
 walk_at "s"
 refine Z2j (λc1=>?_) λc1=>?_
 ·delta Z3U
  walk_at "s"
  obtain⟨r,hr,hr6⟩:∃r:Nat,n/8%7=(r:Int)/\r≤6:=⟨(n/8%7).toNat,by lia,by lia⟩
  rw[hr]
  obtain⟨J,hJ⟩:∃J:Nat->Sm->MH->Prop,∀j σ M',J j σ M'↔∃v4 v5 v6 v7 v8,SameM M M'/\(∃F:List Fer,M' pf=some (.lst (F.map Fer.mv))/\F.length=j/\(∀(i:Nat) f,F[i]?=some f->zs[5+i]?=some f.name)/\∀f∈F,FerOk (zs.take m) f)/\
   σ=[some (.int n),some (.ref p),some (.int m),some (.ref pf),v4,v5,v6,v7,v8]:=⟨_,λ_ _ _=>Y1N⟩
  refine⟨by lia,by lia,J,(hJ 0 _ _).mpr ⟨_,_,_,_,_,s1,⟨[],hd1,rfl,λi f h=>by simp at h,λf h=>by simp at h⟩,rfl⟩,λj σ M' h=>trivial,?_,?_⟩
  ·rintro j u σ M' hu h
   obtain⟨v4,v5,v6,v7,v8,s,⟨F,hd,fl,fn,fo⟩,rfl⟩:=(hJ _ _ _).mp h
   obtain⟨hj,rfl⟩:=Z6V hu
   have hj:j<r:=by simpa using hj
   delta Z3T
   walk_at "s"
   refine⟨n,10+(0+(j:Nat)),rfl,?_⟩
   obtain⟨mr,hmr⟩:∃mr,Z1a n (10+(0+(j:Nat)))=mr:=⟨_,rfl⟩
   rw[hmr]
   have g0:=Y0z mr (show(m:Int)≠0 by lia)
   have g1:=Y0u mr (show(0:Int)<m by lia)
   have d0:=Y0z (mr/8) (show((m:Int) - 1)≠0 by lia)
   have d1:=Y0u (mr/8) (show(0:Int)<(m:Int) - 1 by lia)
   delta Z3S
   walk_at "s"
   refine⟨by lia,?_⟩
   delta Z3R
   walk_at "s"
   refine⟨by lia,by lia,?_⟩
   have t0:=Y0z (mr%(m:Int)+1+mr/8%((m:Int) - 1)) (show(m:Int)≠0 by lia)
   have t1:=Y0u (mr%(m:Int)+1+mr/8%((m:Int) - 1)) (show(0:Int)<m by lia)
   have tn:(mr%(m:Int)+1+mr/8%((m:Int) - 1))%(m:Int)≠mr%(m:Int):=by
    rw[Int.add_assoc]
    exact Zgq g0 g1 (by lia) (by lia)
   obtain⟨g,hg⟩:∃g:Nat,mr%(m:Int)=(g:Int):=⟨_,(Y19 g0).symm⟩
   rw[hg]at t0 t1 tn ⊢
   obtain⟨tk,htk⟩:∃tk:Nat,((g:Int)+1+mr/8%((m:Int) - 1))%(m:Int)=(tk:Int):=⟨_,(Y19 t0).symm⟩
   rw[htk]at t1 tn ⊢
   have gm:g<m:=by lia
   have tm:tk<m:=by lia
   have gt:g≠tk:=λe=>tn (by rw[e])
   delta Z3Q
   repeat (first|walk_at "s"|simp only[s _ _ hp])
   have h5:=Y01 (show 5+j<zs.length by lia)
   have hgg:=Y01 (show g<zs.length by lia)
   have htt:=Y01 (show tk<zs.length by lia)
   refine⟨_,Z8w (by lia) h5,_,Z8w rfl hgg,_,Z8w rfl htt,?_⟩
   obtain⟨kk,hkk,hkk3⟩:∃kk:Nat,mr/64%4=(kk:Int)/\kk≤3:=⟨(mr/64%4).toNat,by lia,by lia⟩
   obtain⟨st,hst,hst1,hst3⟩:∃st:Nat,1+mr/256%3=(st:Int)/\1≤st/\st≤3:=⟨(1+mr/256%3).toNat,by lia,by lia,by lia⟩
   have zg:zs[g]∈zs.take m:=Y0i (i:=g) (by rw[Y1D gm];exact hgg)
   have zt:zs[tk]∈zs.take m:=Y0i (i:=tk) (by rw[Y1D tm];exact htt)
   have zn:zs[g]≠zs[tk]:=λe=>gt ((Y1W (show g<zs.length by lia) nd).mp (hgg.trans ((congrArg some e).trans htt.symm)))
   generalize zs[5+j]'(by lia)=z5 at*
   generalize zs[g]'(by lia)=z1 at*
   generalize zs[tk]'(by lia)=z2 at*
   delta Z3P
   repeat (first|walk_at "s"|simp only[hd,hkk,hst,Y0B,Y0F])
   rw[Y03]
   refine⟨⟨_,rfl⟩,by lia,?_⟩
   refine(hJ _ _ _).mpr ⟨_,_,_,_,_,s.upd hpf _,⟨F++[⟨z5,z1,z2,kk,st⟩],?_,by rw[Y0t,fl];rfl,λi f hi=>?_,λf hf=>?_⟩,rfl⟩
   ·rw[Z02,Y11];rfl
   ·rcases Z8H hi with⟨_,hi⟩|⟨rfl,rfl⟩
    ·exact fn i f hi
    ·rw[fl];exact h5
   ·rcases Y1a.mp hf with hf|hf
    ·exact fo f hf
    ·rw[Y1c]at hf;subst hf
     exact⟨zg,zt,zn,hkk3,hst1,hst3⟩
  ·rintro σ M' h
   obtain⟨v4,v5,v6,v7,v8,s,⟨F,hd,fl,fn,fo⟩,rfl⟩:=(hJ _ _ _).mp h
   have fl:F.length=r:=fl.trans (Y1e r)
   delta Z2h
   walk_at "s"
   exact q F pf M' s hpf hd (by lia) fn fo
 ·delta Z2h
  walk_at "s"
  exact q [] pf M1 s1 hpf hd1 (by simp) (λi f h=>by simp at h) (λf h=>by simp at h)
structure IslsNew (M0 M:MH) (Is:List Isl) (ys:List MV):Prop where
 len:ys.length=Is.length
 at_:∀(i:Nat) (I:Isl) (y:MV),Is[i]?=some I->ys[i]?=some y->∃a b,y=.tup [.str I.name,.ref a,.ref b]/\M0 a=none/\M0 b=none/\M a=some (.lst (I.prs.map prV))/\M b=some (.lst (I.stps.map Stp.mv))
theorem IslsNew.inn{M0 M:MH}{Is:List Isl}{ys:List MV}(h:IslsNew M0 M Is ys):IslsIn M Is ys:=⟨h.len,λi I y a b=>by
 obtain⟨c,d,e,_,_,h1,h2⟩:=h.at_ i I y a b
 exact⟨c,d,e,h1,h2⟩⟩
theorem IslsNew.keep{M0 M M':MH}{Is:List Isl}{ys:List MV}(h:IslsNew M0 M Is ys)(s:∀a o,M a=some o->M0 a=none->M' a=some o):IslsNew M0 M' Is ys:=⟨h.len,λi I y a b=>by
 obtain⟨c,d,e,n1,n2,h1,h2⟩:=h.at_ i I y a b
 exact⟨c,d,e,n1,n2,s _ _ h1 n1,s _ _ h2 n2⟩⟩
theorem Zbr{α:Type}{v y:α}{xs:List α}{i:Nat}(h:(xs++[v])[i]?=some y):xs[i]?=some y\/(i=xs.length/\y=v):=by
 rw[List.getElem?_append]at h
 split at h
 ·exact .inl h
 ·rename_i e
  obtain⟨d,hd⟩:∃d,i - xs.length=d:=⟨_,rfl⟩
  rw[hd]at h
  cases d with
  |zero=>simp at h;exact .inr ⟨by lia,h.symm⟩
  |succ d=>simp at h
theorem IslsNew.add{M0 M:MH}{Is:List Isl}{ys:List MV}(h:IslsNew M0 M Is ys){I:Isl}{a b:Addr}(n1:M0 a=none)(n2:M0 b=none)(h1:M a=some (.lst (I.prs.map prV)))(h2:M b=some (.lst (I.stps.map Stp.mv))):IslsNew M0 M (Is++[I]) (ys++[.tup [.str I.name,.ref a,.ref b]]):=by
 refine⟨by simp[h.len],λi J y hJ hy=>?_⟩
 have l:=h.len
 rcases Zbr hJ with hJ'|⟨e1,rfl⟩<;>rcases Zbr hy with hy'|⟨e2,rfl⟩
 ·exact h.at_ i J y hJ' hy'
 ·have:=(Y08.mp hJ').1;lia
 ·have:=(Y08.mp hy').1;lia
 ·exact⟨a,b,rfl,n1,n2,h1,h2⟩
theorem Zfk{Φ:List (Str×SpM)}{own:List Str}{fr:List Nat}{src:ISr}{tg:ITg}{elt:IE}{σ:Sm}{M:MH}{Q:QM}{α:Type}(xs:List α)(f:α->MV)(R:α->MV->Prop)
  (hs:wSr Φ src σ M λS M1=>S.items=xs.map f/\xs.length<sizeLine/\S.okF M1/\SameM M M1)
  (ht:∀x∈xs,∀M',SameM M M'->wTg tg (f x) (sCm own fr σ) λσ2=>wE Φ elt σ2 M' λy M2=>R x y/\SameM M' M2)
  (hΦ:∀(j:Nat) f sp,Φ[j]?=some (f,sp)->MonW sp)
  (q:∀D M' ys,M D=none->SameM M M'->ys.length=xs.length->(∀(i:Nat) x y,xs[i]?=some x->ys[i]?=some y->R x y)->M' D=some (.lst ys)->Q (.ref D) M'):wE Φ (.comp own fr src tg .none elt) σ M Q:=by
 rw[Zbv]
 refine mon_sr hΦ src (λS M1 ⟨h1,h2,h3,h4⟩=>?_) hs
 have hl:S.len=xs.length:=by rw[<- S.items_len,h1,Y03]
 refine⟨by rw[hl];exact h2,λD hD=>⟨λi ys M2=>SameM M1 M2/\M2 D=some (.lst ys)/\ys.length=i/\∀(j:Nat) x y,xs[j]?=some x->ys[j]?=some y->R x y,⟨SameM.new hD _,Z02,rfl,λj x y _ h=>by simp at h⟩,?_,?_,?_⟩⟩
 ·rintro i ys M2 ⟨s2,d2,e,_⟩
  refine⟨d2,by lia,?_⟩
  cases S with
  |dic _ _ _=>exact h3.elim
  |lst a zs=>exact s2 _ _ h3
  |_=>trivial
 ·rintro i x ys M2 hx ⟨s2,d2,e,hr⟩
  rw[h1]at hx
  obtain⟨hi,rfl⟩:=Z0F hx
  refine Z7f tg (λσ2 h=>?_) (ht xs[i] (Y0p hi) M2 (h4.trans s2))
  rw[wI,if_pos rfl]
  refine Z04 hΦ elt (λy M3 ⟨r,s3⟩=>?_) h
  refine⟨s3 _ _ d2,(s2.trans s3).upd hD _,Z02,by rw[Y0t,e];rfl,λj x' y' hx' hy'=>?_⟩
  rcases Z8H hy' with⟨_,hy'⟩|⟨rfl,rfl⟩
  ·exact hr j x' y' hx' hy'
  ·rw[e,Y01 hi]at hx';cases hx';exact r
 ·rintro ys M2 ⟨s2,d2,e,hr⟩
  rw[Zb8 h3]
  exact q D M2 ys (h4.free hD) (h4.trans s2) (by lia) hr d2
theorem Zbd{α:Type}{P:Stp->Prop}:∀{xs:List α} {ys:List MV},ys.length=xs.length->(∀(i:Nat) x y,xs[i]?=some x->ys[i]?=some y->∃S:Stp,y=S.mv/\P S)->∃ss:List Stp,ys=ss.map Stp.mv/\ss.length=xs.length/\∀S∈ss,P S
 |[],[],_,_=>⟨[],rfl,rfl,λ_ h=>nomatch h⟩
 |[],_::_,h,_=>by cases h
 |_::_,[],h,_=>by cases h
 |x::xs,y::ys,h,r=>by
  obtain⟨S,rfl,hS⟩:=r 0 x y rfl rfl
  obtain⟨ss,rfl,l,hs⟩:=Zbd (xs:=xs) (ys:=ys) (by simpa using h) λi x y a b=>r (i+1) x y (by simpa using a) (by simpa using b)
  refine⟨S::ss,rfl,by rw[Y0I,Y0I,l],λS' h'=>?_⟩
  rcases Y0d.mp h' with rfl|h'
  ·exact hS
  ·exact hs S' h'
theorem Zhi{i:Int}(h0:0≤i)(h1:i<8):∃m:Nat,atI [MV.int 2,.int 3,.int 4,.int 5,.int 2,.int 3,.int 1,.int 0] i=some (.int m)/\m≤5:=by
 rcases(show i=0\/i=1\/i=2\/i=3\/i=4\/i=5\/i=6\/i=7 by lia)with rfl|rfl|rfl|rfl|rfl|rfl|rfl|rfl
 ·exact⟨2,Z0c (j:=0) rfl,by lia⟩
 ·exact⟨3,Z0c (j:=1) rfl,by lia⟩
 ·exact⟨4,Z0c (j:=2) rfl,by lia⟩
 ·exact⟨5,Z0c (j:=3) rfl,by lia⟩
 ·exact⟨2,Z0c (j:=4) rfl,by lia⟩
 ·exact⟨3,Z0c (j:=5) rfl,by lia⟩
 ·exact⟨1,Z0c (j:=6) rfl,by lia⟩
 ·exact⟨0,Z0c (j:=7) rfl,by lia⟩
noncomputable abbrev Z0p:SpM:=λvs M Q=>∃ns:List Int,vs=[.frl (ns.map .int),.int 3]/\ns.length≤63/\
 ∀(W:Wld) (pi pf:Addr) (ys:List MV) M',SameM M M'->W.Good->M pi=none->M pf=none->pi≠pf->M' pi=some (.lst ys)->IslsIn M' W.isl ys->M' pf=some (.lst (W.fer.map Fer.mv))->Q (.tup [.int W.w,.ref pi,.ref pf]) M'
theorem Z1q:MonW Z0p:=by walk_at "m"
theorem Z8U(T:Txt K mg t):FnOk P w K mg base CX0 13 t.f__law_world t.d__law_world ["script","start"] (liSp K Z0p):=by
 refine T.q__law_world.F.okM Z8M (Z0L (Φ:=[("_law_cell",Z1y),("_law_ferries",Z0O),("_law_mix",Z06),("_law_names",Z1c),("_law_step",Z1x),("_law_word",Z0A)]) (Z0M T) (Z0i T) rfl (fMc ⟨Z3a,(fMc ⟨Z23,(fMc ⟨Z0e,(fMc ⟨Z2E,(fMc ⟨Z39,(fMc ⟨Z1J,(fun _ h=>nomatch h)⟩)⟩)⟩)⟩)⟩)⟩) (fMc ⟨⟨_,_,_,(FnOk.mono (Z9z T) (by decide)),T.q__law_cell.m,T.q__law_cell.F.kp,T.q__law_cell.b⟩,(fMc ⟨⟨_,_,_,(FnOk.mono (Z7d T) (by decide)),T.q__law_ferries.m,T.q__law_ferries.F.kp,T.q__law_ferries.b⟩,(fMc ⟨⟨_,_,_,(FnOk.mono (Z1n T) (by decide)),T.q__law_mix.m,T.q__law_mix.F.kp,T.q__law_mix.b⟩,(fMc ⟨⟨_,_,_,(FnOk.mono (Z8V T) (by decide)),T.q__law_names.m,T.q__law_names.F.kp,T.q__law_names.b⟩,(fMc ⟨⟨_,_,_,(FnOk.mono (Z9y T) (by decide)),T.q__law_step.m,T.q__law_step.F.kp,T.q__law_step.b⟩,(fMc ⟨⟨_,_,_,(FnOk.mono (Z6e T) (by decide)),T.q__law_word.m,T.q__law_word.F.kp,T.q__law_word.b⟩,(fun _ h=>nomatch h)⟩)⟩)⟩)⟩)⟩)⟩):Fts P w K mg base 12 Z6H [("_law_cell",Z1y),("_law_ferries",Z0O),("_law_mix",Z06),("_law_names",Z1c),("_law_step",Z1x),("_law_word",Z0A)]) Z2Y Z98 (fun vs M Q h=>?_) (fun vs M Q h=>?_)
 ·obtain⟨_,rfl,_⟩:=h;rfl
 obtain⟨ns,rfl,nl,q⟩:=h
 show wSs _ _ _ [some (.frl (ns.map .int)),some (.int 3),none,none,none,none,none,none,none,none,none,none,none,none,none,none,none] M
 have hΦ:=(Z7U (Φ:=[("_law_cell",Z1y),("_law_ferries",Z0O),("_law_mix",Z06),("_law_names",Z1c),("_law_step",Z1x),("_law_word",Z0A)]) (fMc ⟨Z3a,(fMc ⟨Z23,(fMc ⟨Z0e,(fMc ⟨Z2E,(fMc ⟨Z39,(fMc ⟨Z1J,(fun _ h=>nomatch h)⟩)⟩)⟩)⟩)⟩)⟩))
 delta Z2Y Z5y
 walk_at "s"
 refine⟨ns,0,rfl,by decide,λv0=>?_⟩
 walk_at "s"
 refine⟨v0,1,rfl,?_⟩
 obtain⟨h0,h1⟩:=Z7h v0 1
 generalize Z1a v0 1=hd at*
 delta Z5x
 walk_at "s"
 intro p0 hp0
 obtain⟨m,hm,m5⟩:=Zhi (i:=hd%8) (by lia) (by lia)
 refine⟨_,hm,?_⟩
 have s0:=SameM.new hp0 (.lst [MV.int 2,.int 3,.int 4,.int 5,.int 2,.int 3,.int 1,.int 0])
 generalize updM M p0 _=M0 at*
 delta Z5w
 walk_at "s"
 refine⟨ns,1,rfl,by decide,λv1=>?_⟩
 walk_at "s"
 refine⟨v1,2,rfl,?_⟩
 walk_at "s"
 refine⟨_,17,rfl,by decide,λpn zs M1 s1 hpn hn zl znd zg=>?_⟩
 delta Z5v
 walk_at "s"
 refine⟨ns,2,rfl,by decide,λv2=>?_⟩
 walk_at "s"
 refine⟨v2,3,rfl,?_⟩
 obtain⟨z0,z1⟩:=Z7h v2 3
 generalize Z1a v2 3=sz at*
 delta Z5u
 walk_at "s"
 intro p1 hp1
 obtain⟨wd,hwd,wd1,wd2⟩:∃wd:Nat,atI [MV.int (1+sz/4%64),.int 64,.int (1+sz/4%5),.int 8] (sz%4)=some (.int wd)/\1≤wd/\wd≤64:=by
  rcases(show sz%4=0\/sz%4=1\/sz%4=2\/sz%4=3 by lia)with e|e|e|e<;>rw[e]
  ·exact⟨(1+sz/4%64).toNat,by rw[Y19 (by lia)];exact at0,by lia,by lia⟩
  ·exact⟨64,at1,by lia,by lia⟩
  ·exact⟨(1+sz/4%5).toNat,by rw[Y19 (by lia)];exact at2,by lia,by lia⟩
  ·exact⟨8,at3,by lia,by lia⟩
 refine⟨_,hwd,?_⟩
 have s2:=SameM.new hp1 (.lst [MV.int (1+sz/4%64),.int 64,.int (1+sz/4%5),.int 8])
 generalize updM M1 p1 _=M2 at*
 have hn2:=s2 _ _ hn
 delta Z5t
 walk_at "s"
 refine⟨hd,pn,zs,m,rfl,hn2,by lia,znd,m5,λF pf M3 s3 hpf hf fl fn fo=>?_⟩
 delta Z5s
 walk_at "s"
 intro pi hpi
 have s4:=SameM.new hpi (.lst [])
 have hi4:updM M3 pi (.lst []) pi=some (.lst []):=Z02
 have only:∀a,a≠pi->updM M3 pi (.lst []) a=M3 a:=λa e=>Z0j e
 generalize updM M3 pi _=M4 at*
 have ndF:(F.map (·.name)).Nodup:=by
  refine Y2K.mpr λi j hi hj hij e=>?_
  rw[Y03]at hi hj
  rw[Y31,Y31]at e
  have e1:=fn i _ (Y01 hi)
  have e2:=fn j _ (Y01 hj)
  rw[e]at e1
  have:=(Y1W (show 5+i<zs.length by lia) znd).mp (e1.trans e2.symm)
  lia
 delta Z5r
 walk_at "s"
 obtain⟨J,hJ⟩:∃J:Nat->Sm->MH->Prop,∀j σ M',J j σ M'↔∃(Is:List Isl) (ys:List MV) (v9 v10 v11 v12 v13 v14 v15 v16:Option MV),SameM M3 M'/\M' pi=some (.lst ys)/\IslsNew M4 M' Is ys/\Is.length=j/\(∀(k:Nat) I,Is[k]?=some I->zs[k]?=some I.name)/\(∀I∈Is,IslOk wd (F.map (·.name)) I/\∀s∈I.stps,Zcp F I.name s)/\
  σ=[some (.frl (ns.map MV.int)),some (.int 3),some (.int hd),some (.int m),some (.ref pn),some (.int sz),some (.int wd),some (.ref pf),some (.ref pi),v9,v10,v11,v12,v13,v14,v15,v16]:=⟨_,λ_ _ _=>Y1N⟩
 refine⟨by lia,by lia,J,(hJ 0 _ _).mpr ⟨[],[],_,_,_,_,_,_,_,_,s4,hi4,⟨rfl,λi I y h=>by simp at h⟩,rfl,λk I h=>by simp at h,λI h=>(nomatch h),rfl⟩,λj σ M' h=>trivial,?_,?_⟩
 ·rintro i u σ M' hu h
  obtain⟨Is,ys,v9,v10,v11,v12,v13,v14,v15,v16,s,hys,hI,il,inm,io,rfl⟩:=(hJ _ _ _).mp h
  obtain⟨hi,rfl⟩:=Z6V hu
  have hi:i<m:=by simpa using hi
  have hyl:=hI.len
  have bk:∀x,M' x=none->M4 x=none:=λx hx=>by
   by_cases e:x=pi
   ·subst e;rw[hys]at hx;cases hx
   ·rw[only x e];exact s.free hx
  delta Z5q
  walk_at "s"
  refine⟨sz,20+(0+(i:Nat)),rfl,?_⟩
  obtain⟨r0,r1⟩:=Z7h sz (20+(0+(i:Nat)))
  generalize Z1a sz (20+(0+(i:Nat)))=mr at*
  have hn5:=s _ _ (s3 _ _ hn2)
  delta Z5p
  walk_at "s"
  intro pq hpq
  obtain⟨fs,hfs,fs11⟩:∃fs:Nat,atI [MV.int 11,.int 11,.int 5,.int 0] (mr/7%4)=some (.int fs)/\fs≤11:=by
   rcases(show mr/7%4=0\/mr/7%4=1\/mr/7%4=2\/mr/7%4=3 by lia)with e|e|e|e<;>rw[e]
   ·exact⟨11,at0,by lia⟩
   ·exact⟨11,at1,by lia⟩
   ·exact⟨5,at2,by lia⟩
   ·exact⟨0,at3,by lia⟩
  refine⟨_,hfs,?_⟩
  have sq:=SameM.new hpq (.lst [MV.int 11,.int 11,.int 5,.int 0])
  generalize updM M' pq _=Mq at*
  delta Z4C
  repeat (first|walk_at "s"|simp only[sq _ _ hn5])
  intro po hpo
  obtain⟨zo,hzo,zol,zond,zoin⟩:∃zo:List Str,cutM (zs.map MV.str) (some (fs:Int)) (some ((fs:Int)+mr%7))=zo.map MV.str/\zo.length≤6/\zo.Nodup/\∀z∈zo,z∈zs:=by
   obtain⟨d,hd,d6⟩:∃d:Nat,mr%7=(d:Int)/\d≤6:=⟨(mr%7).toNat,by lia,by lia⟩
   have e2:(fs:Int)+mr%7=((fs+d:Nat):Int):=by lia
   rw[e2]
   refine⟨(zs.drop (HT.sIx (zs.map MV.str).length 0 (some (fs:Int)))).take (HT.sIx (zs.map MV.str).length (zs.map MV.str).length (some ((fs+d:Nat):Int)) - HT.sIx (zs.map MV.str).length 0 (some (fs:Int))),?_,?_,?_,λz hz=>List.mem_of_mem_drop (Y2n hz)⟩
   ·unfold cutM;rw[List.map_take,List.map_drop]
   ·have h1:=HT.sIx_nat (zs.map MV.str).length 0 fs
    have h2:=HT.sIx_nat (zs.map MV.str).length (zs.map MV.str).length (fs+d)
    rw[Y03,zl]at h1 h2 ⊢
    rw[h1,h2,Y0A,Y1l];lia
   ·exact(znd.sublist (List.drop_sublist ..)).sublist (Y2M ..)
  rw[hzo]
  have s5:=SameM.new hpo (.lst (zo.map MV.str))
  have ho5:updM Mq po (.lst (zo.map MV.str)) po=some (.lst (zo.map MV.str)):=Z02
  generalize updM Mq po _=M5 at*
  replace s5:=sq.trans s5
  delta Z4B
  walk_at "s"
  refine Z3Y (Y0E ((ns.length:Int) - 3).toNat) (λk=>.int (3+(k:Nat))) (λk=>.int (ns.getD (3+k) 0%1000000007)) (λk=>decide ((3+(k:Int) - 3)%(m:Int)=0+(i:Nat))) ?_ ?_ hΦ λpc hpc=>?_
  ·walk_at "s"
   rw[Y03]
   refine⟨⟨by lia,by lia⟩,rfl,by rw[Y15];lia,trivial⟩
  ·intro k hk M6 s6
   have hk:k<((ns.length:Int) - 3).toNat:=Y2E.mp hk
   have hkn:3+k<ns.length:=by lia
   simp only[sCm,Y0b,Y0M,Y0r,Y0s,Y0B,Y0F]
   walk_at "s"
   refine⟨by lia,λ_=>⟨.int ns[3+k],?_,?_⟩⟩
   ·have e:(3:Int)+(k:Nat)=((3+k:Nat):Int):=by lia
    rw[e]
    exact Z0c (by rw[Y06,Y01 hkn];rfl)
   ·walk_at "s"
    rw[Y0x,Y01 hkn];rfl
  obtain⟨cs,hcs,csl⟩:∃cs:List Int,((Y0E ((ns.length:Int) - 3).toNat).filter (λk:Nat=>decide ((3+(k:Int) - 3)%(m:Int)=0+(i:Nat)))).map (λk=>MV.int (ns.getD (3+k) 0%1000000007))=cs.map MV.int/\cs.length≤63:=by
   refine⟨((Y0E ((ns.length:Int) - 3).toNat).filter (λk:Nat=>decide ((3+(k:Int) - 3)%(m:Int)=0+(i:Nat)))).map (λk=>ns.getD (3+k) 0%1000000007),by rw[Y0R];rfl,?_⟩
   rw[Y03]
   exact Y0N (List.length_filter_le ..) (by rw[Y15];lia)
  rw[hcs]
  have s6:=SameM.new hpc (.lst (cs.map MV.int))
  have hc6:updM M5 pc (.lst (cs.map MV.int)) pc=some (.lst (cs.map MV.int)):=Z02
  generalize updM M5 pc _=M6 at*
  delta Z4A
  repeat (first|walk_at "s"|simp only[hc6])
  obtain⟨ln,hln,hln2⟩:∃ln:Nat,(if(12:Int)<((cs.map MV.int).length:Nat)then(12:Int)else((cs.map MV.int).length:Nat))=(ln:Int)/\ln=min 12 cs.length:=by
   rw[Y03]
   by_cases h:(12:Int)<(cs.length:Nat)
   ·rw[if_pos h];exact⟨12,rfl,by lia⟩
   ·rw[if_neg h];exact⟨cs.length,rfl,by lia⟩
  rw[hln];delta Z4z
  walk_at "s"
  refine Z9S (Y0E zo.length) (λj=>.int (0+(j:Nat))) (λj=>.tup [.str (zo.getD j default),.int (Z2n (Z1a mr (0+(j:Nat))) wd)]) ?_ ?_ hΦ λpp M7 hpp s7 hp7=>?_
  ·repeat (first|walk_at "s"|simp only[s6 _ _ ho5])
   rw[Y03]
   exact⟨by lia,by lia,rfl,by rw[Y15];lia,trivial,λ_ _ e=>e⟩
  ·intro j hj M7 s7
   have hj:j<zo.length:=Y2E.mp hj
   simp only[sCm,Y0b,Y0M,Y0r,Y0s,Y0B,Y0F]
   repeat (first|walk_at "s"|simp only[s7 _ _ (s6 _ _ ho5)])
   refine⟨_,Z8w (k:=j) (by lia) (Y01 hj),?_⟩
   try walk_at "s"
   refine⟨mr,_,rfl,?_⟩
   try walk_at "s"
   refine⟨_,wd,rfl,wd2,λM8 s8=>?_⟩
   try walk_at "s"
   refine⟨?_,s8⟩
   rw[Y0x,Y01 hj];rfl
  have s7:SameM M6 M7:=s7
  obtain⟨prs,hprs⟩:∃prs:List (Str×Int),(Y0E zo.length).map (λj:Nat=>(zo.getD j default,Z2n (Z1a mr (0+(j:Nat))) wd))=prs:=⟨_,rfl⟩
  have hp7:M7 pp=some (.lst (prs.map prV)):=by rw[hp7,<- hprs,Y0R];rfl
  have hzi:=Y01 (show i<zs.length by lia)
  generalize zs[i]'(by lia)=zi at*
  have s57:=(s5.trans s6).trans s7
  have hf7:=s57 _ _ (s _ _ hf)
  delta Z4y
  walk_at "s"
  refine Zfk (cs.take 12) MV.int (λ_ y=>∃S:Stp,y=S.mv/\(Z9d (F.map (·.name)) zo ln S/\Zcp F zi S)) ?_ ?_ hΦ λps M8 yss hps s8 ysl hyr hs8=>?_
  ·repeat (first|walk_at "s"|simp only[s7 _ _ hc6])
   intro p hp
   have e12:=Zcb (cs.map MV.int) 12
   have e12:cutM (cs.map MV.int) none (some 12)=(cs.take 12).map MV.int:=by rw[List.map_take];exact e12
   rw[e12]
   try walk_at "s"
   refine⟨rfl,by rw[Y0A];lia,?_,SameM.new hp _⟩
   exact Z02
  ·intro c hc M8 s8
   simp only[sCm,Y0b,Y0M,Y0r,Y0s,Y0B,Y0F]
   walk_at "s"
   refine⟨c,4,rfl,?_⟩
   repeat (first|walk_at "s"|simp only[s8 _ _ (s57 _ _ hn5)])
   refine⟨_,Z8w (k:=i) (by lia) hzi,?_⟩
   try walk_at "s"
   refine⟨_,zi,pf,po,F,zo,ln,rfl,s8 _ _ hf7,fl,ndF,s8 _ _ ((s6.trans s7) _ _ ho5),zol,by lia,λS M9 s9 si se=>?_⟩
   exact⟨⟨S,rfl,si,se⟩,s9⟩
  obtain⟨ss,rfl,ssl,ssP⟩:=Zbd ysl hyr
  have ssl:ss.length=ln:=by rw[ssl,Y0A];lia
  have s78:=s57.trans s8
  delta Z4x
  repeat (first|walk_at "s"|simp only[s78 _ _ hn5,s78 _ _ hys])
  refine⟨⟨_,rfl⟩,_,Z8w (k:=i) (by lia) hzi,?_⟩
  repeat (first|walk_at "s"|simp only[s78 _ _ hys])
  have vars:prs.map (·.1)=zo:=by
   rw[<- hprs,Y0R]
   apply Y2i
   intro k
   rw[Y06]
   by_cases hk:k<zo.length
   ·rw[List.getElem?_range hk,Y01 hk]
    show some (zo.getD k default)=_
    rw[Y0x,Y01 hk];rfl
   ·rw[Y0Q (by rw[Y15];lia),Y0Q (by lia)];rfl
  have prl:prs.length=zo.length:=by rw[<- vars,Y03]
  have n1:M4 pp=none:=bk _ ((s5.trans s6).free hpp)
  have n2:M4 ps=none:=bk _ (s57.free hps)
  have s8':∀x o,M8 x=some o->M4 x=none->updM M8 pi (.lst (ys++[.tup [.str zi,.ref pp,.ref ps]])) x=some o:=λx o h n=>by
   rw[Z0j (λe=>by subst e;rw[hi4]at n;cases n)];exact h
  refine⟨by lia,(hJ _ _ _).mpr ⟨Is++[⟨zi,prs,ss⟩],_,_,_,_,_,_,_,_,_,(s.trans s78).upd hpi _,Z02,?_,by rw[Y0t,il];rfl,λk I hk=>?_,λI hI'=>?_,rfl⟩⟩
  ·refine(hI.keep λx o h n=>s8' x o (s78 _ _ h) n).add (I:=⟨zi,prs,ss⟩) n1 n2 (s8' _ _ (s8 _ _ hp7) n1) (s8' _ _ hs8 n2)
  ·rcases Z8H hk with⟨_,hk⟩|⟨rfl,rfl⟩
   ·exact inm k I hk
   ·rw[il];exact hzi
  ·rcases Y1a.mp hI' with h'|h'
   ·exact io I h'
   ·rw[Y1c]at h';subst h'
    refine⟨⟨by show prs.length≤6;lia,by show ss.length≤12;lia,?_,?_,?_,?_⟩,λS hS=>(ssP S hS).2⟩
    ·show(prs.map (·.1)).Nodup
     rw[vars];exact zond
    ·intro x hx
     have hx:x∈prs.map (·.1):=hx
     rw[vars]at hx
     exact zg x (zoin x hx)
    ·intro x hx
     have hx:x∈prs:=hx
     rw[<- hprs]at hx
     obtain⟨j,_,rfl⟩:=Y0o.mp hx
     exact ZaF _ _
    ·intro S hS
     show Z9d _ (prs.map (·.1)) ss.length S
     rw[vars,ssl];exact(ssP S hS).1
 ·rintro σ M' h
  obtain⟨Is,ys,v9,v10,v11,v12,v13,v14,v15,v16,s,hys,hI,il,inm,io,rfl⟩:=(hJ _ _ _).mp h
  have il:Is.length=m:=il.trans (Y1e m)
  delta Z4w
  walk_at "s"
  have s03:=((s0.trans s1).trans s2).trans s3
  have eI:Is.map (·.name)=zs.take m:=by
   apply Y2i
   intro k
   by_cases hk:k<m
   ·rw[Y06,Y1D hk,Y01 (show k<Is.length by lia),inm k _ (Y01 (show k<Is.length by lia))];rfl
   ·rw[Y0Q (by rw[Y03];lia),Y0Q (by rw[Y0A];lia)]
  have eF:∀z∈F.map (·.name),∃j:Nat,j<F.length/\zs[5+j]?=some z:=λz hz=>by
   obtain⟨f,hf,rfl⟩:=Y0o.mp hz
   obtain⟨j,hj,rfl⟩:=Y0U hf
   exact⟨j,hj,fn j _ (Y01 hj)⟩
  refine q ⟨wd,Is,F⟩ pi pf ys M' (s03.trans s) ?_ (s03.free hpi) (((s0.trans s1).trans s2).free hpf) (neM hf hpi).symm hys hI.inn (s _ _ hf)
  refine⟨wd1,wd2,by show Is.length≤5;lia,by show F.length≤6;exact fl,λz hz=>?_,λz hz=>?_,?_,λI hi=>(io I hi).1,λf hf=>?_,λI hi=>(io I hi).2⟩
  ·obtain⟨j,_,e⟩:=eF z hz
   exact zg z (Y0i e)
  ·have hz:z∈Is.map (·.name):=hz
   rw[eI]at hz
   exact zg z (Y2n hz)
  ·show(F.map (·.name)++Is.map (·.name)).Nodup
   rw[Y1g,eI]
   refine⟨ndF,znd.sublist (Y2M ..),λa ha b hb e=>?_⟩
   subst e
   obtain⟨j,_,e1⟩:=eF a ha
   obtain⟨k,hk,e2⟩:=Y0U hb
   rw[Y0A]at hk
   rw[List.getElem_take]at e2
   have:=(Y1W (show k<zs.length by lia) znd).mp ((Y01 (show k<zs.length by lia)).trans ((congrArg some e2).trans e1.symm))
   lia
  ·show FerOk (Is.map (·.name)) f
   rw[eI];exact fo f hf
theorem Zjs(T:Txt K mg t):FnOk P w K mg base CX0 60 t.f_law t.d_law ["script"] (liSp K ZfF):=by
 refine T.q_law.F.okM Ziq (Z0L (Φ:=[("_law_refused",Z0d),("_law_world",Z0p),("ferries_at",Z0o),("ferry_of",Z0B),("island_of",Z0q),("made",Z2T)]) (Z0M T) (Z0i T) rfl (fMc ⟨Z15,(fMc ⟨Z1q,(fMc ⟨Z1p,(fMc ⟨Z1L,(fMc ⟨Z1r,(fMc ⟨Z4R,(fun _ h=>nomatch h)⟩)⟩)⟩)⟩)⟩)⟩) (fMc ⟨⟨_,_,_,(FnOk.mono (Z7c T) (by decide)),T.q__law_refused.m,T.q__law_refused.F.kp,T.q__law_refused.b⟩,(fMc ⟨⟨_,_,_,(FnOk.mono (Z8U T) (by decide)),T.q__law_world.m,T.q__law_world.F.kp,T.q__law_world.b⟩,(fMc ⟨⟨_,_,_,(FnOk.mono (Z8T T) (by decide)),T.q_ferries_at.m,T.q_ferries_at.F.kp,T.q_ferries_at.b⟩,(fMc ⟨⟨_,_,_,(FnOk.mono (Z9A T) (by decide)),T.q_ferry_of.m,T.q_ferry_of.F.kp,T.q_ferry_of.b⟩,(fMc ⟨⟨_,_,_,(FnOk.mono (Z8W T) (by decide)),T.q_island_of.m,T.q_island_of.F.kp,T.q_island_of.b⟩,(fMc ⟨⟨_,_,_,(FnOk.mono (Zh2 T) (by decide)),T.q_made.m,T.q_made.F.kp,T.q_made.b⟩,(fun _ h=>nomatch h)⟩)⟩)⟩)⟩)⟩)⟩):Fts P w K mg base 59 Zkc [("_law_refused",Z0d),("_law_world",Z0p),("ferries_at",Z0o),("ferry_of",Z0B),("island_of",Z0q),("made",Z2T)]) Zdq Zk7 (fun vs M Q h=>?_) (fun vs M Q h=>?_)
 ·obtain⟨ns,rfl,_⟩:=h;rfl
 obtain⟨ns,rfl,h63,q⟩:=h
 have hΦ:=(Z7U (Φ:=[("_law_refused",Z0d),("_law_world",Z0p),("ferries_at",Z0o),("ferry_of",Z0B),("island_of",Z0q),("made",Z2T)]) (fMc ⟨Z15,(fMc ⟨Z1q,(fMc ⟨Z1p,(fMc ⟨Z1L,(fMc ⟨Z1r,(fMc ⟨Z4R,(fun _ h=>nomatch h)⟩)⟩)⟩)⟩)⟩)⟩))
 show wSs _ _ _ [some (.frl (ns.map .int)),none,none,none,none,none,none,none,none,none,none,none,none,none,none] M
 have hΦ:=(Z7U (Φ:=[("_law_refused",Z0d),("_law_world",Z0p),("ferries_at",Z0o),("ferry_of",Z0B),("island_of",Z0q),("made",Z2T)]) (fMc ⟨Z15,(fMc ⟨Z1q,(fMc ⟨Z1p,(fMc ⟨Z1L,(fMc ⟨Z1r,(fMc ⟨Z4R,(fun _ h=>nomatch h)⟩)⟩)⟩)⟩)⟩)⟩))
 delta Zdq Zgd
 walk_at "s"
 refine⟨ns,rfl,h63,λW pi pf ys M1 s1 G hpi hpf hne hi hI hf=>?_⟩
 refine⟨_,rfl,?_⟩
 walk_at "s"
 clear hpi hpf s1
 have i5:=G.i5
 have f6:=G.f6
 have z1:(W.isl.zip ys).map (λx=>x.2)=ys:=List.map_snd_zip (Y26 hI.1)
 have z2:(W.isl.zip ys).map (λx=>x.1.mv)=W.isl.map Isl.mv:=by
  have:(W.isl.zip ys).map (λx=>x.1)=W.isl:=List.map_fst_zip (Y26 hI.1.symm)
  conv=>rhs;rw[<- this,Y0R]
  rfl
 have zl:(W.isl.zip ys).length=W.isl.length:=by rw[Y3o,hI.1,Nat.min_self]
 have zi:∀x∈W.isl.zip ys,∃a b,x.2=.tup [.str x.1.name,.ref a,.ref b]/\M1 a=some (.lst (x.1.prs.map prV))/\M1 b=some (.lst (x.1.stps.map Stp.mv)):=by
  intro x hx
  obtain⟨k,hk,rfl⟩:=Y0U hx
  rw[List.getElem_zip]
  have h1:k<W.isl.length:=by rw[<- zl];exact hk
  have h2:k<ys.length:=by rw[hI.1];exact h1
  exact hI.2 k _ _ (Y01 h1) (Y01 h2)
 delta Zgc
 walk_at "s"
 refine Z1j (W.isl.zip ys) (λx=>x.2) (λx=>x.1.mv) ?_ ?_ hΦ λpd hpd=>?_
 ·repeat (first|walk_at "s"|simp only[hi])
  exact⟨z1.symm,by rw[zl];lia,hi⟩
 ·intro x hx M' s
  obtain⟨a,b,e,ha,hb⟩:=zi x hx
  have ha:=s _ _ ha
  have hb:=s _ _ hb
  rw[e]
  simp only[sCm,Y0b,Y0M,Y0r,Y0s,Y0B,Y0F]
  repeat (first|walk_at "s"|simp only[ha,hb])
  rfl
 rw[z2]
 have s2:=SameM.new hpd (.lst (W.isl.map Isl.mv))
 have hd:updM M1 pd (.lst (W.isl.map Isl.mv)) pd=some (.lst (W.isl.map Isl.mv)):=Z02
 have hi2:=s2 _ _ hi
 have hf2:=s2 _ _ hf
 have hI2:=hI.keep s2
 have npd:∀q o,M1 q=some o->q≠pd:=λq o h=>neM h hpd
 generalize updM M1 pd _=M2 at*
 delta Zgb
 repeat (first|walk_at "s"|simp only[hi2,hf2])
 intro h0 hh0
 have s3:=SameM.new hh0 (.lst ys)
 have e0:updM M2 h0 (.lst ys) h0=some (.lst ys):=Z02
 generalize updM M2 h0 _=M3 at*
 refine⟨_,s3 _ _ hf2,λh1 hh1=>?_⟩
 have n01:h0≠h1:=neM e0 hh1
 have d0:pd≠h0:=neM hd hh0
 have d1:pd≠h1:=neM (s3 _ _ hd) hh1
 have s4:=SameM.new hh1 (.lst (W.fer.map Fer.mv))
 have e1:updM M3 h1 (.lst (W.fer.map Fer.mv)) h1=some (.lst (W.fer.map Fer.mv)):=Z02
 have e0:=s4 _ _ e0
 generalize updM M3 h1 _=M4 at*
 intro ph hph
 have n0h:h0≠ph:=neM e0 hph
 have n1h:h1≠ph:=neM e1 hph
 have s5:=SameM.new hph (.lst [.ref h0,.ref h1])
 have eh:updM M4 ph (.lst [.ref h0,.ref h1]) ph=some (.lst [.ref h0,.ref h1]):=Z02
 have e0:=s5 _ _ e0
 have e1:=s5 _ _ e1
 have s25:=s3.trans (s4.trans s5)
 generalize updM M4 ph _=M5 at*
 have s15:=s2.trans s25
 delta Zga
 repeat (first|walk_at "s"|simp only[eh])
 refine⟨h0,h1,ys,W,rfl,e0,hI.keep s15,e1,G,λM6 s6=>?_⟩
 walk_at "s"
 have s16:=s15.trans s6
 have eh:=s6 _ _ eh
 have e0:=s6 _ _ e0
 have e1:=s6 _ _ e1
 have hi6:=s16 _ _ hi
 have hf6:=s16 _ _ hf
 have hI6:=hI.keep s16
 have hd6:=(s25.trans s6) _ _ hd
 have nh0:∀q o,M1 q=some o->q≠h0:=λq o h=>neM (s2 _ _ h) hh0
 have nh1:∀q o,M1 q=some o->q≠h1:=λq o h=>neM ((s2.trans s3) _ _ h) hh1
 have nph:∀q o,M1 q=some o->q≠ph:=λq o h=>neM ((s2.trans (s3.trans s4)) _ _ h) hph
 clear s3 s4 s5 s6 s25 s15 hh0 hh1 hph hi2 hf2 hI2
 delta Zg9
 walk_at "s"
 intro pq hpq
 have s7:=SameM.new hpq (.lst [.ref pi,.ref pf])
 have eq7:updM M6 pq (.lst [.ref pi,.ref pf]) pq=some (.lst [.ref pi,.ref pf]):=Z02
 generalize updM M6 pq _=M7 at*
 have s17:=s16.trans s7
 have al:Alike M7 13 (.ref ph) (.ref pq):=by
  refine Alike.lst (.inr ⟨_,rfl,s7 _ _ eh⟩) (.inr ⟨_,rfl,eq7⟩) rfl λi u v e e'=>?_
  match i with
  |0=>
   cases e;cases e'
   refine Alike.lst (.inr ⟨_,rfl,s7 _ _ e0⟩) (.inr ⟨_,rfl,s7 _ _ hi6⟩) rfl λi u v e e'=>?_
   rw[e]at e'
   cases e'
   exact Zcn G (hI6.keep s7) u (Y0i e)
  |1=>
   cases e;cases e'
   refine Alike.lst (.inr ⟨_,rfl,s7 _ _ e1⟩) (.inr ⟨_,rfl,s7 _ _ hf6⟩) rfl λi u v e e'=>?_
   rw[e]at e'
   cases e'
   obtain⟨x,_,rfl⟩:=Y0o.mp (Y0i e)
   exact Z1u 11 _ rfl
  |i+2=>cases e
 refine Z5L rfl al (by decide) ?_
 try walk_at "s"
 delta Zg8
 have hf7:=s7 _ _ hf6
 repeat (first|walk_at "s"|simp only[hf7])
 intro pe hpe
 have n0e:h0≠pe:=neM (s7 _ _ e0) hpe
 have n1e:h1≠pe:=neM (s7 _ _ e1) hpe
 have s8:=SameM.new hpe (.lst (W.fer.map Fer.mv))
 have ee:updM M7 pe (.lst (W.fer.map Fer.mv)) pe=some (.lst (W.fer.map Fer.mv)):=Z02
 have s18:=s17.trans s8
 have npe:∀q o,M1 q=some o->q≠pe:=λq o h=>neM (s17 _ _ h) hpe
 have eh:=s8 _ _ (s7 _ _ eh)
 have e0:=s8 _ _ (s7 _ _ e0)
 have e1:=s8 _ _ (s7 _ _ e1)
 have hd8:=s8 _ _ (s7 _ _ hd6)
 have hi8:=s18 _ _ hi
 generalize updM M7 pe _=M8 at*
 clear s7 s8 hpq hpe hf7 al eq7 hd6 hi6 hf6 hI6 s16 s17
 delta Zg7
 repeat (first|walk_at "s"|simp only[hi8])
 obtain⟨Lk,hLk⟩:∃Lk:Nat->MH->Addr->Prop,∀k M' a,Lk k M' a↔∃u,M' a=some (.lst u)/\u.length≤k:=⟨_,λ_ _ _=>Y1N⟩
 have lk_put:∀{k:Nat} {M':MH} {a c:Addr} {u:List MV} {z:MV},u.length≤k->Lk k M' c->Lk (k+1) (updM M' a (.lst (u++[z]))) c:=by
  intro k M' a c u z hu hc
  obtain⟨v,hv,hl⟩:=(hLk _ _ _).mp hc
  by_cases e:c=a
  ·subst e
   exact(hLk _ _ _).mpr ⟨_,Z02,by rw[Y0t];simpa using hu⟩
  ·exact(hLk _ _ _).mpr ⟨v,by rw[Z0j e];exact hv,by lia⟩
 obtain⟨Kp',hKp⟩:∃Kp':MH->Prop,∀M',Kp' M'↔M' pi=some (.lst ys)/\M' pd=some (.lst (W.isl.map Isl.mv))/\M' pe=some (.lst (W.fer.map Fer.mv))/\M' ph=some (.lst [.ref h0,.ref h1])/\M' h0=some (.lst ys)/\M' h1=some (.lst (W.fer.map Fer.mv)):=⟨_,λ_=>Y1N⟩
 have kp_put:∀{M':MH} {a:Addr} {o:MO},a≠pi->a≠pd->a≠pe->a≠ph->a≠h0->a≠h1->Kp' M'->Kp' (updM M' a o):=by
  intro M' a o n1 n2 n3 n4 n5 n6 h
  obtain⟨a1,a2,a3,a4,a5,a6⟩:=(hKp _).mp h
  exact(hKp _).mpr ⟨by rw[Z0j n1.symm];exact a1,by rw[Z0j n2.symm];exact a2,by rw[Z0j n3.symm];exact a3,by rw[Z0j n4.symm];exact a4,by rw[Z0j n5.symm];exact a5,by rw[Z0j n6.symm];exact a6⟩
 obtain⟨J,hJ⟩:∃J:Nat->Sm->MH->Prop,∀j σ M',J j σ M'↔Kp' M'/\(∀x∈W.isl.zip ys,∃a b,x.2=.tup [.str x.1.name,.ref a,.ref b]/\M1 a=some (.lst (x.1.prs.map prV))/\M1 b=some (.lst (x.1.stps.map Stp.mv))/\Lk (12+2*j) M' a/\Lk (12+2*j) M' b)/\
   ∃v8 v9 v10,σ=[some (.frl (ns.map MV.int)),some (.int W.w),some (.ref pi),some (.ref pf),some (.ref pd),some (.ref ph),some W.mv,some (.ref pe),v8,v9,v10,none,none,none,none]:=⟨_,λ_ _ _=>Y1N⟩
 refine⟨J,(hJ _ _ _).mpr ⟨(hKp _).mpr ⟨hi8,hd8,ee,eh,e0,e1⟩,λx hx=>?_,_,_,_,rfl⟩,λj σ M' h=>((hKp _).mp ((hJ _ _ _).mp h).1).1,?_,?_⟩
 ·obtain⟨a,b,e,ha,hb⟩:=zi x hx
  have hx1:x.1∈W.isl:=(Y2r hx).1
  have ok:=G.io _ hx1
  exact⟨a,b,e,ha,hb,(hLk _ _ _).mpr ⟨_,s18 _ _ ha,by rw[Y03];have:=ok.nv;lia⟩,(hLk _ _ _).mpr ⟨_,s18 _ _ hb,by rw[Y03];have:=ok.ns;lia⟩⟩
 ·rintro j y σ M' hy h
  obtain⟨hk,hL,v8,v9,v10,rfl⟩:=(hJ _ _ _).mp h
  have hy:ys[j]?=some y:=hy
  have hj2:j<ys.length:=(Y08.mp hy).1
  have hj1:j<W.isl.length:=by rw[<- hI.1];exact hj2
  have hxz:(W.isl[j],ys[j])∈W.isl.zip ys:=Y0i (i:=j) (by rw[Y2J];exact⟨Y01 hj1,Y01 hj2⟩)
  rw[Y01 hj2]at hy
  obtain rfl:=Y0C hy
  obtain⟨a,b,e,ha,hb,la,lb⟩:=hL _ hxz
  have e:ys[j]=.tup [.str W.isl[j].name,.ref a,.ref b]:=e
  have npi:∀(q:Addr) (l:List MV),M1 q=some (.lst l)->(∀y∈l,∃x z r,y=.tup (x::z::r)/\∀c,z≠.ref c)->q≠pi:=by
   intro q l hq hl e'
   subst e'
   rw[hi]at hq
   cases hq
   obtain⟨x,z,r,e2,hz⟩:=hl _ (Y0p hj2)
   rw[e]at e2
   cases e2
   exact hz _ rfl
  have na:a≠pi:=npi a _ ha λy hy=>by obtain⟨x,_,rfl⟩:=Y0o.mp hy;exact⟨_,_,_,rfl,λc z=>nomatch z⟩
  have nb:b≠pi:=npi b _ hb λy hy=>by
   obtain⟨x,_,rfl⟩:=Y0o.mp hy
   cases x with
   |take f x=>exact⟨_,_,_,rfl,λc z=>nomatch z⟩
   |give f T=>exact⟨_,_,_,rfl,λc z=>nomatch z⟩
   |put x T=>exact⟨_,_,_,rfl,λc z=>nomatch z⟩
   |jump T i=>exact⟨_,_,_,rfl,λc z=>by cases T<;>cases z⟩
  rw[e]
  walk_at "s"
  delta Zg6
  obtain⟨u,hu,ul⟩:=(hLk _ _ _).mp la
  repeat (first|walk_at "s"|simp only[hu])
  refine⟨⟨_,rfl⟩,by lia,?_⟩
  have hk1:=kp_put (o:=.lst (u++[.tup [.str "zz",.int 0]])) na (npd _ _ ha) (npe _ _ ha) (nph _ _ ha) (nh0 _ _ ha) (nh1 _ _ ha) hk
  have hL1:∀c,Lk (12+2*j) M' c->Lk (12+2*j+1) (updM M' a (.lst (u++[.tup [.str "zz",.int 0]]))) c:=fun c=>lk_put ul
  generalize updM M' a _=M9 at*
  delta Zg5
  obtain⟨v,hv,vl⟩:=(hLk _ _ _).mp (hL1 _ lb)
  repeat (first|walk_at "s"|simp only[hv])
  refine⟨⟨_,rfl⟩,by lia,?_⟩
  refine(hJ _ _ _).mpr ⟨kp_put nb (npd _ _ hb) (npe _ _ hb) (nph _ _ hb) (nh0 _ _ hb) (nh1 _ _ hb) hk1,λx hx=>?_,_,_,_,rfl⟩
  obtain⟨a',b',e',ha',hb',la',lb'⟩:=hL x hx
  exact⟨a',b',e',ha',hb',lk_put vl (hL1 _ la'),lk_put vl (hL1 _ lb')⟩
 ·rintro σ M' h
  obtain⟨hk,_,v8,v9,v10,rfl⟩:=(hJ _ _ _).mp h
  obtain⟨k1,k2,k3,k4,k5,k6⟩:=(hKp _).mp hk
  delta ZdK
  repeat (first|walk_at "s"|simp only[k4,k5])
  refine⟨⟨_,rfl⟩,ys,k5,?_⟩
  have p2:updM M' h0 (.lst []) pd=_:=(Z0j d0).trans k2
  have p3:updM M' h0 (.lst []) pe=_:=(Z0j n0e.symm).trans k3
  have p4:updM M' h0 (.lst []) ph=_:=(Z0j n0h.symm).trans k4
  have p6:updM M' h0 (.lst []) h1=_:=(Z0j n01.symm).trans k6
  show wSs ([("_law_refused",Z0d),("_law_world",Z0p),("ferries_at",Z0o),("ferry_of",Z0B),("island_of",Z0q),("made",Z2T)]:List (Str×SpM)) ZaQ _ _ (updM M' h0 (.lst []))
  generalize updM M' h0 _=M10 at*
  delta ZaQ
  repeat (first|walk_at "s"|simp only[p4,p6])
  refine⟨⟨_,rfl⟩,_,p6,?_⟩
  have r2:updM M10 h1 (.lst []) pd=_:=(Z0j d1).trans p2
  have r3:updM M10 h1 (.lst []) pe=_:=(Z0j n1e.symm).trans p3
  show wSs ([("_law_refused",Z0d),("_law_world",Z0p),("ferries_at",Z0o),("ferry_of",Z0B),("island_of",Z0q),("made",Z2T)]:List (Str×SpM)) ZaP _ _ (updM M10 h1 (.lst []))
  generalize updM M10 h1 _=M11 at*
  clear k1 k2 k3 k4 k5 k6 p2 p3 p4 p6 hk h
  delta ZaP
  repeat (first|walk_at "s"|simp only[r2,r3,Wld.mv])
  refine Z5L rfl (Z1u 13 _ (Zfh G)) (by decide) ?_
  rw[if_neg (by decide)]
  have shi:∀I∈W.isl,ShortT I.name:=λI hI=>Zbc (G.ig _ (Y0o.mpr ⟨I,hI,rfl⟩))
  have shf:∀f∈W.fer,ShortT f.name:=λf hf=>Zbc (G.fg _ (Y0o.mpr ⟨f,hf,rfl⟩))
  have last:∀(M3:MH) (v8 v9 v10 v11 v12 v13:Option MV),M3 pd=some (.lst (W.isl.map Isl.mv))->M3 pe=some (.lst (W.fer.map Fer.mv))->wSs ([("_law_refused",Z0d),("_law_world",Z0p),("ferries_at",Z0o),("ferry_of",Z0B),("island_of",Z0q),("made",Z2T)]:List (Str×SpM)) ZaO {nx:=fun _ M'=>Q .non M',rt:=Q} [some (.frl (ns.map MV.int)),some (.int W.w),some (.ref pi),some (.ref pf),some (.ref pd),some (.ref ph),some W.mv,some (.ref pe),v8,v9,v10,v11,v12,v13,none] M3:=by
   intro M3 v8 v9 v10 v11 v12 v13 hd3 he3
   delta ZaO
   repeat (first|walk_at "s"|simp only[he3])
   obtain⟨J3,hJ3⟩:∃J:Nat->Sm->MH->Prop,∀j σ M',J j σ M'↔M'=M3/\∃v14,σ=[some (.frl (ns.map MV.int)),some (.int W.w),some (.ref pi),some (.ref pf),some (.ref pd),some (.ref ph),some W.mv,some (.ref pe),v8,v9,v10,v11,v12,v13,v14]:=⟨_,λ_ _ _=>Y1N⟩
   refine⟨J3,(hJ3 _ _ _).mpr ⟨rfl,_,rfl⟩,λj σ M' h=>by rw[((hJ3 _ _ _).mp h).1];exact he3,?_,?_⟩
   ·rintro j y σ M' hy h
    obtain⟨rfl,v14,rfl⟩:=(hJ3 _ _ _).mp h
    obtain⟨hj,rfl⟩:=Z0F (show(W.fer.map Fer.mv)[j]?=some y from hy)
    have hIj:W.fer[j]?=some W.fer[j]:=Y01 hj
    have hIm:W.fer[j]∈W.fer:=Y0p hj
    generalize W.fer[j]=f at*
    delta ZdF
    repeat (first|walk_at "s"|simp only[Fer.mv])
    refine⟨W,j,f,rfl,G,shf f hIm,hIj,?_⟩
    repeat (first|walk_at "s"|simp only[Fer.mv])
    refine Z5L rfl (Z1u 1 f.mv rfl) (by decide) ?_
    try walk_at "s"
    exact(hJ3 _ _ _).mpr ⟨rfl,_,rfl⟩
   ·rintro σ M' h
    obtain⟨rfl,v14,rfl⟩:=(hJ3 _ _ _).mp h
    delta ZdE
    walk_at "s"
    intro p1 h1
    have s1:=SameM.new h1 (.lst [])
    have e1:updM M' p1 (.lst []) p1=some (.lst []):=Z02
    have hd4:=s1 _ _ hd3
    have he4:=s1 _ _ he3
    generalize updM M' p1 _=M4 at*
    refine Z7x hd4 e1 (Z2j (λz=>?_) (λz=>?_))
    ·delta ZaN
     walk_at "s"
     exact q _
    intro p2 h2
    have s2:=SameM.new h2 (.lst [])
    have e2:updM M4 p2 (.lst []) p2=some (.lst []):=Z02
    have hd5:=s2 _ _ hd4
    have he5:=s2 _ _ he4
    generalize updM M4 p2 _=M5 at*
    refine Z7x he5 e2 (Z2j (λz'=>?_) (λz'=>?_))
    ·delta ZaN
     walk_at "s"
     exact q _
    obtain⟨I,Is,eI⟩:∃I Is,W.isl=I::Is:=by
     cases h:W.isl with
     |nil=>rw[h]at z;exact absurd rfl z
     |cons I Is=>exact⟨_,_,rfl⟩
    obtain⟨f,fs,ef⟩:∃f fs,W.fer=f::fs:=by
     cases h:W.fer with
     |nil=>rw[h]at z';exact absurd rfl z'
     |cons I Is=>exact⟨_,_,rfl⟩
    have mI:I∈W.isl:=by rw[eI];exact Y0l ..
    have mf:f∈W.fer:=by rw[ef];exact Y0l ..
    rw[eI,Y0b]at hd5
    rw[ef,Y0b]at he5
    delta ZdD
    repeat (first|walk_at "s"|simp only[hd5,he5,Isl.mv,Fer.mv])
    exact⟨W,I.name,f.name,rfl,G,shi I mI,shf f mf,Y0o.mpr ⟨I,mI,rfl⟩,Y0o.mpr ⟨f,mf,rfl⟩,q _⟩
  delta ZdJ
  repeat (first|walk_at "s"|simp only[r2])
  obtain⟨J2,hJ2⟩:∃J:Nat->Sm->MH->Prop,∀j σ M',J j σ M'↔SameM M11 M'/\∃v8 v9 v10 v11 v12 v13,σ=[some (.frl (ns.map MV.int)),some (.int W.w),some (.ref pi),some (.ref pf),some (.ref pd),some (.ref ph),some W.mv,some (.ref pe),v8,v9,v10,v11,v12,v13,none]:=⟨_,λ_ _ _=>Y1N⟩
  refine⟨J2,(hJ2 _ _ _).mpr ⟨SameM.refl _,_,_,_,_,_,_,rfl⟩,λj σ M' h=>((hJ2 _ _ _).mp h).1 _ _ r2,?_,?_⟩
  ·rintro j y σ M3 hy h
   obtain⟨s3,w8,w9,w10,w11,w12,w13,rfl⟩:=(hJ2 _ _ _).mp h
   obtain⟨hj,rfl⟩:=Z0F (show(W.isl.map Isl.mv)[j]?=some y from hy)
   have hIj:W.isl[j]?=some W.isl[j]:=Y01 hj
   have hIm:W.isl[j]∈W.isl:=Y0p hj
   generalize W.isl[j]=I at*
   have r3':=s3 _ _ r3
   delta ZdI
   walk_at "s"
   refine Z3Y W.fer Fer.mv (λf=>.str f.name) (Z88 I.name) ?_ ?_ hΦ λpo hpo=>?_
   ·repeat (first|walk_at "s"|simp only[r3'])
    exact⟨rfl,by lia,r3'⟩
   ·intro x hx M' s
    simp only[sCm,Y0b,Y0M,Y0r,Y0s,Y0B,Y0F]
    repeat (first|walk_at "s"|simp only[Fer.mv,Isl.mv])
    refine Z2j (λc=>?_) (λc=>?_)
    ·exact⟨by unfold Z88;rw[decide_eq_true c];rfl,λ_=>trivial⟩
    ·exact⟨by unfold Z88;rw[decide_eq_false c];rfl,λ_=>trivial⟩
   have s4:=SameM.new hpo (.lst ((W.fer.filter (Z88 I.name)).map λf=>.str f.name))
   have ho:updM M3 po (.lst ((W.fer.filter (Z88 I.name)).map λf=>.str f.name)) po=some (.lst ((W.fer.filter (Z88 I.name)).map λf=>.str f.name)):=Z02
   generalize updM M3 po _=M4 at*
   delta ZdH
   repeat (first|walk_at "s"|simp only[Isl.mv])
   refine⟨W,I.name,rfl,G,Y0o.mpr ⟨I,hIm,rfl⟩,λp5 M5 s5 hp5 hx=>?_⟩
   try walk_at "s"
   delta ZdG
   walk_at "s"
   refine⟨W,j,I,rfl,G,shi I hIm,hIj,?_⟩
   repeat (first|walk_at "s"|simp only[Isl.mv])
   refine Z5L rfl (Z1u 11 I.mv (Zby G hIm)) (by decide) ?_
   repeat (first|walk_at "s"|simp only[hx])
   have fl:∀v∈(W.fer.filter (Z88 I.name)).map (λf=>MV.str f.name),Z2O v=true:=λv hv=>by obtain⟨c,_,rfl⟩:=Y0o.mp hv;rfl
   refine Z5L rfl (Alike.lstFlat 0 (.inr ⟨_,rfl,hx⟩) (.inr ⟨_,rfl,s5 _ _ ho⟩) fl) (by decide) ?_
   try walk_at "s"
   exact(hJ2 _ _ _).mpr ⟨s3.trans (s4.trans s5),_,_,_,_,_,_,rfl⟩
  ·rintro σ M3 h
   obtain⟨s3,w8,w9,w10,w11,w12,w13,rfl⟩:=(hJ2 _ _ _).mp h
   exact last M3 _ _ _ _ _ _ (s3 _ _ r2) (s3 _ _ r3)
end
theorem all_mk{l:Y3d}{w:World}{K:Y00}{h:Heap}{mg:Str->Option Value}{fa:Addr}(X:K.In h)(G:h.Ns mainGlobals mg)(hfa:mg "law"=some (.ref fa))
  {f1 f2 f3 f4 f5 f6 f7 f8 f9 f10 f11 f12 f13 f14 f15 f16 f17 f18 f19 f20 f21 f22 f23 f24 f25 f26 f27 f28 f29 f30 f31 f32 f33 f34 f35 f36:Addr} {d1 d2 d3 d4 d5 d6 d7 d8 d9 d10 d11 d12 d13 d14 d15 d16 d17 d18 d19 d20 d21 d22 d23 d24 d25 d26 d27 d28 d29 d30 d31 d32 d33 d34 d35 d36:FuncData}
  {tk1:Tok}
  {tk2:Tok}
  {tk3:Tok}
  {tk4:Tok}
  {tk5:Tok}
  {tk6:Tok}
  {tk7:Tok}
  {tk8:Tok}
  {tk9:Tok}
  {tk10:Tok}
  (h1:Fn1 K "is_whole" Z2z f1 d1)
  (h2:Fn1 K "is_width" Z2y f2 d2)
  (h3:Fn1 K "two_to" Z56 f3 d3)
  (h4:Fn1 K "fits" Z9s f4 d4)
  (h5:Fn1 K "parts_within" Z0Y f5 d5)
  (h6:Fn1 K "size_of" Z3p f6 d6)
  (h7:Fn1 K "names_read" Z1A f7 d7)
  (h8:Fn1 K "vars_in" Z3o f8 d8)
  (h9:Fn1 K "is_name" Z3q f9 d9)
  (h10:Fn1 K "refuse_name" Z1f f10 d10)
  (h11:Fn1 K "refuse_unknown" Z0I f11 d11)
  (h12:Fn1 K "refuse_ferry_names" Z0n f12 d12)
  (h13:Fn1 K "refuse_variables" Z0D f13 d13)
  (h14:Fn1 K "refuse_term" Z1d f14 d14)
  (h15:Fn1 K "refuse_step" Z1e f15 d15)
  (h16:Fn1 K "refuse_island" Z0P f16 d16)
  (h17:Fn1 K "refuse_islands" Z0J f17 d17)
  (h18:Fn1 K "refuse_ferry" Z0X f18 d18)
  (h19:Fn1 K "refuse_wrong_end" Z0C f19 d19)
  (h20:Fn1 K "refuse_wrong_ends" Z0x f20 d20)
  (h21:Fn1 K "frozen" Z57 f21 d21)
  (h22:Fn1 K "made" Z9r f22 d22)
  (h23:Fn1 K "one_called" Z1z f23 d23)
  (h24:Fn1 K "island_of" Z1W f24 d24)
  (h25:Fn1 K "ferry_of" Z2A f25 d25)
  (h26:Fn1 K "ferries_at" Z1B f26 d26)
  (h27:Fn1 K "_law_cell" Z20 f27 d27)
  (h28:Fn1 K "_law_mix" Z2B f28 d28)
  (h29:Fn1 K "_law_names" Z1D f29 d29)
  (h30:Fn1 K "_law_word" Z1X f30 d30)
  (h31:Fn1 K "_law_term" Z1Y f31 d31)
  (h32:Fn1 K "_law_step" Z1Z f32 d32)
  (h33:Fn1 K "_law_ferries" Z10 f33 d33)
  (h34:Fn1 K "_law_world" Z1C f34 d34)
  (h35:Fn1 K "_law_refused" Z0Z f35 d35)
  (h36:Fn1 K "law" ZcN f36 d36)
  (z1:Y0h K mainGlobals "ValueError"=some none)
  (z2:Y0h K mainGlobals "all"=some none)
  (z3:Y0h K mainGlobals "bool"=some none)
  (z4:Y0h K mainGlobals "dict"=some none)
  (z5:Y0h K mainGlobals "int"=some none)
  (z6:Y0h K mainGlobals "isinstance"=some none)
  (z7:Y0h K mainGlobals "len"=some none)
  (z8:Y0h K mainGlobals "list"=some none)
  (z9:Y0h K mainGlobals "max"=some none)
  (z10:Y0h K mainGlobals "min"=some none)
  (z11:Y0h K mainGlobals "range"=some none)
  (z12:Y0h K mainGlobals "set"=some none)
  (z13:Y0h K mainGlobals "sorted"=some none)
  (z14:Y0h K mainGlobals "tuple"=some none)
  (g1:Y0h K mainGlobals "MOST_WIDTH"=some (some (.int 64 tk1)))
  (g2:Y0h K mainGlobals "MOST_LETTERS"=some (some (.int 8 tk2)))
  (g3:Y0h K mainGlobals "MOST_ISLANDS"=some (some (.int 5 tk3)))
  (g4:Y0h K mainGlobals "MOST_FERRIES"=some (some (.int 6 tk4)))
  (g5:Y0h K mainGlobals "MOST_VARS"=some (some (.int 6 tk5)))
  (g6:Y0h K mainGlobals "MOST_STEPS"=some (some (.int 12 tk6)))
  (g7:Y0h K mainGlobals "MOST_PARTS"=some (some (.int 30 tk7)))
  (g8:Y0h K mainGlobals "MOST_DEPTH"=some (some (.int 8 tk8)))
  (g9:Y0h K mainGlobals "MOST_K"=some (some (.int 3 tk9)))
  (g10:Y0h K mainGlobals "MOST_STAGES"=some (some (.int 3 tk10)))
  (xx:exsB K XB XC=true):
  ∃fd:FuncData,(∀(s:Shared) (v:Value),BindsTo s fd ⟨[v],[]⟩ [("script",v)])/\∀base:Heap,K.In base->base.Ns mainGlobals mg->FnOk l.prog w K mg base CX0 60 fa fd ["script"] (Zb9 K):=by
 have e:=hfa.symm.trans (Y0T X G h36.a)
 cases e
 have T:Txt K mg ⟨f1,d1,f2,d2,f3,d3,f4,d4,f5,d5,f6,d6,f7,d7,f8,d8,f9,d9,f10,d10,f11,d11,f12,d12,f13,d13,f14,d14,f15,d15,f16,d16,f17,d17,f18,d18,f19,d19,f20,d20,f21,d21,f22,d22,f23,d23,f24,d24,f25,d25,f26,d26,f27,d27,f28,d28,f29,d29,f30,d30,f31,d31,f32,d32,f33,d33,f34,d34,f35,d35,fa,d36⟩:={
  q_is_whole:=h1.t X G λ_ _ _ _ _ _=>us1 (λ_=>rfl)
  q_is_width:=h2.t X G λ_ _ _ _ _ _=>us1 (λ_=>rfl)
  q_two_to:=h3.t X G λ_ _ _ _ _ _=>us1 (λ_=>rfl)
  q_fits:=h4.t X G λ_ _ _ _ _ _=>us2 (λ_ _=>rfl)
  q_parts_within:=h5.t X G λ_ _ _ _ _ _=>us1 (λ_=>rfl)
  q_size_of:=h6.t X G λ_ _ _ _ _ _=>us1 (λ_=>rfl)
  q_names_read:=h7.t X G λ_ _ _ _ _ _=>us1 (λ_=>rfl)
  q_vars_in:=h8.t X G λ_ _ _ _ _ _=>us1 (λ_=>rfl)
  q_is_name:=h9.t X G λ_ _ _ _ _ _=>us1 (λ_=>rfl)
  q_refuse_name:=h10.t X G λ_ _ _ _ _ _=>us2 (λ_ _=>rfl)
  q_refuse_unknown:=h11.t X G λ_ _ _ _ _ _=>us2 (λ_ _=>rfl)
  q_refuse_ferry_names:=h12.t X G λ_ _ _ _ _ _=>us1 (λ_=>rfl)
  q_refuse_variables:=h13.t X G λ_ _ _ _ _ _=>us2 (λ_ _=>rfl)
  q_refuse_term:=h14.t X G λ_ _ _ _ _ _=>us2 (λ_ _=>rfl)
  q_refuse_step:=h15.t X G λ_ _ _ _ _ _=>us4 (λ_ _ _ _=>rfl)
  q_refuse_island:=h16.t X G λ_ _ _ _ _ _=>us3 (λ_ _ _=>rfl)
  q_refuse_islands:=h17.t X G λ_ _ _ _ _ _=>us3 (λ_ _ _=>rfl)
  q_refuse_ferry:=h18.t X G λ_ _ _ _ _ _=>us2 (λ_ _=>rfl)
  q_refuse_wrong_end:=h19.t X G λ_ _ _ _ _ _=>us4 (λ_ _ _ _=>rfl)
  q_refuse_wrong_ends:=h20.t X G λ_ _ _ _ _ _=>us2 (λ_ _=>rfl)
  q_frozen:=h21.t X G λ_ _ _ _ _ _=>us1 (λ_=>rfl)
  q_made:=h22.t X G λ_ _ _ _ _ _=>us3 (λ_ _ _=>rfl)
  q_one_called:=h23.t X G λ_ _ _ _ _ _=>us2 (λ_ _=>rfl)
  q_island_of:=h24.t X G λ_ _ _ _ _ _=>us2 (λ_ _=>rfl)
  q_ferry_of:=h25.t X G λ_ _ _ _ _ _=>us2 (λ_ _=>rfl)
  q_ferries_at:=h26.t X G λ_ _ _ _ _ _=>us2 (λ_ _=>rfl)
  q__law_cell:=h27.t X G λ_ _ _ _ _ _=>us2 (λ_ _=>rfl)
  q__law_mix:=h28.t X G λ_ _ _ _ _ _=>us2 (λ_ _=>rfl)
  q__law_names:=h29.t X G λ_ _ _ _ _ _=>us2 (λ_ _=>rfl)
  q__law_word:=h30.t X G λ_ _ _ _ _ _=>us2 (λ_ _=>rfl)
  q__law_term:=h31.t X G λ_ _ _ _ _ _=>us3 (λ_ _ _=>rfl)
  q__law_step:=h32.t X G λ_ _ _ _ _ _=>us5 (λ_ _ _ _ _=>rfl)
  q__law_ferries:=h33.t X G λ_ _ _ _ _ _=>us3 (λ_ _ _=>rfl)
  q__law_world:=h34.t X G λ_ _ _ _ _ _=>us2 (λ_ _=>rfl)
  q__law_refused:=h35.t X G λ_ _ _ _ _ _=>us3 (λ_ _ _=>rfl)
  q_law:=h36.t X G λ_ _ _ _ _ _=>us1 (λ_=>rfl)
  z_ValueError:=Y0D X G z1
  z_all:=Y0D X G z2
  z_bool:=Y0D X G z3
  z_dict:=Y0D X G z4
  z_int:=Y0D X G z5
  z_isinstance:=Y0D X G z6
  z_len:=Y0D X G z7
  z_list:=Y0D X G z8
  z_max:=Y0D X G z9
  z_min:=Y0D X G z10
  z_range:=Y0D X G z11
  z_set:=Y0D X G z12
  z_sorted:=Y0D X G z13
  z_tuple:=Y0D X G z14
  c_MOST_WIDTH:=⟨_,Y0T X G g1⟩
  c_MOST_LETTERS:=⟨_,Y0T X G g2⟩
  c_MOST_ISLANDS:=⟨_,Y0T X G g3⟩
  c_MOST_FERRIES:=⟨_,Y0T X G g4⟩
  c_MOST_VARS:=⟨_,Y0T X G g5⟩
  c_MOST_STEPS:=⟨_,Y0T X G g6⟩
  c_MOST_PARTS:=⟨_,Y0T X G g7⟩
  c_MOST_DEPTH:=⟨_,Y0T X G g8⟩
  c_MOST_K:=⟨_,Y0T X G g9⟩
  c_MOST_STAGES:=⟨_,Y0T X G g10⟩
  ex:=Zk1 xx z1 X G
 }
 exact⟨d36,h36.bt λ_ _ _ _ _ _ _=>rfl,λbase _ _=>Zhm (FnOk.mono (Zjs T) (by decide))⟩
theorem walk{l:Y3d}{q:Program}{loose:List Str}{XP:(Str->Option Value)->Heap->Prop}{YP:World->Heap->Prop}{d:DefRec}{K:Params->Y00}(hn:l.most=some 63)(hdf:d.params.defaults=[])
  (hY:∀(w:World) (h:Heap),YP w h->(K w.params).In h)
  (F:∀(w:World) (mg:Str->Option Value) (fa:Addr) (h:Heap),(K w.params).In h->h.Ns mainGlobals mg->mg d.name=some (.ref fa)->
   ∃fd:FuncData,(∀(s:Shared) (u:Value),BindsTo s fd ⟨[u],[]⟩ [("script",u)])/\∀base:Heap,(K w.params).In base->base.Ns mainGlobals mg->FnOk l.prog w (K w.params) mg base CX0 60 fa fd ["script"] (Zb9 (K w.params))):
  PySem.W.WalkO q loose XP YP l.row.toRowW d [] (λf vs=>PySem.call f vs):=
 L2.walk_of (n:=63) (k:=60) (x:="script") (CX:=fun _=>CX0) (sp:=fun w=>Zb9 (K w.params)) hn (by decide) hdf ⟨rfl,by decide,by decide⟩ hY F (fun _ H a ns hl hO hS=>⟨a,ns,rfl,ZjZ hO hS,hl,fun _=>rfl⟩) fun _ _ _ _ _ z=>z
end My
namespace PySem.W.Fast
theorem tw14103590475337102766:True:=trivial
theorem tw907997339656383101:True:=trivial
theorem tw10206591499298425512:True:=trivial
theorem tw11774290916381602722:True:=trivial
theorem tw4442755643867952648:True:=trivial
theorem tw11202171176143128022:True:=trivial
theorem tw12641019967042404358:True:=trivial
theorem tw18254271454519919217:True:=trivial
theorem tw4558863212088114469:True:=trivial
theorem tw5295336497135002882:True:=trivial
theorem tw3560263791152824586:True:=trivial
theorem tw17346503008153891909:True:=trivial
theorem tw7660797915254515705:True:=trivial
theorem tw5325488149662168358:True:=trivial
theorem tw11157274672703071418:True:=trivial
theorem tw14764132482325098977:True:=trivial
theorem tw2559551357663131760:True:=trivial
theorem tw8022700186848202460:True:=trivial
theorem tw2520380604751370459:True:=trivial
theorem tw8313169395290309332:True:=trivial
theorem tw14982609588496399197:True:=trivial
theorem tw10388183630217372007:True:=trivial
theorem tw15003599157561248394:True:=trivial
theorem tw10836412130984348234:True:=trivial
theorem tw6484268621637329393:True:=trivial
theorem tw3323136142601283510:True:=trivial
theorem tw17900412205198951070:True:=trivial
theorem tw12190310552217566822:True:=trivial
theorem tw17978584355108507721:True:=trivial
theorem tw11069883551936873804:True:=trivial
theorem tw3110411157988995713:True:=trivial
theorem tw16612641439024139971:True:=trivial
theorem tw9823429529961939743:True:=trivial
theorem tw9991729876166503342:True:=trivial
theorem tw15907043633103588718:True:=trivial
theorem tw15489062273603767845:True:=trivial
theorem tw18320838437278791098:True:=trivial
theorem tw10405831854528448108:True:=trivial
theorem tw12344693041565914412:True:=trivial
theorem tw14684337227070234112:True:=trivial
theorem tw16233539859715206960:True:=trivial
theorem tw11908591284429420388:True:=trivial
theorem tw9384301366086517829:True:=trivial
theorem tw239710066968837657:True:=trivial
theorem tw5518631500803983593:True:=trivial
theorem tw15941138330937648013:True:=trivial
theorem tw18372786834348263933:True:=trivial
theorem tw17607837994923210546:True:=trivial
theorem tw1146169466705425730:True:=trivial
theorem tw342492386512530717:True:=trivial
theorem tw1809438748235149103:True:=trivial
theorem tw17502668124944045485:True:=trivial
theorem tw11222708185782512989:True:=trivial
theorem tw789937039134351732:True:=trivial
theorem tw17443770531198206558:True:=trivial
theorem tw17091543101683092665:True:=trivial
theorem tw9395113905225774847:True:=trivial
theorem tw13097679306262523011:True:=trivial
theorem tw38847070085249115:True:=trivial
theorem tw6807191733797955494:True:=trivial
theorem tw14592923751206363339:True:=trivial
theorem tw6195984832843680509:True:=trivial
theorem tw10898194944748402664:True:=trivial
theorem tw16298092909768473286:True:=trivial
theorem tw5912041613826224771:True:=trivial
theorem tw2210915072632182467:True:=trivial
theorem tw3768986193261298106:True:=trivial
theorem tw1301554095124065825:True:=trivial
theorem tw15873583724348351546:True:=trivial
theorem tw17605220502150881454:True:=trivial
theorem tw13977686468880920970:True:=trivial
theorem tw3144689007183088190:True:=trivial
theorem tw7694537932549060574:True:=trivial
theorem tw12430588372625003104:True:=trivial
theorem tw7411116426397828037:True:=trivial
theorem tw15614486828789301037:True:=trivial
theorem tw16591694543759944076:True:=trivial
theorem tw13804202468368673568:True:=trivial
theorem tw5416859654066389586:True:=trivial
theorem tw6777068487303477103:True:=trivial
theorem tw11176960884386393785:True:=trivial
theorem tw4594137890666706492:True:=trivial
theorem tw4908100966784602176:True:=trivial
theorem tw11947714540315650349:True:=trivial
theorem tw515989988394270988:True:=trivial
theorem tw5502939677272038201:True:=trivial
theorem tw17152731654451741348:True:=trivial
theorem tw90949960623880006:True:=trivial
theorem tw12773728859968455907:True:=trivial
theorem tw16645581048637214842:True:=trivial
theorem tw4599680059952539205:True:=trivial
theorem tw5890872034027401731:True:=trivial
theorem tw7661388448206039601:True:=trivial
theorem tw10054603363473929042:True:=trivial
theorem tw16488268256589514237:True:=trivial
theorem tw1757838205591906812:True:=trivial
theorem tw12062067565470009104:True:=trivial
theorem tw4807881879266116659:True:=trivial
theorem tw5831521386431858610:True:=trivial
theorem tw8950496104477306301:True:=trivial
theorem tw15141855624306008026:True:=trivial
theorem tw4437893636632525335:True:=trivial
theorem tw5926428360787075418:True:=trivial
theorem tw12642655753378207335:True:=trivial
theorem tw2061713636286203309:True:=trivial
theorem tw6843032762918710546:True:=trivial
theorem tw10667077220887804844:True:=trivial
theorem tw13204705850252785784:True:=trivial
theorem tw12986686406468351587:True:=trivial
theorem tw17283479350393248775:True:=trivial
theorem tw4948432755409144732:True:=trivial
theorem tw3592293564356439417:True:=trivial
theorem tw17179685002590879707:True:=trivial
theorem tw17104281809335381091:True:=trivial
theorem tw8504986847306944202:True:=trivial
theorem tw8494234958017495867:True:=trivial
theorem tw1229655280928300265:True:=trivial
theorem tw1766204314451482824:True:=trivial
theorem tw2108614713781946171:True:=trivial
theorem tw1288621122155695752:True:=trivial
theorem tw10240885616896353542:True:=trivial
theorem tw3942451660051989747:True:=trivial
theorem tw18126468879969860167:True:=trivial
theorem tw2995798285541264623:True:=trivial
theorem tw3963836308652006715:True:=trivial
theorem tw4443759029950565649:True:=trivial
theorem tw4971851647357181526:True:=trivial
theorem tw406448368776116914:True:=trivial
theorem tw5435076914409100155:True:=trivial
theorem tw5574758288372350492:True:=trivial
theorem tw7983698004772826427:True:=trivial
theorem tw14318592362317825094:True:=trivial
theorem tw13774355176845737763:True:=trivial
theorem tw112207380018801017:True:=trivial
theorem tw17558764266732908380:True:=trivial
theorem tw13297702150762221388:True:=trivial
theorem tw11989262354454059733:True:=trivial
theorem tw6002515487967412485:True:=trivial
theorem tw5263731964020654353:True:=trivial
theorem tw3283596173521338952:True:=trivial
theorem tw4235397936445557889:True:=trivial
theorem tw13502502651032240769:True:=trivial
theorem tw16329472267478695367:True:=trivial
theorem tw13098822882752714395:True:=trivial
theorem tw14910786511356494726:True:=trivial
theorem tw10951121556365715319:True:=trivial
theorem tw16159479911912255533:True:=trivial
theorem tw969435221089387615:True:=trivial
theorem tw387517252122728515:True:=trivial
theorem tw12475289111616739396:True:=trivial
theorem tw9688827289758223239:True:=trivial
theorem tw2316250251039863757:True:=trivial
theorem tw2094540834905042619:True:=trivial
theorem tw17800350510233050626:True:=trivial
theorem tw7536531724891384768:True:=trivial
theorem tw3519187220819382253:True:=trivial
theorem tw1637824646957915115:True:=trivial
theorem tw13582005437109503855:True:=trivial
theorem tw5243407518348590376:True:=trivial
theorem tw16169126919592088860:True:=trivial
theorem tw2006887651199536200:True:=trivial
theorem tw5564736741022847691:True:=trivial
theorem tw17108486413094824971:True:=trivial
theorem tw12790769365563333080:True:=trivial
theorem tw6137979891720476267:True:=trivial
theorem tw17694978723204209179:True:=trivial
theorem tw417630731592264282:True:=trivial
theorem tw4396070953051211488:True:=trivial
theorem tw13399982101869635594:True:=trivial
theorem tw12004476840505273641:True:=trivial
theorem tw5855833546275332251:True:=trivial
theorem tw10199950251918708150:True:=trivial
theorem tw15586683140078754587:True:=trivial
theorem tw10058018790816268981:True:=trivial
theorem tw17554929771821537428:True:=trivial
theorem tw9369833582908856298:True:=trivial
theorem tw1989632228133892736:True:=trivial
theorem tw14079623526194059907:True:=trivial
theorem tw1812930120355923147:True:=trivial
theorem tw12883475548448446311:True:=trivial
theorem tw1821017528965990149:True:=trivial
theorem tw13271918621243110183:True:=trivial
theorem tw16953806963732136401:True:=trivial
theorem tw14498777617492827824:True:=trivial
theorem tw17235281374516585221:True:=trivial
theorem tw18275030199892417390:True:=trivial
theorem tw5217482029803491010:True:=trivial
theorem tw537966056209401237:True:=trivial
theorem tw1465078234741129057:True:=trivial
theorem tw11664447611368361817:True:=trivial
theorem tw16347532484235884709:True:=trivial
theorem tw4664777092941474889:True:=trivial
theorem tw12306220219387759149:True:=trivial
theorem tw2763594148404886699:True:=trivial
theorem tw15750073881103967157:True:=trivial
theorem tw1972526891645531591:True:=trivial
theorem tw12153730203147459940:True:=trivial
theorem tw5247526392321826325:True:=trivial
theorem tw18076131434210333176:True:=trivial
theorem tw9450408630398110676:True:=trivial
theorem tw9778709036252000098:True:=trivial
theorem tw10023450159252319272:True:=trivial
theorem tw8266564243270020786:True:=trivial
theorem tw14256078577523557320:True:=trivial
theorem tw11730713580425139666:True:=trivial
theorem tw13073319458941090742:True:=trivial
theorem tw2725655545505683463:True:=trivial
theorem tw2871006833480532154:True:=trivial
theorem tw13513600817019057026:True:=trivial
theorem tw4378737265368570363:True:=trivial
theorem tw16563272202722384178:True:=trivial
theorem tw589423386985970103:True:=trivial
theorem tw4357082736088366215:True:=trivial
theorem tw12165446080041890521:True:=trivial
theorem tw675136958005708851:True:=trivial
theorem tw10957978255971734018:True:=trivial
theorem tw16042568497122533870:True:=trivial
theorem tw9591263753622094113:True:=trivial
theorem tw8822925103064887661:True:=trivial
theorem tw12019705671762786951:True:=trivial
theorem tw6526171147089612227:True:=trivial
theorem tw1232333962007157536:True:=trivial
theorem tw8705378081356743844:True:=trivial
theorem tw7484532953544843805:True:=trivial
theorem tw7895875559964396640:True:=trivial
theorem tw1011028702598314380:True:=trivial
theorem tw10887993572345601005:True:=trivial
theorem tw13267088082608134812:True:=trivial
theorem tw13995289525409745064:True:=trivial
theorem tw13262562808076151079:True:=trivial
theorem tw3172945598812699565:True:=trivial
theorem tw4874829859189383087:True:=trivial
theorem tw10121988707252049938:True:=trivial
theorem tw15390913471636362143:True:=trivial
theorem tw12175567771749291833:True:=trivial
theorem tw5722654385288539338:True:=trivial
theorem tw9684565836381788013:True:=trivial
theorem tw13559888034755657275:True:=trivial
theorem tw9002458014609037182:True:=trivial
theorem tw41789782964245833:True:=trivial
theorem tw16459430524105198822:True:=trivial
theorem tw13751821982015150964:True:=trivial
theorem tw17023143683985521875:True:=trivial
theorem tw16432845348617849239:True:=trivial
theorem tw3164954683088443662:True:=trivial
theorem tw5086042777923421043:True:=trivial
theorem tw16559337555714112798:True:=trivial
theorem tw2180359854574836687:True:=trivial
theorem tw14358558740764677912:True:=trivial
theorem tw9791570651135119895:True:=trivial
theorem tw12962676170354783758:True:=trivial
theorem tw1027510073968773348:True:=trivial
theorem tw7393886136076734248:True:=trivial
theorem tw14849465592825019498:True:=trivial
theorem tw8206809073940218518:True:=trivial
theorem tw5722309873478875423:True:=trivial
theorem tw8205622904208534675:True:=trivial
theorem tw7904154098921663414:True:=trivial
theorem tw14994493650584340125:True:=trivial
theorem tw16062724264984575255:True:=trivial
theorem tw3574526730153575179:True:=trivial
theorem tw795091316765849187:True:=trivial
theorem tw6476689165069348250:True:=trivial
theorem tw4416809931747053811:True:=trivial
theorem tw11467316103134702890:True:=trivial
theorem tw3909256267418053612:True:=trivial
theorem tw15492463281266451922:True:=trivial
theorem tw1919126151072411837:True:=trivial
theorem tw12841745856696634922:True:=trivial
theorem tw7326687036550732339:True:=trivial
theorem tw2792935770164950435:True:=trivial
theorem tw11243737898594613052:True:=trivial
theorem tw4431832836684056950:True:=trivial
theorem tw6786739193898002918:True:=trivial
theorem tw8605518367801633310:True:=trivial
theorem tw9492583083701424303:True:=trivial
theorem tw14240157537726179099:True:=trivial
theorem tw13690677108990248077:True:=trivial
theorem tw17559017673696655570:True:=trivial
theorem tw2823932110017224353:True:=trivial
theorem tw6156532594628012606:True:=trivial
theorem tw7911480000991881211:True:=trivial
theorem tw16628941303873034692:True:=trivial
theorem tw13002247198515064613:True:=trivial
theorem tw4120845794780598085:True:=trivial
theorem tw5707399968419520135:True:=trivial
theorem tw16402915037483683103:True:=trivial
theorem tw2758516813184920537:True:=trivial
theorem tw19784070175085314:True:=trivial
theorem tw18166632638044512067:True:=trivial
theorem tw11354063706027784369:True:=trivial
theorem tw15923240279300050605:True:=trivial
theorem tw4791050991560987322:True:=trivial
theorem tw9920333204769473774:True:=trivial
theorem tw5499906968020312438:True:=trivial
theorem tw9602467047569584181:True:=trivial
theorem tw5784011800641622982:True:=trivial
theorem tw9733652908421180136:True:=trivial
theorem tw4393520749126502484:True:=trivial
theorem tw6831015228100083276:True:=trivial
theorem tw1100805458906590690:True:=trivial
theorem tw9000063856307886061:True:=trivial
theorem tw2598570110639923536:True:=trivial
theorem tw13728948094919794438:True:=trivial
theorem tw9549219770305106794:True:=trivial
theorem tw16824080151867828936:True:=trivial
theorem tw8235229440742570509:True:=trivial
theorem tw10761530852345467003:True:=trivial
theorem tw6291640210754418797:True:=trivial
theorem tw9019130832932144775:True:=trivial
theorem tw7377348778136898516:True:=trivial
theorem tw15699132351896863835:True:=trivial
theorem tw1382138493631171258:True:=trivial
theorem tw11919052925640028685:True:=trivial
theorem tw11356789578202927717:True:=trivial
theorem tw12594476198690319003:True:=trivial
theorem tw17794415531491810860:True:=trivial
theorem tw13423716278803382663:True:=trivial
theorem tw12245782046593156391:True:=trivial
theorem tw14990730984747626002:True:=trivial
theorem tw16686968228780132970:True:=trivial
theorem tw8166730270563571123:True:=trivial
theorem tw17821534370213361304:True:=trivial
theorem tw17659042224381818426:True:=trivial
theorem tw7418459785193295938:True:=trivial
theorem tw14875467520760247140:True:=trivial
theorem tw2320395898986948598:True:=trivial
theorem tw5234944605906105241:True:=trivial
theorem tw6045788592083928309:True:=trivial
theorem tw18058389932597927371:True:=trivial
theorem tw7274209316617898326:True:=trivial
theorem tw14048303033255839833:True:=trivial
theorem tw2503173600053725409:True:=trivial
theorem tw2678158805700099693:True:=trivial
theorem tw2769655649672305421:True:=trivial
theorem tw12320843193060297880:True:=trivial
theorem tw14637655962479315902:True:=trivial
theorem tw6491837477284966203:True:=trivial
theorem tw10334115315436258614:True:=trivial
theorem tw6861128168911257044:True:=trivial
theorem tw14374718394838738680:True:=trivial
theorem tw2258928733441441310:True:=trivial
theorem tw4128164242773109838:True:=trivial
theorem tw10222979442654317444:True:=trivial
theorem tw10668526002718635852:True:=trivial
theorem tw9972614488137156019:True:=trivial
theorem tw10106853622422548545:True:=trivial
theorem tw11440205044329132810:True:=trivial
theorem tw12406966682981154182:True:=trivial
theorem tw2777243555393193781:True:=trivial
theorem tw2763630160700499451:True:=trivial
end PySem.W.Fast
open PySem PySem.W PyProof.Rows
local macro_rules | `(tactic| walk_at "q_fn") => `(tactic| (refine' ⟨?a, L2.fun_mk ?l ?c ?k⟩; (case a => k_is); (case l => k_is); (case c => k_is); (case k => k_is)))
set_option maxRecDepth 100000 in
set_option maxHeartbeats 0 in
theorem PySem.Challenge.cw_bellferry_k21_a_world_made_holds : PySem.Challenge.rw_bellferry_k21_a_world_made.Holds := by
 w_on;o_law;k_head;(case hw=>w_witness2)
 k_fill
 refine My.walk (l:=PySem.Challenge.rw_bellferry_k21_a_world_made) rfl rfl (λw h Y=>PySem.W.kIn_of Y) ?F
 case F=>
  intro w mg fa h KX G hmg
  refine' My.all_mk KX G hmg ?h1 ?h2 ?h3 ?h4 ?h5 ?h6 ?h7 ?h8 ?h9 ?h10 ?h11 ?h12 ?h13 ?h14 ?h15 ?h16 ?h17 ?h18 ?h19 ?h20 ?h21 ?h22 ?h23 ?h24 ?h25 ?h26 ?h27 ?h28 ?h29 ?h30 ?h31 ?h32 ?h33 ?h34 ?h35 ?h36 ?z1 ?z2 ?z3 ?z4 ?z5 ?z6 ?z7 ?z8 ?z9 ?z10 ?z11 ?z12 ?z13 ?z14 ?g1 ?g2 ?g3 ?g4 ?g5 ?g6 ?g7 ?g8 ?g9 ?g10 ?xx
  (case h1=>walk_at "q_fn")
  (case h2=>walk_at "q_fn")
  (case h3=>walk_at "q_fn")
  (case h4=>walk_at "q_fn")
  (case h5=>walk_at "q_fn")
  (case h6=>walk_at "q_fn")
  (case h7=>walk_at "q_fn")
  (case h8=>walk_at "q_fn")
  (case h9=>walk_at "q_fn")
  (case h10=>walk_at "q_fn")
  (case h11=>walk_at "q_fn")
  (case h12=>walk_at "q_fn")
  (case h13=>walk_at "q_fn")
  (case h14=>walk_at "q_fn")
  (case h15=>walk_at "q_fn")
  (case h16=>walk_at "q_fn")
  (case h17=>walk_at "q_fn")
  (case h18=>walk_at "q_fn")
  (case h19=>walk_at "q_fn")
  (case h20=>walk_at "q_fn")
  (case h21=>walk_at "q_fn")
  (case h22=>walk_at "q_fn")
  (case h23=>walk_at "q_fn")
  (case h24=>walk_at "q_fn")
  (case h25=>walk_at "q_fn")
  (case h26=>walk_at "q_fn")
  (case h27=>walk_at "q_fn")
  (case h28=>walk_at "q_fn")
  (case h29=>walk_at "q_fn")
  (case h30=>walk_at "q_fn")
  (case h31=>walk_at "q_fn")
  (case h32=>walk_at "q_fn")
  (case h33=>walk_at "q_fn")
  (case h34=>walk_at "q_fn")
  (case h35=>walk_at "q_fn")
  (case h36=>walk_at "q_fn")
  (case z1=>k_is)
  (case z2=>k_is)
  (case z3=>k_is)
  (case z4=>k_is)
  (case z5=>k_is)
  (case z6=>k_is)
  (case z7=>k_is)
  (case z8=>k_is)
  (case z9=>k_is)
  (case z10=>k_is)
  (case z11=>k_is)
  (case z12=>k_is)
  (case z13=>k_is)
  (case z14=>k_is)
  (case g1=>k_is)
  (case g2=>k_is)
  (case g3=>k_is)
  (case g4=>k_is)
  (case g5=>k_is)
  (case g6=>k_is)
  (case g7=>k_is)
  (case g8=>k_is)
  (case g9=>k_is)
  (case g10=>k_is)
  (case xx=>kernel_rfl)
#print axioms PySem.Challenge.cw_bellferry_k21_a_world_made_holds
